/-
  The document's numbers modulo L: the number that 32 bytes are; a number's bytes.
-/
import Derived.Test.YthhcjknkmdaeeaaDoorSRefK
namespace Go.Proofs.YthhcjknkmdaeeaaDoor
open Go.RowKit

theorem leNum_zeros : ∀ k, leNum (List.replicate k 0) = 0
  | 0 => rfl
  | k + 1 => by simp [List.replicate_succ, leNum, leNum_zeros k]
theorem leNum_padded (l : List UInt8) (k : Nat) : leNum (l ++ List.replicate k 0) = leNum l := by
  rw [leNum_append, leNum_zeros, Nat.mul_zero, Nat.add_zero]
/-- The first k of l's bytes; the others of 64 are 0. -/
def cpL (l : List UInt8) (k : Nat) : List UInt8 := l.take k ++ List.replicate (64 - k) 0
theorem cpL_length (l : List UInt8) {k : Nat} (h : k ≤ l.length) (h2 : k ≤ 64) : (cpL l k).length = 64 := by simp [cpL]; omega
theorem cpL_zero (l : List UInt8) : cpL l 0 = List.replicate 64 0 := rfl
theorem cpL_set (l : List UInt8) {k : Nat} (h : k < l.length) (h2 : k < 64) : (cpL l k).set k l[k] = cpL l (k + 1) := by
  unfold cpL
  rw [List.set_append_right _ _ (by rw [List.length_take]; omega), List.length_take, Nat.min_eq_left (by omega), Nat.sub_self,
    show 64 - k = (64 - (k + 1)) + 1 by omega, List.replicate_succ, List.set_cons_zero, List.take_succ_eq_append_getElem h, List.append_assoc]
  rfl
theorem cpL_full (l : List UInt8) (h : l.length = 32) : leNum (cpL l 32) = leNum l := by
  unfold cpL
  rw [List.take_of_length_le (by omega), leNum_padded]

def zb64 : Array Value := ((List.replicate 64 (0 : UInt8)).map bv).toArray
theorem Tryd.builtB64 : Tryd.prog.built 25 [] = some zb64 := by kernel_rfl
theorem Tryd.infoB64 : (Tryd.prog.info? 25).map (·.size) = some 64 := by kernel_rfl
theorem Tryd.infoB32 : (Tryd.prog.info? 26).map (·.size) = some 32 := by kernel_rfl
theorem Tryd.builtB32 : Tryd.prog.built 26 [] = some zb := by kernel_rfl

theorem sfrom_start (w : World) (l : List UInt8) (c1 c2 : Array Value) (h1 : c1 = (l.map bv).toArray) (h2 : c2 = ((lims 0).map nv).toArray) :
    HoldsB ((w.alloc (.cells c1 26)).alloc (.cells c2 24)) 26 w.heap.size l ∧ HoldsN ((w.alloc (.cells c1 26)).alloc (.cells c2 24)) 24 (w.heap.size + 1) (lims 0) ∧
    Below w.heap.size w ((w.alloc (.cells c1 26)).alloc (.cells c2 24)) ∧ ((w.alloc (.cells c1 26)).alloc (.cells c2 24)).heap.size = w.heap.size + 2 := by
  have e1 : (w.alloc (.cells c1 26)).heap.size = w.heap.size + 1 := World.size_alloc ..
  exact ⟨(holdsB_new w _ _ c1 l rfl h1).alloc _, holdsN_new _ _ _ c2 _ e1.symm h2, ((Below.refl _ w).alloc (Nat.le_refl _) _).alloc (by omega) _, by rw [World.size_alloc, e1]⟩

set_option maxRecDepth 100000 in
set_option maxHeartbeats 1000000 in
theorem sFrom_any (l : List UInt8) (w : World) (hl : l.length = 32) :
    Calls Tryd.prog 17 #[.agg (l.map bv).toArray] w (GaveF w (toS (leNum l)).val) := by
  obtain ⟨hA, hC, hb, hsz⟩ := sfrom_start w l _ #[.int .u64 0, .int .u64 0, .int .u64 0, .int .u64 0] rfl (by kernel_rfl)
  have LS : Hid (∀ W, Calls Tryd.prog 15 #[.agg ((cpL l 32).map bv).toArray] W fun e w' => e = .returned (.agg ((lims (toS (leNum l)).val).map nv).toArray) ∧ Below W.heap.size W w') := Lib.hid fun W => by
    have := sOf_any (cpL l 32) W (cpL_length l (by omega) (by omega))
    rwa [cpL_full l hl] at this
  generalize (toS (leNum l)).val = r at *
  have Hl := Lib.hid hl
  clear hl
  go_enter Tryd.func17, Tryd.ntmps17
  have z3 : HoldsB (((w.alloc (.cells (l.map bv).toArray 26)).alloc (.cells #[.int .u64 0, .int .u64 0, .int .u64 0, .int .u64 0] 24)).alloc (.cells zb64 25)) 25 (w.heap.size + 2) (List.replicate 64 0) := holdsB_new _ _ _ _ _ hsz.symm rfl
  have b3 := hb.alloc (by omega) (.cells zb64 25)
  have hA3 := hA.alloc (.cells zb64 25)
  have hC3 := hC.alloc (.cells zb64 25)
  clear hsz
  go_wp2_with (first
    | (with_reducible refine wpList_buildTo rfl 25 #[] rfl (some 5) rfl zb64 (by with_unfolding_all exact Tryd.builtB64) ?_)
    | (with_reducible refine wpList_store_bn 64 rfl 25 (.tmp 3) (.tmp 5) rfl (w.heap.size + 2) (List.replicate 64 0) (by with_unfolding_all exact rfl) (by with_unfolding_all exact rfl) (by simp) (List.replicate 64 0) (by with_unfolding_all exact z3) Tryd.infoB64 (by simp) w.heap.size w (by with_unfolding_all exact b3) (by omega) ?_
       intro w4 hX4 o4 s4 b4
       have hA4 : HoldsB w4 26 w.heap.size l := (o4 _ (by omega)).trans (by with_unfolding_all exact hA3)
       have hC4 : HoldsN w4 24 (w.heap.size + 1) (lims 0) := (o4 _ (by omega)).trans (by with_unfolding_all exact hC3)))
  clear hA hC hb hA3 hC3 b3 z3 o4 s4
  rw [← cpL_zero l] at hX4
  go_loopw [4] (fun v wr => ∃ k : Nat, k ≤ 32 ∧ v = .int .i64 (k : Int) ∧ HoldsB wr 26 w.heap.size l ∧ HoldsN wr 24 (w.heap.size + 1) (lims 0) ∧ HoldsB wr 25 (w.heap.size + 2) (cpL l k) ∧ Below w.heap.size w wr)
    (fun v _ => 32 - (intOf v).toNat)
  case atStart => exact ⟨0, Nat.zero_le _, rfl, hA4, hC4, hX4, b4⟩
  case round =>
    clear hA4 hC4 hX4 b4
    obtain ⟨k, hk, rfl, hA, hC, hX, hb⟩ := hrel
    by_cases hltk : k < 32
    · have hltk2 : (k : Int) < 32 := by omega
      have hltk3 : (k : Int) < 64 := by omega
      have hkl : k < l.length := by rw [Hl.out]; exact hltk
      have cA := hA.cell (j := k) hkl
      have cX := hX.cell (j := k) (by rw [cpL_length l (by omega) (by omega)]; omega)
      have fX := hX.frozen k
      have hset := Lib.hid (cpL_set l hkl (by omega))
      generalize hd : l[k] = d at *
      clear hd
      go_wp2
      go_roundw
      case rel => exact ⟨k + 1, by omega, by go_num, hA.setOther _ _ (by simp; omega), hC.setOther _ _ (by simp), by rw [← hset.out]; exact hX.set k _, (hb.setCell (by simp; omega) _)⟩
      case measure => simp [intOf]; omega
    · rw [show (k : Int) = 32 by omega]
      obtain rfl : k = 32 := by omega
      have xl : (cpL l 32).length = 64 := cpL_length l (by rw [Hl.out]; omega) (by omega)
      have Xl := Lib.hid xl
      clear xl
      generalize cpL l 32 = x at *
      go_wp2_with (first
        | (with_reducible refine wpList_load_bn 64 rfl 25 (.tmp 3) rfl (w.heap.size + 2) rfl x hX Xl.out Tryd.underlying25 Tryd.infoB64 ?_)
        | (go_at_call 15
           with_reducible refine (LS.out _).mono ?_
           rintro e w5 ⟨rfl, hb5⟩
           have hC5 := hC.keep hb5 hC.lt
           have b5 := hb.trans (hb5.mono hb.size))
        | (with_reducible refine wpList_store_n rfl 24 (.tmp 2) (.tmp 16) rfl (w.heap.size + 1) (lims r) 4 rfl rfl rfl (lims 0) hC5 Tryd.infoSc rfl w.heap.size w b5 (by omega) ?_; intro w7 Hg7 _ _ hb7))
      exact bodyPost_ret (results_cell_row rfl _ _ _ _ _ _ _ rfl Hg7 Tryd.underlying24 rfl (by rw [Tryd.infoSc]; rfl)) rfl ⟨rfl, hb7⟩

theorem sbytes_start (w : World) (m : Nat) (c1 c2 : Array Value) (h1 : c1 = ((lims m).map nv).toArray) (h2 : c2 = zb) :
    HoldsN ((w.alloc (.cells c1 24)).alloc (.cells c2 26)) 24 w.heap.size (lims m) ∧ HoldsB ((w.alloc (.cells c1 24)).alloc (.cells c2 26)) 26 (w.heap.size + 1) (List.replicate 32 0) ∧ Below w.heap.size w ((w.alloc (.cells c1 24)).alloc (.cells c2 26)) := by
  obtain ⟨a, b, e⟩ := sc_start w m c1 h1
  exact ⟨a.alloc _, holdsB_new _ _ _ _ _ e.symm h2, b.alloc (by omega) _⟩

set_option maxRecDepth 100000 in
set_option maxHeartbeats 1000000 in
theorem sBytes_any (m : Nat) (w : World) (hm : m < big) :
    Calls Tryd.prog 19 #[fev m] w fun e w' => e = .returned (.agg ((leBytes (toS m).val 32).map bv).toArray) ∧ Below w.heap.size w w' := by
  obtain ⟨hA, hC, hb⟩ := sbytes_start w m _ zb rfl rfl
  obtain ⟨a, ha⟩ : ∃ a, a = (toS m).val := ⟨_, rfl⟩
  have LM : Hid (∀ W, Calls Tryd.prog 25 #[.agg ((lims m).map nv).toArray] W fun e w' => e = .returned (.agg ((lims a).map nv).toArray) ∧ Below W.heap.size W w') := Lib.hid fun W => by rw [ha]; exact sLeast_any m W hm
  rw [fev_eq, ← ha]
  clear ha
  go_enter Tryd.func19, Tryd.ntmps19
  go_wp2_with (first
    | (with_reducible refine wpList_load_n rfl 24 (.tmp 1) rfl w.heap.size rfl (lims m) 4 (by with_unfolding_all exact hA) rfl Tryd.underlying24 Tryd.infoSc ?_)
    | (go_at_call 25
       (with_reducible refine (LM.out _).mono ?_)
       rintro e w3 ⟨rfl, hb3⟩
       have hA3 := hA.keep hb3 hA.lt
       have hC3 := hC.keep hb3 hC.lt
       have b3 := hb.trans (hb3.mono hb.size))
    | (with_reducible refine wpList_store_n rfl 24 (.tmp 1) (.tmp 6) rfl w.heap.size (lims a) 4 rfl rfl rfl (lims m) hA3 Tryd.infoSc rfl w.heap.size w b3 (Nat.le_refl _) ?_
       intro w4 hA4 o4 s4 b4
       clear s4
       have hC4 := hC3.oth o4 (by omega)
       have l4 := hC4.lt
       have z5 : HoldsB (w4.alloc (.cells zb 26)) 26 w4.heap.size (List.replicate 32 0) := holdsB_new w4 _ _ _ _ rfl rfl
       have b5 := b4.alloc b4.size (.cells zb 26)
       have hA5 := hA4.alloc (.cells zb 26)
       have hC5 := hC4.alloc (.cells zb 26))
    | (with_reducible refine wpList_buildTo rfl 26 #[] rfl (some 7) rfl zb (by with_unfolding_all exact Tryd.builtB32) ?_)
    | (with_reducible refine wpList_store_b rfl 26 (.tmp 3) (.tmp 7) rfl w4.heap.size (List.replicate 32 0) rfl (by with_unfolding_all exact rfl) (by simp) (List.replicate 32 0) (by with_unfolding_all exact z5) Tryd.infoB32 (by simp) w.heap.size w (by with_unfolding_all exact b5) (by omega) ?_
       intro w6 hD6 o6 s6 b6
       have hA6 : HoldsN w6 24 w.heap.size (lims a) := (o6 _ (by omega)).trans (by with_unfolding_all exact hA5)
       have hC6 : HoldsB w6 26 (w.heap.size + 1) (List.replicate 32 0) := (o6 _ (by omega)).trans (by with_unfolding_all exact hC5)))
  clear hA hC hb hA3 hC3 b3 hb3 hA4 hC4 b4 o4 z5 b5 hA5 hC5 o6 s6
  rw [← bytL_zero a] at hD6
  generalize w4.heap.size = g at *
  go_loopw [4] (fun v wr => ∃ k : Nat, k ≤ 32 ∧ v = .int .i64 (k : Int) ∧ HoldsN wr 24 w.heap.size (lims a) ∧ HoldsB wr 26 (w.heap.size + 1) (List.replicate 32 0) ∧ HoldsB wr 26 g (bytL a k) ∧ Below w.heap.size w wr)
    (fun v _ => 32 - (intOf v).toNat)
  case atStart => exact ⟨0, Nat.zero_le _, rfl, hA6, hC6, hD6, b6⟩
  case round =>
    clear hA6 hC6 hD6 b6
    obtain ⟨k, hk, rfl, hA, hC, hD, hb⟩ := hrel
    by_cases hlt : k < 32
    · have hlt2 : (k : Int) < 32 := by omega
      have ca := hA.cell (j := k / 8) (by rw [lims_length]; omega)
      rw [lims_get _ (by omega)] at ca
      have hf := hD.frozen k
      have co := hD.cell (j := k) (by rw [bytL_length]; exact hlt)
      have hset := Lib.hid (bytL_set a k)
      have hbl := byte_limb a k
      have eq4 : (k : Int).tdiv 8 = ((k / 8 : Nat) : Int) := by rw [Int.tdiv_eq_ediv_of_nonneg (by omega)]; omega
      have em4 : (k : Int).tmod 8 = ((k % 8 : Nat) : Int) := by rw [Int.tmod_eq_emod_of_nonneg (by omega)]; omega
      have lq : ((k / 8 : Nat) : Int) < 4 := by omega
      have hr4 : k % 8 < 8 := by omega
      generalize limb a (k / 8) = x at *
      generalize k / 8 = qq at *
      generalize k % 8 = rr at *
      have lr : (rr : Int) < 8 := by omega
      have wr1 : IntKind.i64.wrap (8 * (rr : Int)) = 8 * rr := by simp only [IntKind.wrap, IntKind.bits, IntKind.signed]; simp; omega
      have wr2 : IntKind.u64.wrap (8 * (rr : Int)) = 8 * rr := by rw [IntKind.wrap_u64]; omega
      have lr3 : 8 * (rr : Int) < 64 := by omega
      have hv : (x : Int) / 2 ^ (8 * rr) % 256 = ((UInt8.ofNat (a / 256 ^ k)).toNat : Int) := by
        rw [show (2 : Int) ^ (8 * rr) = ((2 ^ (8 * rr) : Nat) : Int) from (Int.natCast_pow 2 _).symm, ← Int.natCast_ediv, UInt8.toNat_ofNat']
        exact (Int.natCast_emod _ 256).symm.trans (congrArg _ hbl)
      have Hv := Lib.hid hv
      clear hv hbl
      generalize UInt8.ofNat (a / 256 ^ k) = d at *
      go_wp2
      go_roundw
      case rel => exact ⟨k + 1, by omega, by go_num, hA.setOther _ _ (by simp; omega), hC.setOther _ _ (by simp; omega), by rw [Hv.out, ← hset.out]; exact hD.set k d, hb.setCell (by simp; omega) _⟩
      case measure => simp [intOf]; omega
    · rw [show (k : Int) = 32 by omega]
      obtain rfl : k = 32 := by omega
      rw [bytL_full] at hD
      go_wp2_with (first
        | (with_reducible refine wpList_load_b rfl 26 (.tmp 3) rfl g rfl (leBytes a 32) hD (leBytes_length _ _) Tryd.underlying26 Tryd.infoB32 ?_)
        | (with_reducible refine wpList_store_b rfl 26 (.tmp 2) (.tmp 24) rfl (w.heap.size + 1) (leBytes a 32) rfl rfl (leBytes_length _ _) _ hC Tryd.infoB32 (by simp) w.heap.size w hb (by omega) ?_; intro w7 Hg _ _ hb7))
      exact bodyPost_ret (results_cell_row rfl _ _ (w.heap.size + 1) _ _ _ _ rfl Hg Tryd.underlying26 rfl (by rw [Tryd.infoB32]; simp [leBytes_length])) rfl ⟨rfl, hb7⟩
end Go.Proofs.YthhcjknkmdaeeaaDoor
