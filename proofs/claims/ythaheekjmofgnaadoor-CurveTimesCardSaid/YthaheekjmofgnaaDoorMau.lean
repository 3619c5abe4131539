/-
  The program's numbers modulo L: what is below 0; the number that bytes are.
  The program's numbers modulo L: the number that thirty-two bytes are; a number's bytes; which bytes are a number's.
  The program's curve: its variables; the field's functions said of numbers modulo P.
-/
import Derived.ChangeKeysEq
import Derived.Laws.CopyOwn
import Derived.Test.YthaheekjmofgnaaDoorMac
import Derived.Test.YthaheekjmofgnaaDoorMal
import Derived.Test.YthaheekjmofgnaaDoorMam
import Derived.Test.YthaheekjmofgnaaDoorMan
import Derived.Test.YthaheekjmofgnaaDoorMao
import Derived.Test.YthaheekjmofgnaaDoorMaq
import Derived.Test.YthaheekjmofgnaaDoorMar
import Derived.Test.YthaheekjmofgnaaDoorMat
namespace Go.Proofs.YthaheekjmofgnaaDoor
open Go.RowKit
namespace Sca

theorem neg_num (m : Nat) : (LL + big - m % LL) % big = LL - m % LL ∧ LL - m % LL < big := by
  have h : m % LL < LL := Nat.mod_lt _ (by decide)
  generalize m % LL = a at *
  unfold LL big at *
  omega

section
attribute [local go_sem ↓] load_sc

set_option maxRecDepth 100000 in
set_option maxHeartbeats 2000000 in
theorem Neg_any (m : Nat) (w : World) (hm : m < big) (L0 : Laid w) :
    Calls Tryd.prog 27 #[fev m] w (GaveF w (-toS m).val) := by
  have hsz := L0.size
  obtain ⟨hA, hC, hb, _⟩ := sc_start2 w m 0 _ #[.int .u64 0, .int .u64 0, .int .u64 0, .int .u64 0] rfl (by kernel_rfl)
  have LK : Hid (∀ W, Below w.heap.size w W → Laid W) := Lib.hid fun W h => L0.keep h hsz
  have B1 : Hid (∀ W, HoldsN W 32 w.heap.size (lims m) → Below w.heap.size w W → Calls Tryd.prog 51 #[.slice (some ⟨w.heap.size, 0, none⟩) 4 4] W fun e w' => e = .returned (.agg ((lims (m % LL)).map nv).toArray) ∧ Below W.heap.size W w') := Lib.hid fun W hW hbW => by
    have h := below_any (lims m) 4 w.heap.size 32 W rfl (by omega) (lims_small m) hW (L0.keep hbW hsz)
    rw [numL_lims hm] at h
    exact h
  have LS : Hid (∀ W, Calls Tryd.prog 54 #[.agg ((lims LL).map nv).toArray, .agg ((lims (m % LL)).map nv).toArray] W fun e w' => e = .returned (.tuple #[.agg ((lims (LL - m % LL)).map nv).toArray, .bool (decide (LL < m % LL))]) ∧ Below W.heap.size W w') := Lib.hid fun W => by
    have h := less_any LL (m % LL) W (by decide) (Nat.lt_trans (Nat.mod_lt _ (by decide)) (by decide))
    have e : fev (LL + big - m % LL) = fev (LL - m % LL) := by rw [fev_eq, fev_eq, lims_mod (LL + big - m % LL), (neg_num m).1]
    rw [e] at h
    exact h
  have B2 : Hid (∀ (g : Nat) W, HoldsN W 32 g (lims (LL - m % LL)) → Below w.heap.size w W → Calls Tryd.prog 51 #[.slice (some ⟨g, 0, none⟩) 4 4] W fun e w' => e = .returned (.agg ((lims (-toS m).val).map nv).toArray) ∧ Below W.heap.size W w') := Lib.hid fun g W hW hbW => by
    have h := below_any (lims (LL - m % LL)) 4 g 32 W rfl (by omega) (lims_small _) hW (L0.keep hbW hsz)
    rw [numL_lims (neg_num m).2] at h
    rw [Sn.val_neg, toS_val]
    exact h
  clear hm
  rw [fev_eq]
  generalize (-toS m).val = v at *
  generalize LL - m % LL = d at *
  generalize decide (LL < m % LL) = bl at *
  generalize m % LL = r at *
  have F0 : Bs w (w.heap.size + 1 + 1) [(w.heap.size, 32, ((lims m).map nv).toArray), (w.heap.size + 1, 32, ((lims 0).map nv).toArray)] _ := ⟨fun p hp => by
    simp only [List.mem_cons, List.not_mem_nil, or_false] at hp
    rcases hp with rfl | rfl
    · exact ⟨by simp only; omega, hA⟩
    · exact ⟨by simp only; omega, hC⟩, hC.lt, by omega, hb⟩
  clear hA hC hb
  go_enter Tryd.func27, Tryd.ntmps27
  go_upto_region 1 with (fail)
  generalize (w.alloc (.cells ((lims m).map nv).toArray 32)).alloc (.cells #[.int .u64 0, .int .u64 0, .int .u64 0, .int .u64 0] 32) = wv at *
  go_cut [3] (fun vp wx => ∃ g, vp = .pointer (some ⟨g, 0, none⟩) ∧ Bs w (g + 1) [(g, 32, ((lims d).map nv).toArray), (w.heap.size, 32, ((lims m).map nv).toArray), (w.heap.size + 1, 32, ((lims 0).map nv).toArray)] wx)
  case first =>
    refine wp_region_lexS 9 8 7 3 (MadeT 32 zs (w.heap.size + 1 + 1) 0) (HeldT 32 ((lims d).map nv).toArray (w.heap.size + 1 + 1)) (Bs w (w.heap.size + 1 + 1) [(w.heap.size, 32, ((lims m).map nv).toArray), (w.heap.size + 1, 32, ((lims 0).map nv).toArray)]) (by kernel_rfl) (by kernel_rfl) F0.drew Bs.stay MadeT.stayS HeldT.stay (made_tS run_alloc_sc Bs.size rfl) ?_
    simp only [List.take_succ_cons, List.take_zero, List.drop_succ_cons, List.drop_zero]
    refine lexS_value (v := ?_) (by rfl) (by rfl) (by rfl) (fun W hW => ?_) ?_
    rotate_left
    · have l1 := run_loadOrder (LK.out _ hW.below); go_simp <;> with_reducible rfl
    simp only [Act.put, List.setIfInBounds_toArray, List.set_cons_zero, List.set_cons_succ]
    refine lexS_value (v := ?_) (by rfl) (by rfl) (by rfl) (fun W hW => ?_) ?_
    rotate_left
    · skip; go_simp <;> with_reducible rfl
    simp only [Act.put, List.setIfInBounds_toArray, List.set_cons_zero, List.set_cons_succ]
    refine' lexS_call (by rfl) (by rfl) (by rfl) (fun W hW => ?_) (fun W hW => ?_) ?_
    rotate_left 3
    · go_simp <;> first | with_reducible rfl | exact ⟨rfl, rfl⟩
    · with_reducible exact B1.out W (hW.getN (by simp)) hW.below
    simp only [Act.put, List.setIfInBounds_toArray, List.set_cons_zero, List.set_cons_succ]
    refine' lexS_call (by rfl) (by rfl) (by rfl) (fun W hW => ?_) (fun W hW => ?_) ?_
    rotate_left 3
    · go_simp <;> first | with_reducible rfl | exact ⟨rfl, rfl⟩
    · with_reducible exact LS.out W
    simp only [Act.put, List.setIfInBounds_toArray, List.set_cons_zero, List.set_cons_succ]
    refine lexS_value (v := ?_) (by rfl) (by rfl) (by rfl) (fun W hW => ?_) ?_
    rotate_left
    · skip; go_simp <;> with_reducible rfl
    simp only [Act.put, List.setIfInBounds_toArray, List.set_cons_zero, List.set_cons_succ]
    refine lexS_value (v := ?_) (by rfl) (by rfl) (by rfl) (fun W hW => ?_) ?_
    rotate_left
    · skip; go_simp <;> with_reducible rfl
    simp only [Act.put, List.setIfInBounds_toArray, List.set_cons_zero, List.set_cons_succ]
    refine lexS_value (v := ?_) (by rfl) (by rfl) (by rfl) (fun W hW => ?_) ?_
    rotate_left
    · skip; go_simp <;> with_reducible rfl
    simp only [Act.put, List.setIfInBounds_toArray, List.set_cons_zero, List.set_cons_succ]
    refine lexS_free (by rfl) ?_
    refine lexS_store (by rfl) (by rfl) (stores_t rfl (by rfl) (by simp) (by rfl) (by rw [Tryd.infoSc]; simp [lims_length]) (by simp [zs, lims_length]) (n_one _)) ?_
    simp only [Act.put]
    refine lexS_nil (fun W8 v8 F8 E8 => ?_)
    obtain ⟨g2, rfl, hg2, hX⟩ := E8
    simp only [List.setIfInBounds_toArray, List.set_cons_zero, List.set_cons_succ]
    go_wp2_with fail
    go_meet
    exact ⟨g2, rfl, F8.addHeld hg2 hX⟩
  case rest =>
    obtain ⟨g, rfl, F1⟩ := hcut
    have hgb := (F1.hold _ (List.mem_cons_self ..)).1
    have hD : HoldsN wc 32 g (lims d) := F1.getN (by simp)
    have hC : HoldsN wc 32 (w.heap.size + 1) (lims 0) := F1.getN (by simp)
    have hb := F1.below
    go_wp2_with (first
      | (go_at_call 51
         with_reducible refine (B2.out g _ hD hb).mono ?_
         rintro e w3 ⟨rfl, hb3⟩
         have hC3 := hC.keep hb3 hC.lt
         have b3 := hb.trans (hb3.mono hb.size))
      | (with_reducible refine wpList_store_n rfl 32 (.tmp 2) (.tmp 13) rfl (w.heap.size + 1) (lims v) 4 rfl rfl rfl (lims 0) hC3 Tryd.infoSc rfl w.heap.size w b3 (by omega) ?_; intro w7 Hg _ _ hb7)
      | fail)
    exact bodyPost_ret (results_cell_row rfl _ _ _ _ _ _ _ rfl Hg Tryd.underlying32 rfl (by rw [Tryd.infoSc]; rfl)) rfl ⟨rfl, hb7⟩
end

theorem lims8_get (n : Nat) {j : Nat} (h : j < 8) : (lims8 n).getD j 0 = limb n j := by unfold lims8; rw [mixL_get h, if_pos h]
theorem lims8_digit8 {N d i : Nat} (hN : N < 256 ^ i) (hd : d < 256) : (lims8 N).set (i / 8) (limb N (i / 8) + 2 ^ (8 * (i % 8)) * d) = lims8 (N + d * 256 ^ i) := by
  refine List.ext_getElem (by rw [List.length_set, lims8_length, lims8_length]) fun j h1 h2 => ?_
  have hj : j < 8 := by rw [lims8_length] at h2; exact h2
  have g : ∀ n, (lims8 n)[j]'(by rw [lims8_length]; exact hj) = limb n j := fun n => by
    have := lims8_get n hj
    rw [List.getD_eq_getElem?_getD, List.getElem?_eq_getElem (by rw [lims8_length]; exact hj), Option.getD_some] at this
    exact this
  rw [List.getElem_set, g (N + d * 256 ^ i)]
  split
  · next e => rw [← limb_digit8 hN hd, e]
  · next e => rw [g, limb_other8 hN hd (fun h => e h.symm)]
theorem Tryd.plainU8 : Tryd.prog.plainKey 5 = true := by kernel_rfl
end Sca
end Go.Proofs.YthaheekjmofgnaaDoor

namespace Go.Proofs.YthaheekjmofgnaaDoor
open Go.RowKit
namespace Sca

theorem Tryd.size8 : (Tryd.prog.info? 5).map (·.size) = some 1 := by kernel_rfl
theorem splice_cp (l : List UInt8) (h : l.length = 32) : splice ((List.replicate 64 (0 : UInt8)).map bv) 0 (l.map bv) = (cpL l 32).map bv := by
  unfold splice cpL
  rw [List.take_of_length_le (show l.length ≤ 32 by omega), List.map_append, List.length_map, h, ← List.map_drop, List.drop_replicate, List.take_zero, List.nil_append]
set_option maxRecDepth 100000 in
set_option maxHeartbeats 2000000 in
theorem Bytes_any (m : Nat) (w : World) (hm : m < big) (L0 : Laid w) :
    Calls Tryd.prog 46 #[fev m] w fun e w' => e = .returned (.agg ((leBytes (toS m).val 32).map bv).toArray) ∧ Below w.heap.size w w' := by
  have hsz := L0.size
  obtain ⟨hA, hC, hb⟩ := sbytes_start w m _ zb rfl rfl
  obtain ⟨a, ha⟩ : ∃ a, a = (toS m).val := ⟨_, rfl⟩
  have LM : Hid (∀ W, HoldsN W 32 w.heap.size (lims m) → Below w.heap.size w W → Calls Tryd.prog 51 #[.slice (some ⟨w.heap.size, 0, none⟩) 4 4] W fun e w' => e = .returned (.agg ((lims a).map nv).toArray) ∧ Below W.heap.size W w') := Lib.hid fun W hW hbW => by
    have h := below_any (lims m) 4 w.heap.size 32 W rfl (by omega) (lims_small m) hW (L0.keep hbW hsz)
    rw [numL_lims hm] at h
    rw [ha]; exact h
  rw [fev_eq, ← ha]
  clear ha L0 hsz
  go_enter Tryd.func46, Tryd.ntmps46
  go_upto_region 1 with (fail)
  have hA' : HoldsN ((w.alloc (.cells ((lims m).map nv).toArray 32)).alloc (.cells zb 52)) 32 w.heap.size (lims m) := hA
  go_wp2_with (first
    | (go_at_call 51
       (refine (LM.out _ (by with_unfolding_all exact hA) (by with_unfolding_all exact hb)).mono ?_)
       rintro e w3 ⟨rfl, hb3⟩
       have hA3 : HoldsN w3 32 w.heap.size (lims m) := hA.keep (by with_unfolding_all exact hb3) hA.lt
       have hC3 : HoldsB w3 52 (w.heap.size + 1) (List.replicate 32 0) := hC.keep (by with_unfolding_all exact hb3) hC.lt
       have b3 : Below w.heap.size w w3 := hb.trans (hb3.mono hb.size))
    | (with_reducible refine wpList_store_n rfl 32 (.tmp 1) (.tmp 6) rfl w.heap.size (lims a) 4 rfl rfl rfl (lims m) hA3 Tryd.infoSc rfl w.heap.size w b3 (Nat.le_refl _) ?_
       intro w4 hA4 o4 s4 b4
       clear s4
       have hC4 := hC3.oth o4 (by omega)
       have l4 := hC4.lt
       have z5 : HoldsB (w4.alloc (.cells zb 52)) 52 w4.heap.size (List.replicate 32 0) := holdsB_new w4 _ _ _ _ rfl rfl
       have b5 := b4.alloc b4.size (.cells zb 52)
       have hA5 := hA4.alloc (.cells zb 52)
       have hC5 := hC4.alloc (.cells zb 52))
    | fail)
  rw [← bytL_zero a] at z5
  clear hA hA' hC hb hA3 hC3 b3 hb3 hA4 hC4 b4 o4
  go_loopw [4, 7] (fun _ v wr => ∃ k : Nat, k ≤ 32 ∧ v = .int .i64 (k : Int) ∧ HoldsN wr 32 w.heap.size (lims a) ∧ HoldsB wr 52 (w.heap.size + 1) (List.replicate 32 0) ∧ HoldsB wr 52 w4.heap.size (bytL a k) ∧ Below w.heap.size w wr)
    (fun _ v _ => 32 - (intOf v).toNat)
  case atStart => exact ⟨0, Nat.zero_le _, rfl, by with_unfolding_all exact hA5, by with_unfolding_all exact hC5, by with_unfolding_all exact z5, by with_unfolding_all exact b5⟩
  case round =>
    clear hA5 hC5 z5 b5
    obtain ⟨k, hk, rfl, hA, hC, hD, hb⟩ := hrel
    by_cases hlt : k < 32
    · have hlt2 : (k : Int) < 32 := by omega
      have ca := hA.cell (j := k / 8) (by rw [lims_length]; omega)
      rw [lims_get _ (by omega)] at ca
      have hf := hD.frozen k
      have co := hD.cell (j := k) (by rw [bytL_length]; exact hlt)
      have hset := Lib.hid (bytL_set a k)
      have hbl := byte_limb a k
      have eq4 : (k : Int).tdiv 8 = ((k / 8 : Nat) : Int) := by rw [Int.tdiv_eq_ediv_of_nonneg (by omega)]; omega
      have em4 : (k : Int).tmod 8 = ((k % 8 : Nat) : Int) := by rw [Int.tmod_eq_emod_of_nonneg (by omega)]; omega
      have lq : ((k / 8 : Nat) : Int) < 4 := by omega
      have hr4 : k % 8 < 8 := by omega
      generalize limb a (k / 8) = x at *
      generalize k / 8 = qq at *
      generalize k % 8 = rr at *
      have lr : (rr : Int) < 8 := by omega
      have wr1 : IntKind.i64.wrap (8 * (rr : Int)) = 8 * rr := by simp only [IntKind.wrap, IntKind.bits, IntKind.signed]; simp; omega
      have wr2 : IntKind.u64.wrap (8 * (rr : Int)) = 8 * rr := by rw [IntKind.wrap_u64]; omega
      have lr3 : 8 * (rr : Int) < 64 := by omega
      have hv : (x : Int) / 2 ^ (8 * rr) % 256 = ((UInt8.ofNat (a / 256 ^ k)).toNat : Int) := by
        rw [show (2 : Int) ^ (8 * rr) = ((2 ^ (8 * rr) : Nat) : Int) from (Int.natCast_pow 2 _).symm, ← Int.natCast_ediv, UInt8.toNat_ofNat']
        exact (Int.natCast_emod _ 256).symm.trans (congrArg _ hbl)
      have Hv := Lib.hid hv
      clear hv hbl
      generalize UInt8.ofNat (a / 256 ^ k) = d at *
      go_wp2
      go_roundw
      case rel => exact ⟨k + 1, by omega, by go_num, hA.setOther _ _ (by simp; omega), hC.setOther _ _ (by simp; omega), by rw [Hv.out, ← hset.out]; exact hD.set k d, hb.setCell (by simp; omega) _⟩
      case measure => simp [intOf]; omega
    · rw [show (k : Int) = 32 by omega]
      obtain rfl : k = 32 := by omega
      rw [bytL_full] at hD
      go_wp2_with (first
        | (with_reducible refine wpList_load_b rfl 52 (.tmp 3) rfl w4.heap.size rfl (leBytes a 32) hD (leBytes_length _ _) Tryd.underlying52 Tryd.infoB32 ?_)
        | (with_reducible refine wpList_store_b rfl 52 (.tmp 2) (.tmp 22) rfl (w.heap.size + 1) (leBytes a 32) rfl rfl (leBytes_length _ _) _ hC Tryd.infoB32 (by simp) w.heap.size w hb (by omega) ?_; intro w7 Hg _ _ hb7))
      exact bodyPost_ret (results_cell_row rfl _ _ (w.heap.size + 1) _ _ _ _ rfl Hg Tryd.underlying52 rfl (by rw [Tryd.infoB32]; simp [leBytes_length])) rfl ⟨rfl, hb7⟩

theorem Tryd.cellsU8 : Tryd.prog.cellsOf 5 = 1 := by kernel_rfl
theorem Tryd.infoU8 : (Tryd.prog.info? 5).map (fun i => (i.zero, i.size, i.bytes)) = some (some (.int .u8 0), 1, 1) := by kernel_rfl
/-- Arrays of thirty-two bytes, compared. -/
theorem eq_bytes (a b : List UInt8) (ha : a.length = 32) (hb : b.length = 32) : (List.range 32).all (fun i => (a.map fun x : UInt8 => (x.toNat : Int)).getD i 0 == (b.map fun x : UInt8 => (x.toNat : Int)).getD i 0) = decide (a = b) := by
  rw [Bool.eq_iff_iff, List.all_eq_true, decide_eq_true_eq]
  constructor
  · intro h
    refine List.ext_getElem (by rw [ha, hb]) fun i h1 h2 => ?_
    have := h i (List.mem_range.2 (by omega))
    rw [List.getD_eq_getElem?_getD, List.getD_eq_getElem?_getD, List.getElem?_map, List.getElem?_map, List.getElem?_eq_getElem h1, List.getElem?_eq_getElem h2] at this
    simp only [Option.map_some, Option.getD_some, beq_iff_eq] at this
    exact UInt8.toNat_inj.1 (by omega)
  · rintro rfl i _
    simp
theorem run_eql_b (a b : List UInt8) (ha : a.length = 32) (hb : b.length = 32) (w : World) : (binOp .eql 52 (.agg (a.map bv).toArray) (.agg (b.map bv).toArray)).run Tryd.prog w = .ok (.bool (decide (a = b))) w := by
  obtain ⟨i, hi, _⟩ := info_parts Tryd.infoU8
  have em : ∀ l : List UInt8, l.map bv = (l.map fun x : UInt8 => (x.toNat : Int)).map (Value.int .u8) := fun l => by rw [List.map_map]; rfl
  rw [em, em]
  have h := run_equalIn_array (P := Tryd.prog) w 9999 ((a.map fun x : UInt8 => (x.toNat : Int)).map (Value.int .u8)).toArray ((b.map fun x : UInt8 => (x.toNat : Int)).map (Value.int .u8)).toArray Tryd.underlying52 hi
  rw [Tryd.cellsU8, eqItems_ints Tryd.underlying5 Tryd.plainU8 9998 _ _ _ (fun i hi => by simp only [List.length_map, ha, hb]; exact ⟨List.mem_range.1 hi, List.mem_range.1 hi⟩), eq_bytes a b ha hb] at h
  generalize ((a.map fun x : UInt8 => (x.toNat : Int)).map (Value.int .u8)).toArray = xs at *
  generalize ((b.map fun x : UInt8 => (x.toNat : Int)).map (Value.int .u8)).toArray = ys at *
  simp only [binOp]
  simp [Op.equal, Op.maxDepth, h]
theorem run_guard_b (x y : Operand) (a b : Array Value) (w : World) : (eqGuard .eql 52 x y (.agg a) (.agg b)).run Tryd.prog w = .ok () w := by
  simp [eqGuard]


/-- Bytes read out of their block, under a name that the walk does not open. -/
def loadBy (t : TypeId) (a : Addr) : Sem Value := loadVar t a
theorem load_by (a : Addr) : loadVar 52 a = loadBy 52 a := rfl
theorem run_loadBy {w : World} {g : Nat} {l : List UInt8} (hg : HoldsB w 52 g l) (hl : l.length = 32) : (loadBy 52 ⟨g, 0, none⟩).run Tryd.prog w = .ok (.agg (l.map bv).toArray) w :=
  run_loadVar_row w g 52 52 _ (0, 0) _ hg Tryd.underlying52 rfl (by rw [Tryd.infoB32]; simp [hl])
theorem leBytes_leNum (l : List UInt8) : leBytes (leNum l) l.length = l := by
  refine List.ext_getElem (leBytes_length _ _) fun i h1 h2 => ?_
  simp only [leBytes, List.getElem_map, List.getElem_range]
  refine UInt8.toNat_inj.1 ?_
  rw [UInt8.toNat_ofNat']
  exact leNum_at l i h2
/-- Bytes below L are those of their number, and no others are. -/
theorem back_iff (l : List UInt8) (hl : l.length = 32) : leBytes (toS (leNum l)).val 32 = l ↔ leNum l < LL := by
  constructor
  · intro h
    have e : (toS (leNum l)).val = leNum l := by
      have h2 := congrArg leNum h
      rw [leNum_leBytes, Nat.mod_eq_of_lt] at h2
      · exact h2
      · exact Nat.lt_trans (toS (leNum l)).isLt (by decide)
    rw [← e]
    exact (toS (leNum l)).isLt
  · intro h
    rw [toS_val, Nat.mod_eq_of_lt h, ← hl]
    exact leBytes_leNum l
/-- The blocks of a check. -/
structure Ck (w : World) (l : List UInt8) (W : World) : Prop where
  a : HoldsB W 52 w.heap.size l
  d : Below w.heap.size w W
theorem Ck.stay {w : World} {l : List UInt8} : ∀ W W', Ck w l W → Below W.heap.size W W' → Ck w l W' := fun _ _ h hb => ⟨h.a.keep hb h.a.lt, h.d.trans (hb.mono h.d.size)⟩

section
attribute [local go_sem ↓] load_by
end

end Sca
end Go.Proofs.YthaheekjmofgnaaDoor

namespace Go.Proofs.YthaheekjmofgnaaDoor
open Go.RowKit
namespace Crv

/-- The program's variables hold what its text lays in them. -/
def LaidD (W : World) : Prop := ∀ j, j < 4 → W.cell? ⟨0, j, none⟩ = some (.int .u64 (limb DEE j : Int))
theorem LaidD.size {W : World} (h : LaidD W) : 0 + 1 ≤ W.heap.size := by
  have h1 := World.block_lt_of_cell? _ _ (h 0 (by omega))
  simp only at h1
  omega
theorem LaidD.keep {W W' : World} (h : LaidD W) {D : Nat} (hb : Below D W W') (hD : 0 + 1 ≤ D) : LaidD W' :=
  fun j hj => by rw [hb.cell (show 0 < D by omega)]; exact h j hj
/-- All three. -/
structure Laid (W : World) : Prop where
  sc : Sca.Laid W
  fe : LaidP W
  d : LaidD W
/-- What lies ahead of the heap's end. -/
def lsz : Nat := max (max (1 + 1) (2 + 1)) (0 + 1)
theorem Laid.size {W : World} (h : Laid W) : lsz ≤ W.heap.size := by
  have h1 := h.sc.size
  have h2 := h.fe.size
  have h3 := h.d.size
  unfold lsz
  omega
theorem Laid.keep {W W' : World} (h : Laid W) {D : Nat} (hb : Below D W W') (hD : lsz ≤ D) : Laid W' := by
  unfold lsz at hD
  exact ⟨h.sc.keep hb (by omega), h.fe.keep hb (by omega), h.d.keep hb (by omega)⟩
theorem Laid.hid {w : World} (L0 : Laid w) : Hid (∀ W, Below w.heap.size w W → Laid W) := Lib.hid fun _ hb => L0.keep hb L0.size
theorem run_loadDee {W : World} (L : Laid W) : (loadFe 24 ⟨0, 0, none⟩).run Tryd.prog W = .ok (.agg ((lims dd.val).map nv).toArray) W := by
  have c0 := L.d 0 (by omega)
  have c1 := L.d 1 (by omega)
  have c2 := L.d 2 (by omega)
  have c3 := L.d 3 (by omega)
  unfold loadFe
  show _ = Result.ok (Value.agg #[.int .u64 (limb DEE 0 : Int), .int .u64 (limb DEE 1 : Int), .int .u64 (limb DEE 2 : Int), .int .u64 (limb DEE 3 : Int)]) W
  generalize limb DEE 0 = x0 at *
  generalize limb DEE 1 = x1 at *
  generalize limb DEE 2 = x2 at *
  generalize limb DEE 3 = x3 at *
  go_simp

/-! The field's functions. -/
abbrev GaveL (W : World) (x : F) (e : Ending) (w' : World) : Prop := e = .returned (.agg ((lims x.val).map nv).toArray) ∧ Below W.heap.size W w'
theorem fMul (x y : F) (W : World) : Calls Tryd.prog 30 #[.agg ((lims x.val).map nv).toArray, .agg ((lims y.val).map nv).toArray] W (GaveL W (x * y)) := by
  have h := Mul_any x.val y.val W (F.lt_big _) (F.lt_big _)
  rw [toF_of, toF_of] at h
  exact h
theorem fAdd (x y : F) (W : World) : Calls Tryd.prog 32 #[.agg ((lims x.val).map nv).toArray, .agg ((lims y.val).map nv).toArray] W (GaveL W (x + y)) := by
  have h := Add_any x.val y.val W (F.lt_big _) (F.lt_big _)
  rw [toF_of, toF_of] at h
  exact h
theorem fSub (x y : F) (W : World) (L : Laid W) : Calls Tryd.prog 31 #[.agg ((lims x.val).map nv).toArray, .agg ((lims y.val).map nv).toArray] W (GaveL W (x - y)) := by
  have h := SubP_any x.val y.val W (F.lt_big _) (F.lt_big _) L.fe
  rw [toF_of, toF_of] at h
  exact h
theorem fNeg (x : F) (W : World) (L : Laid W) : Calls Tryd.prog 44 #[.agg ((lims x.val).map nv).toArray] W (GaveL W (-x)) := by
  have h := NegP_any x.val W (F.lt_big _) L.fe
  rw [toF_of] at h
  exact h
theorem fInv (x : F) (W : World) : Calls Tryd.prog 61 #[.agg ((lims x.val).map nv).toArray] W (GaveL W (finv x)) := by
  have h := Inv_any x.val W (F.lt_big _)
  rw [toF_of] at h
  exact h
theorem fSmall (W : World) : Calls Tryd.prog 33 #[.int .u64 1] W (GaveL W 1) := Small_any 1 W (by decide)
/-- A number modulo P, below it. -/
theorem fLeast (m : Nat) (W : World) (hm : m < big) : Calls Tryd.prog 32 #[.agg ((lims m).map nv).toArray, .agg #[.int .u64 0, .int .u64 0, .int .u64 0, .int .u64 0]] W (GaveL W (toF m)) := by
  have h := Add_any m 0 W hm (by decide)
  rw [show toF m + toF 0 = toF m by rw [show toF 0 = 0 from rfl]; grind] at h
  exact h

/-! Points of three and of four numbers. -/
theorem Tryd.infoTr : (Tryd.prog.info? 46).map (·.size) = some 12 := by kernel_rfl
theorem Tryd.infoQd : (Tryd.prog.info? 48).map (·.size) = some 16 := by kernel_rfl
theorem Tryd.builtTr (x y z : Nat) : Tryd.prog.built 46 [(0, .agg ((lims x).map nv).toArray), (1, .agg ((lims y).map nv).toArray), (2, .agg ((lims z).map nv).toArray)] = some ((limsL [x, y, z]).map nv).toArray := by kernel_rfl
theorem Tryd.builtQd (x y z t : Nat) : Tryd.prog.built 48 [(0, .agg ((limsL [x, y, z]).map nv).toArray), (1, .agg ((lims t).map nv).toArray)] = some ((limsL [x, y, z, t]).map nv).toArray := by kernel_rfl
def qv (q : Qd) : Value := .agg ((limsL [q.1.val, q.2.1.val, q.2.2.1.val, q.2.2.2.val]).map nv).toArray
/-- What gives a point of four numbers. -/
def GaveR (w : World) (q : Qd) (e : Ending) (w' : World) : Prop := e = .returned (qv q) ∧ Below w.heap.size w w'
end Crv
section
variable {w W W' : World} {D : Nat} {bs : List (Nat × TypeId × Array Value)}
/-- Two further blocks, and three, in whatever order they were made. -/
theorem Bs.add2 {g1 g2 t1 t2 : Nat} {c1 c2 : Array Value} (h : Bs w D bs W) (h1 : W'.heap[g1]? = some (.cells c1 t1 (0, 0))) (h2 : W'.heap[g2]? = some (.cells c2 t2 (0, 0)))
    (ho : ∀ k, k < D → W'.heap[k]? = W.heap[k]?) (hs : W.heap.size ≤ W'.heap.size) (hb : Below w.heap.size w W') : Bs w W'.heap.size ((g2, t2, c2) :: (g1, t1, c1) :: bs) W' := by
  have hl := h.len
  refine ⟨fun p hp => ?_, Nat.le_refl _, Nat.le_trans h.pos (Nat.le_trans hl hs), hb⟩
  rcases List.mem_cons.1 hp with rfl | hp
  · exact ⟨(Array.getElem?_eq_some_iff.1 h2).1, h2⟩
  rcases List.mem_cons.1 hp with rfl | hp
  · exact ⟨(Array.getElem?_eq_some_iff.1 h1).1, h1⟩
  obtain ⟨q1, q2⟩ := h.hold p hp
  exact ⟨by omega, (ho _ q1).trans q2⟩
theorem Bs.add3 {g1 g2 g3 t1 t2 t3 : Nat} {c1 c2 c3 : Array Value} (h : Bs w D bs W) (h1 : W'.heap[g1]? = some (.cells c1 t1 (0, 0))) (h2 : W'.heap[g2]? = some (.cells c2 t2 (0, 0))) (h3 : W'.heap[g3]? = some (.cells c3 t3 (0, 0)))
    (ho : ∀ k, k < D → W'.heap[k]? = W.heap[k]?) (hs : W.heap.size ≤ W'.heap.size) (hb : Below w.heap.size w W') : Bs w W'.heap.size ((g3, t3, c3) :: (g2, t2, c2) :: (g1, t1, c1) :: bs) W' := by
  have hl := h.len
  refine ⟨fun p hp => ?_, Nat.le_refl _, Nat.le_trans h.pos (Nat.le_trans hl hs), hb⟩
  rcases List.mem_cons.1 hp with rfl | hp
  · exact ⟨(Array.getElem?_eq_some_iff.1 h3).1, h3⟩
  rcases List.mem_cons.1 hp with rfl | hp
  · exact ⟨(Array.getElem?_eq_some_iff.1 h2).1, h2⟩
  rcases List.mem_cons.1 hp with rfl | hp
  · exact ⟨(Array.getElem?_eq_some_iff.1 h1).1, h1⟩
  obtain ⟨q1, q2⟩ := h.hold p hp
  exact ⟨by omega, (ho _ q1).trans q2⟩
theorem ptr_ne {g1 g2 : Nat} (h : (Value.pointer (some ⟨g1, 0, none⟩)) ≠ .pointer (some ⟨g2, 0, none⟩)) : g1 ≠ g2 := fun e => h (by rw [e])
end
end Go.Proofs.YthaheekjmofgnaaDoor
