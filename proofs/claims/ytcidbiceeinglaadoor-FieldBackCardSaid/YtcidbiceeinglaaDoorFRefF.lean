/-
  The document's numbers modulo P: digits of sixteen bits.
-/
import Derived.Test.YtcidbiceeinglaaDoorFRefE
namespace Go.Proofs.YtcidbiceeinglaaDoor
open Go.RowKit

/-- A digit out of its limb. -/
theorem digit_limb (n i : Nat) : limb n (i / 4) / 2 ^ (16 * (i % 4)) % 65536 = digit n i := by
  unfold limb digit
  have e : (65536 : Nat) ^ i = 18446744073709551616 ^ (i / 4) * 65536 ^ (i % 4) := by
    rw [show (18446744073709551616 : Nat) = 65536 ^ 4 by decide, ← Nat.pow_mul, ← Nat.pow_add, Nat.div_add_mod]
  rw [e, ← Nat.div_div_eq_div_mul]
  generalize n / 18446744073709551616 ^ (i / 4) = x
  have hr : i % 4 < 4 := Nat.mod_lt _ (by omega)
  generalize i % 4 = r at *
  match r, hr with
  | 0, _ => simp only [Nat.mul_zero, Nat.pow_zero, Nat.div_one]; omega
  | 1, _ => simp only [Nat.mul_one, show (2 : Nat) ^ 16 = 65536 by decide]; omega
  | 2, _ => simp only [show (2 : Nat) ^ (16 * 2) = 4294967296 by decide]; omega
  | 3, _ => simp only [show (2 : Nat) ^ (16 * 3) = 281474976710656 by decide]; omega

/-- The digits below i; the others are 0. -/
def digL (n i : Nat) : List Nat := (List.range 16).map fun j => if j < i then digit n j else 0
theorem digL_length (n i : Nat) : (digL n i).length = 16 := by simp [digL]
theorem digL_full (n : Nat) : digL n 16 = digits n 16 := by
  unfold digL digits
  refine List.map_congr_left fun j hj => ?_
  rw [if_pos (by simpa using hj)]
theorem digL_zero (n : Nat) : digL n 0 = List.replicate 16 0 := rfl
theorem digL_set (n i : Nat) : (digL n i).set i (digit n i) = digL n (i + 1) := by
  refine List.ext_getElem (by simp [digL]) fun j h1 h2 => ?_
  rw [List.getElem_set]
  simp only [digL, List.getElem_map, List.getElem_range]
  split
  · next e => subst e; rw [if_pos (by omega)]
  · next e => by_cases h : j < i
              · rw [if_pos h, if_pos (by omega)]
              · rw [if_neg h, if_neg (by omega)]

def zn (n : Nat) : Array Value := ((List.replicate n 0).map nv).toArray
theorem Tryd.built16 : Tryd.prog.built 45 [] = some (zn 16) := by kernel_rfl
theorem Tryd.info16 : (Tryd.prog.info? 45).map (·.size) = some 16 := by kernel_rfl
theorem zn_new (w : World) (ty : TypeId) (n : Nat) : HoldsN (w.alloc (.cells (zn n) ty)) ty w.heap.size (List.replicate n 0) := heap_alloc_new w _

theorem dig_start (w : World) (m : Nat) (c1 c2 c3 : Array Value) (h1 : c1 = ((lims m).map nv).toArray) (h2 : c2 = zn 16) (h3 : c3 = zn 16) :
    HoldsN (((w.alloc (.cells c1 24)).alloc (.cells c2 45)).alloc (.cells c3 45)) 24 w.heap.size (lims m) ∧ HoldsN (((w.alloc (.cells c1 24)).alloc (.cells c2 45)).alloc (.cells c3 45)) 45 (w.heap.size + 1) (List.replicate 16 0) ∧
    HoldsN (((w.alloc (.cells c1 24)).alloc (.cells c2 45)).alloc (.cells c3 45)) 45 (w.heap.size + 2) (List.replicate 16 0) ∧ Below w.heap.size w (((w.alloc (.cells c1 24)).alloc (.cells c2 45)).alloc (.cells c3 45)) := by
  obtain ⟨a, b, e⟩ := fe_start w m c1 h1
  have a2 : HoldsN ((w.alloc (.cells c1 24)).alloc (.cells c2 45)) 45 (w.heap.size + 1) (List.replicate 16 0) := holdsN_new _ _ _ _ _ e.symm h2
  have e2 : ((w.alloc (.cells c1 24)).alloc (.cells c2 45)).heap.size = w.heap.size + 2 := by rw [World.size_alloc, e]
  exact ⟨(a.alloc _).alloc _, a2.alloc _, holdsN_new _ _ _ _ _ e2.symm h3, (b.alloc (by omega) _).alloc (by omega) _⟩

set_option maxRecDepth 100000 in
set_option maxHeartbeats 1000000 in
theorem rdigits_any (m : Nat) (w : World) :
    Calls Tryd.prog 38 #[fev m] w fun e w' => e = .returned (.agg ((digits m 16).map nv).toArray) ∧ Below w.heap.size w w' := by
  obtain ⟨hA, hC, hD, hb⟩ := dig_start w m _ (zn 16) (zn 16) rfl rfl rfl
  rw [fev_eq]
  go_enter Tryd.func38, Tryd.ntmps38
  go_wp2_with (first
    | (with_reducible refine wpList_buildTo rfl 45 #[] rfl (some 5) rfl (zn 16) (by with_unfolding_all exact Tryd.built16) ?_)
    | (with_reducible refine wpList_store_n rfl 45 (.tmp 3) (.tmp 5) rfl (w.heap.size + 2) (List.replicate 16 0) 16 rfl (by with_unfolding_all exact rfl) rfl (List.replicate 16 0) (by with_unfolding_all exact hD) Tryd.info16 rfl w.heap.size w (by with_unfolding_all exact hb) (by omega) ?_
       intro w1 hD1 o1 s1 b1
       have hA1 : HoldsN w1 24 w.heap.size (lims m) := (o1 _ (by omega)).trans (by with_unfolding_all exact hA)
       have hC1 : HoldsN w1 45 (w.heap.size + 1) (List.replicate 16 0) := (o1 _ (by omega)).trans (by with_unfolding_all exact hC)))
  clear hA hC hD hb o1 s1
  rw [← digL_zero m] at hD1
  go_loopw [4] (fun v wr => ∃ k : Nat, k ≤ 16 ∧ v = .int .i64 (k : Int) ∧ HoldsN wr 24 w.heap.size (lims m) ∧ HoldsN wr 45 (w.heap.size + 1) (List.replicate 16 0) ∧ HoldsN wr 45 (w.heap.size + 2) (digL m k) ∧ Below w.heap.size w wr)
    (fun v _ => 16 - (intOf v).toNat)
  case atStart => exact ⟨0, Nat.zero_le _, rfl, hA1, hC1, hD1, b1⟩
  case round =>
    clear hA1 hC1 hD1 b1
    obtain ⟨k, hk, rfl, hA, hC, hD, hb⟩ := hrel
    by_cases hlt : k < 16
    · have hlt2 : (k : Int) < 16 := by omega
      have ca := hA.cell (j := k / 4) (by rw [lims_length]; omega)
      rw [lims_get _ (by omega)] at ca
      have hf := hD.frozen k
      have co := hD.cell (j := k) (by rw [digL_length]; exact hlt)
      have hset := Lib.hid (digL_set m k)
      have hdg := digit_limb m k
      have eq4 : (k : Int).tdiv 4 = ((k / 4 : Nat) : Int) := by rw [Int.tdiv_eq_ediv_of_nonneg (by omega)]; omega
      have em4 : (k : Int).tmod 4 = ((k % 4 : Nat) : Int) := by rw [Int.tmod_eq_emod_of_nonneg (by omega)]; omega
      have lq : ((k / 4 : Nat) : Int) < 4 := by omega
      have hr4 : k % 4 < 4 := by omega
      generalize limb m (k / 4) = x at *
      generalize digit m k = d at *
      generalize k / 4 = qq at *
      generalize k % 4 = rr at *
      have lr : (rr : Int) < 4 := by omega
      have wr1 : IntKind.i64.wrap (16 * (rr : Int)) = 16 * rr := by simp only [IntKind.wrap, IntKind.bits, IntKind.signed]; simp; omega
      have wr2 : IntKind.u64.wrap (16 * (rr : Int)) = 16 * rr := by rw [IntKind.wrap_u64]; omega
      have lr3 : 16 * (rr : Int) < 64 := by omega
      have hv : ((x : Int) / 2 ^ (16 * rr)).tmod 65536 = (d : Int) := by
        rw [show (2 : Int) ^ (16 * rr) = ((2 ^ (16 * rr) : Nat) : Int) from (Int.natCast_pow 2 _).symm, ← Int.natCast_ediv, Int.tmod_eq_emod_of_nonneg (Int.natCast_nonneg _), ← hdg]; rfl
      have Hv := Lib.hid hv
      clear hv hdg
      go_wp2
      go_roundw
      case rel => exact ⟨k + 1, by omega, by go_num, hA.setOther _ _ (by simp; omega), hC.setOther _ _ (by simp), by rw [Hv.out, ← hset.out]; exact hD.set k d, hb.setCell (by simp; omega) _⟩
      case measure => simp [intOf]; omega
    · rw [show (k : Int) = 16 by omega]
      obtain rfl : k = 16 := by omega
      rw [digL_full] at hD
      go_wp2_with (first
        | (with_reducible refine wpList_load_n rfl 45 (.tmp 3) rfl (w.heap.size + 2) rfl (digits m 16) 16 hD (digits_length _ _) Tryd.underlying45 Tryd.info16 ?_)
        | (with_reducible refine wpList_store_n rfl 45 (.tmp 2) (.tmp 22) rfl (w.heap.size + 1) (digits m 16) 16 rfl rfl (digits_length _ _) _ hC Tryd.info16 rfl w.heap.size w hb (by omega) ?_; intro w7 Hg _ _ hb7))
      exact bodyPost_ret (results_cell_row rfl _ _ (w.heap.size + 1) _ _ _ _ rfl Hg Tryd.underlying45 rfl (by rw [Tryd.info16]; simp [digits_length])) rfl ⟨rfl, hb7⟩
end Go.Proofs.YtcidbiceeinglaaDoor
