/-
  The program's numbers modulo L: what is left over of a number, divided by L, part by part. The program's variable.
  The program's numbers modulo L: a step of what is left over, walked.
  The program's numbers modulo L: a number, of as many as there are, modulo L.
-/
import Derived.Test.YtlfkohanfeejfaaDoorMah
import Derived.Test.YtlfkohanfeejfaaDoorMai
import Derived.Test.YtlfkohanfeejfaaDoorMan
import Derived.Test.YtlfkohanfeejfaaDoorMau
namespace Go.Proofs.YtlfkohanfeejfaaDoor
open Go.RowKit
namespace Sca

/-- The program's variable holds what its text lays in it. -/
def Laid (W : World) : Prop := ∀ j, j < 4 → W.cell? ⟨3, j, none⟩ = some (.int .u64 (limb LL j : Int))
theorem Laid.size {W : World} (h : Laid W) : 3 + 1 ≤ W.heap.size := by
  have h1 := World.block_lt_of_cell? _ _ (h 0 (by omega))
  simp only at h1
  omega
theorem Laid.keep {W W' : World} (h : Laid W) {D : Nat} (hb : Below D W W') (hD : 3 + 1 ≤ D) : Laid W' :=
  fun j hj => by rw [hb.cell (show 3 < D by omega)]; exact h j hj
theorem run_loadOrder {W : World} (L : Laid W) : (loadSc 28 ⟨3, 0, none⟩).run Tryd.prog W = .ok (.agg ((lims LL).map nv).toArray) W := by
  have c0 := L 0 (by omega)
  have c1 := L 1 (by omega)
  have c2 := L 2 (by omega)
  have c3 := L 3 (by omega)
  unfold loadSc
  show _ = Result.ok (Value.agg #[.int .u64 (limb LL 0 : Int), .int .u64 (limb LL 1 : Int), .int .u64 (limb LL 2 : Int), .int .u64 (limb LL 3 : Int)]) W
  generalize limb LL 0 = x0 at *
  generalize limb LL 1 = x1 at *
  generalize limb LL 2 = x2 at *
  generalize limb LL 3 = x3 at *
  go_simp

/-- Of what was there block g alone has turned. -/
structure Only (g : Nat) (w w' : World) : Prop where
  below : Below g w w'
  other : ∀ k, k < w.heap.size → k ≠ g → w'.heap[k]? = w.heap[k]?
section
variable {g : Nat} {w w1 w2 : World}
theorem Only.refl (g : Nat) (w : World) : Only g w w := ⟨Below.refl _ _, fun _ _ _ => rfl⟩
theorem Only.size (h : Only g w w1) : w.heap.size ≤ w1.heap.size := h.below.size
theorem Only.step (h : Only g w w1) {D : Nat} (hb : Below D w1 w2) (hg : g ≤ D) (hD : w.heap.size ≤ D) : Only g w w2 :=
  ⟨h.below.trans (hb.mono hg), fun k hk hn => (hb.block k (by omega)).trans (h.other k hk hn)⟩
theorem Only.oth (h : Only g w w1) (ho : ∀ k, k ≠ g → w2.heap[k]? = w1.heap[k]?) (hb : Below g w w2) : Only g w w2 :=
  ⟨hb, fun k hk hn => (ho k hn).trans (h.other k hk hn)⟩
theorem Only.othNew (h : Only g w w1) {q : Nat} (hq : w.heap.size ≤ q) (ho : ∀ k, k ≠ q → w2.heap[k]? = w1.heap[k]?) (hb : Below g w w2) : Only g w w2 :=
  ⟨hb, fun k hk hn => (ho k (by omega)).trans (h.other k hk hn)⟩
theorem Only.set (h : Only g w w1) {p : Addr} (hp : p.block = g) (u : Value) : Only g w (w1.setCell p u) :=
  ⟨h.below.setCell (by omega) u, fun k hk hn => (Below.heap_setCell _ _ _ _ (by omega)).trans (h.other k hk hn)⟩
theorem Only.drew (h : Only g w w1) : Only g w w1.drew := ⟨h.below.drew, h.other⟩
theorem Only.drewN (h : Only g w w1) (n : Nat) : Only g w (w1.drewN n) := ⟨below_drewN h.below n, h.other⟩
theorem Only.new (h : Only g w w1) (hg : g ≤ w1.heap.size) (o : Obj) : Only g w (w1.alloc o) :=
  ⟨h.below.alloc hg o, fun k hk hn => (Below.heap_alloc _ _ _ (Nat.lt_of_lt_of_le hk h.size)).trans (h.other k hk hn)⟩
theorem Only.trans (h : Only g w w1) (k : Only g w1 w2) : Only g w w2 :=
  ⟨h.below.trans k.below, fun i hi hn => (k.other i (Nat.lt_of_lt_of_le hi h.size) hn).trans (h.other i hi hn)⟩
end

/-! The arithmetic of a step. -/
/-- What is left over, and a further part. -/
def Tt (v p : Nat) : Nat := 4294967296 * v + p
theorem step_limb (v p k : Nat) (hp : p < 4294967296) : limb v k * 4294967296 % 18446744073709551616 + cy 4294967296 v 0 p k = limb (Tt v p) k ∧ limb v k / 4294967296 = cy 4294967296 v 0 p (k + 1) ∧ cy 4294967296 v 0 p k < 4294967296 := by
  have h1 := lin_limb 4294967296 v 0 p k
  have h2 := cy_succ 4294967296 v 0 p k
  rw [limb_zero, Nat.add_zero] at h1 h2
  have hc : cy 4294967296 v 0 p k < 4294967296 := by
    unfold cy
    have hw := wpos k
    have h3 := Nat.mod_lt v hw
    generalize v % 18446744073709551616 ^ k = x at *
    generalize 18446744073709551616 ^ k = B at *
    rw [Nat.zero_mod, Nat.div_lt_iff_lt_mul hw]
    have h4 : 4294967296 * x + 4294967296 ≤ 4294967296 * B := by omega
    omega
  have hl := limb_lt v k
  unfold Tt
  rw [h1, h2]
  generalize cy 4294967296 v 0 p k = c at *
  generalize limb v k = x at *
  refine ⟨?_, ?_, hc⟩ <;> omega
theorem tt_top {v p : Nat} (hv : v < LL) (hp : p < 4294967296) : cy 4294967296 v 0 p 4 * 16 + limb (Tt v p) 3 / 1152921504606846976 = Tt v p / 7237005577332262213973186563042994240829374041602535252466099000494570602496 ∧ cy 4294967296 v 0 p 4 < 536870912 ∧ limb (Tt v p) 3 / 1152921504606846976 < 16 := by
  have hl := limb_lt (Tt v p) 3
  have hvb : v < big := Nat.lt_trans hv (by decide)
  rw [cy_whole (by rw [big_pow]; exact hvb) (by rw [big_pow]; decide)]
  unfold LL at hv
  unfold limb Tt at *
  rw [show (18446744073709551616 : Nat) ^ 3 = 6277101735386680763835789423207666416102355444464034512896 by decide, show (18446744073709551616 : Nat) ^ 4 = 115792089237316195423570985008687907853269984665640564039457584007913129639936 by decide] at *
  omega
theorem limb3_mod (m : Nat) : (lims m).set 3 (limb m 3 % 1152921504606846976) = lims (m % 7237005577332262213973186563042994240829374041602535252466099000494570602496) := by
  unfold lims limb
  simp only [List.set_cons_succ, List.set_cons_zero, Nat.pow_zero, Nat.div_one, Nat.pow_one, show (18446744073709551616 : Nat) ^ 2 = 340282366920938463463374607431768211456 by decide, show (18446744073709551616 : Nat) ^ 3 = 6277101735386680763835789423207666416102355444464034512896 by decide]
  refine congr (congrArg _ ?_) (congr (congrArg _ ?_) (congr (congrArg _ ?_) (congrArg (fun x => [x]) ?_))) <;> omega
theorem LL_split : LL = 7237005577332262213973186563042994240829374041602535252466099000494570602496 + OV := by decide
/-- What is left over of T: its lower part, less so many times what L is over 2^252, and once L more if that is below 0. -/
theorem left_yes {T q r : Nat} (hq : q = T / 7237005577332262213973186563042994240829374041602535252466099000494570602496) (hr : r = T % 7237005577332262213973186563042994240829374041602535252466099000494570602496) (h : ¬ r < q * OV) : lims (r + big - q * OV) = lims (T % LL) := by
  have hd := Nat.mod_add_div T 7237005577332262213973186563042994240829374041602535252466099000494570602496
  rw [← hq, ← hr] at hd
  have hrl : r < 7237005577332262213973186563042994240829374041602535252466099000494570602496 := by rw [hr]; exact Nat.mod_lt _ (by decide)
  have e : T = (r - q * OV) + LL * q := by rw [LL_split]; unfold OV at *; omega
  have e2 : T % LL = r - q * OV := by
    rw [e, Nat.add_mul_mod_self_left, Nat.mod_eq_of_lt]
    unfold LL; omega
  rw [e2, lims_mod, show (r + big - q * OV) % big = (r - q * OV) % big by unfold big OV at *; omega, ← lims_mod]
theorem left_no {T q r : Nat} (hT : T < 124330809102446660538845562036705210025114037699336929360115994223289874253133343883264) (hq : q = T / 7237005577332262213973186563042994240829374041602535252466099000494570602496) (hr : r = T % 7237005577332262213973186563042994240829374041602535252466099000494570602496) (h : r < q * OV) : lims (r + big - q * OV + LL) = lims (T % LL) := by
  have hd := Nat.mod_add_div T 7237005577332262213973186563042994240829374041602535252466099000494570602496
  rw [← hq, ← hr] at hd
  have hrl : r < 7237005577332262213973186563042994240829374041602535252466099000494570602496 := by rw [hr]; exact Nat.mod_lt _ (by decide)
  have hql : q < 17179869184 := by
    rw [hq, Nat.div_lt_iff_lt_mul (by decide)]
    exact Nat.lt_of_lt_of_le hT (by decide)
  have hqo : q * OV < LL := by unfold OV LL; omega
  have hq1 : 0 < q := by
    rcases Nat.eq_zero_or_pos q with h0 | h0
    · rw [h0, Nat.zero_mul] at h; omega
    · exact h0
  obtain ⟨q', rfl⟩ : ∃ q', q = q' + 1 := ⟨q - 1, by omega⟩
  have e : T = (r + LL - (q' + 1) * OV) + LL * q' := by rw [LL_split] at *; unfold OV at *; omega
  have e2 : T % LL = r + LL - (q' + 1) * OV := by
    rw [e, Nat.add_mul_mod_self_left, Nat.mod_eq_of_lt]
    omega
  rw [e2, lims_mod, show (r + big - (q' + 1) * OV + LL) % big = (r + LL - (q' + 1) * OV) % big by unfold LL big OV at *; omega, ← lims_mod]
theorem or_part (a b : Nat) (ha : a % 4294967296 = 0) (ha2 : a < 18446744073709551616) (hb : b < 4294967296) : bits .or .u64 (a : Int) (b : Int) = ((a + b : Nat) : Int) := by
  have h := bits_or_u64_nat a b (by omega) (by omega)
  have e : a ||| b = a + b := by
    have := Nat.two_pow_add_eq_or_of_lt (i := 32) (b := b) (by omega) (a / 4294967296)
    rw [show (2 : Nat) ^ 32 * (a / 4294967296) = a by omega] at this
    exact this.symm
  rw [e] at h
  exact h
theorem or_four (a b : Nat) (ha : a < 1152921504606846976) (hb : b < 16) : bits .or .u64 ((a * 16 : Nat) : Int) (b : Int) = ((a * 16 + b : Nat) : Int) := by
  have h := bits_or_u64_nat (a * 16) b (by omega) (by omega)
  have e : a * 16 ||| b = a * 16 + b := by
    have := Nat.two_pow_add_eq_or_of_lt (i := 4) (b := b) (by omega) a
    rw [Nat.mul_comm a 16]; exact this.symm
  rw [e] at h
  exact h
theorem and_high (a : Nat) (ha : a < 18446744073709551616) : bits .and .u64 (a : Int) 1152921504606846975 = ((a % 1152921504606846976 : Nat) : Int) := by
  have h := bits_and_u64_nat a 1152921504606846975 ha (by omega)
  have e : a &&& 1152921504606846975 = a % 1152921504606846976 := Nat.and_two_pow_sub_one_eq_mod a 60
  rw [e] at h
  exact h
theorem run_index_sc (n k : Nat) (w : World) (h : k < 4) : (Instr.index 28 (.agg ((lims n).map nv).toArray) (.int .i64 (k : Int))).run Tryd.prog w = .ok (.int .u64 (limb n k : Int)) w := by
  match k, h with
  | 0, _ => simp [Instr.index, run_underlying Tryd.underlying28, asIntOf, go_sem, lims, nv]
  | 1, _ => simp [Instr.index, run_underlying Tryd.underlying28, asIntOf, go_sem, lims, nv]
  | 2, _ => simp [Instr.index, run_underlying Tryd.underlying28, asIntOf, go_sem, lims, nv]
  | 3, _ => simp [Instr.index, run_underlying Tryd.underlying28, asIntOf, go_sem, lims, nv]
end Sca
end Go.Proofs.YtlfkohanfeejfaaDoor

namespace Go.Proofs.YtlfkohanfeejfaaDoor
open Go.RowKit
namespace Sca

def zs : Array Value := #[.int .u64 0, .int .u64 0, .int .u64 0, .int .u64 0]
theorem zs_eq : zs = ((lims 0).map nv).toArray := by kernel_rfl
theorem run_alloc_sc (f : Operand → Value) (o : Oper) (w : World) (ho : o.op = .alloc 28) :
    (execOp f o).run Tryd.prog w = .ok (.value (.pointer (some ⟨w.heap.size, 0, none⟩))) (w.alloc (.cells zs 28)) := by
  obtain ⟨dst, op, type, pos, after, guard⟩ := o
  obtain rfl : op = .alloc 28 := ho
  go_simp
  rfl

section
attribute [local go_sem ↓] load_sc

set_option maxRecDepth 100000 in
set_option maxHeartbeats 2000000 in
theorem step_any (v p g : Nat) (w : World) (hv : v < LL) (hp : p < 4294967296) (hG : HoldsN w 28 g (lims v)) (L0 : Laid w) (hg0 : 3 < g) :
    Calls Tryd.prog 83 #[.int .u64 (p : Int), .pointer (some ⟨g, 0, none⟩)] w fun e w' => e = .returned (fev (Tt v p % LL)) ∧ HoldsN w' 28 g (lims (Tt v p % LL)) ∧ Only g w w' := by
  have hR : HoldsN (w.alloc (.cells #[.int .u64 0, .int .u64 0, .int .u64 0, .int .u64 0] 28)) 28 w.heap.size (lims 0) := holdsN_new w _ _ _ _ rfl (by kernel_rfl)
  have hG1 := hG.alloc (.cells #[.int .u64 0, .int .u64 0, .int .u64 0, .int .u64 0] 28)
  have O1 := (Only.refl g w).new (Nat.le_of_lt hG.lt) (.cells #[.int .u64 0, .int .u64 0, .int .u64 0, .int .u64 0] 28)
  have hgw := hG.lt
  have LK : Hid (∀ W, Only g w W → Laid W) := Lib.hid fun W h => fun j hj => by
    have hb := h.other 3 (by have := L0.size; omega) (by omega)
    rw [show W.cell? ⟨3, j, none⟩ = w.cell? ⟨3, j, none⟩ from World.cell?_of_block (w := w) hb]
    exact L0 j hj
  have ST : Hid (∀ k, limb v k * 4294967296 % 18446744073709551616 + cy 4294967296 v 0 p k = limb (Tt v p) k ∧ limb v k / 4294967296 = cy 4294967296 v 0 p (k + 1) ∧ cy 4294967296 v 0 p k < 4294967296) := Lib.hid fun k => step_limb v p k hp
  have C0 : Hid (cy 4294967296 v 0 p 0 = p) := Lib.hid (cy_zero _ _ _ _)
  obtain ⟨tt1, tt2, tt3⟩ := tt_top hv hp
  have hTT : Tt v p < 124330809102446660538845562036705210025114037699336929360115994223289874253133343883264 := by unfold Tt; unfold LL at hv; omega
  have HL := Lib.hid (limb3_mod (Tt v p))
  have hy := limb_lt (Tt v p) 3
  obtain ⟨q, hq⟩ : ∃ q, q = Tt v p / 7237005577332262213973186563042994240829374041602535252466099000494570602496 := ⟨_, rfl⟩
  obtain ⟨r, hr⟩ : ∃ r, r = Tt v p % 7237005577332262213973186563042994240829374041602535252466099000494570602496 := ⟨_, rfl⟩
  have YES := Lib.hid (left_yes hq hr)
  have NO := Lib.hid (left_no hTT hq hr)
  have hqb : q < 18446744073709551616 := by rw [hq]; omega
  have hrb : r < big := by rw [hr]; exact Nat.lt_of_lt_of_le (Nat.mod_lt _ (by decide)) (by decide)
  have hqo : q * OV < big := by unfold OV big; omega
  rw [← hr] at HL
  rw [← hq] at tt1
  have OT : Hid (∀ W, Calls Tryd.prog 85 #[.int .u64 (q : Int)] W fun e w' => e = .returned (.agg ((lims (q * OV)).map nv).toArray) ∧ Below W.heap.size W w') := Lib.hid fun W => overTimes_any q W hqb
  have LS : Hid (∀ W, Calls Tryd.prog 84 #[.agg ((lims r).map nv).toArray, .agg ((lims (q * OV)).map nv).toArray] W fun e w' => e = .returned (.tuple #[.agg ((lims (r + big - q * OV)).map nv).toArray, .bool (decide (r < q * OV))]) ∧ Below W.heap.size W w') := Lib.hid fun W => less_any r (q * OV) W hrb hqo
  have PL : Hid (∀ W, Calls Tryd.prog 86 #[.agg ((lims (r + big - q * OV)).map nv).toArray, .agg ((lims LL).map nv).toArray] W fun e w' => e = .returned (.agg ((lims (r + big - q * OV + LL)).map nv).toArray) ∧ Below W.heap.size W w') := Lib.hid fun W => plus_any _ LL W
  clear hq hr hTT hrb hqo hqb hv hp
  rw [fev_eq]
  generalize q * OV = qo at *
  generalize r + big - qo = d at *
  generalize hdl : d + LL = dl at *
  clear hdl
  generalize Tt v p % LL = res at *
  go_enter Tryd.func83, Tryd.ntmps83
  go_wp2_with (first
    | (with_reducible refine wpList_load_n rfl 28 (.tmp 1) rfl g rfl (lims v) 4 (by with_unfolding_all exact hG1) rfl Tryd.underlying28 Tryd.infoSc ?_)
    | fail)
  go_loopw [0, 10] (fun vp vi wr => ∃ k : Nat, k ≤ 4 ∧ vi = .int .i64 (k : Int) ∧ vp = .int .u64 (cy 4294967296 v 0 p k : Int) ∧ HoldsN wr 28 g (mixL 4 (Tt v p) v k) ∧ HoldsN wr 28 w.heap.size (lims 0) ∧ Only g w wr)
    (fun _ vi _ => 4 - (intOf vi).toNat)
  case atStart => exact ⟨0, Nat.zero_le _, rfl, by rw [C0.out], hG1, hR, O1⟩
  case round =>
    clear hG hG1 hR O1
    obtain ⟨k, hk, rfl, rfl, hA, hR, hO⟩ := hrel
    by_cases hlt : k < 4
    · have hj2 : (k : Int) < 4 := by omega
      have ix := fun W => run_index_sc v k W hlt
      have ca := hA.cell (j := k) (by rw [mixL_length]; exact hlt)
      rw [mixL_get hlt, if_neg (Nat.lt_irrefl k)] at ca
      have hf := hA.frozen k
      have hL := Lib.hid (mixL_set (S := Tt v p) (M := v) hlt)
      obtain ⟨s1, s2, s3⟩ := ST.out k
      have hx := limb_lt v k
      clear tt1 tt2 tt3 hy
      generalize limb (Tt v p) k = s at *
      generalize limb v k = x at *
      generalize hc' : cy 4294967296 v 0 p (k + 1) = c' at *
      have HC := Lib.hid hc'
      clear hc'
      generalize cy 4294967296 v 0 p k = c at *
      obtain ⟨y, hy⟩ : ∃ y, y = x * 4294967296 % 18446744073709551616 := ⟨_, rfl⟩
      have w1 : IntKind.u64.wrap ((x : Int) * 4294967296) = (y : Int) := by rw [IntKind.wrap_u64]; omega
      have w2 : bits .or .u64 (y : Int) (c : Int) = (s : Int) := by
        rw [or_part y c (by omega) (by omega) s3, ← s1, hy]
      have w3 : (x : Int) / 4294967296 = (c' : Int) := by omega
      clear s1 s2 s3 hx hy
      go_wp2
      go_roundw
      case rel => exact ⟨k + 1, by omega, by go_num, by rw [HC.out], by rw [← hL.out]; exact hA.set k s, hR.setOther _ _ (by simp; omega), hO.set rfl _⟩
      case measure => simp [intOf]; omega
    · rw [show (k : Int) = 4 by omega]
      obtain rfl : k = 4 := by omega
      rw [lims_mix4] at hA
      have ca := hA.cell (j := 3) (by rw [lims_length]; omega)
      rw [lims_get _ (by omega)] at ca
      have hf := hA.frozen 3
      generalize limb (Tt v p) 3 = y at *
      generalize cy 4294967296 v 0 p 4 = c at *
      obtain ⟨yh, hyh⟩ : ∃ yh, yh = y / 1152921504606846976 := ⟨_, rfl⟩
      obtain ⟨yl, hyl⟩ : ∃ yl, yl = y % 1152921504606846976 := ⟨_, rfl⟩
      rw [← hyh] at tt1 tt3
      rw [← hyl] at HL
      have w0 : (y : Int) / 1152921504606846976 = (yh : Int) := by omega
      have w1 : IntKind.u64.wrap ((c : Int) * 16) = ((c * 16 : Nat) : Int) := by rw [IntKind.wrap_u64]; omega
      have w2 : bits .or .u64 ((c * 16 : Nat) : Int) (yh : Int) = (q : Int) := by rw [or_four c yh (by omega) tt3, tt1]
      have w3 : bits .and .u64 (y : Int) 1152921504606846975 = (yl : Int) := by rw [hyl]; exact and_high y hy
      clear tt1 tt2 tt3 hyh hyl hy
      generalize c * 16 = c16 at *
      go_upto_region 7 with (fail)
      go_cut [4] (fun vt wx => vt = .int .u64 (q : Int) ∧ HoldsN wx 28 g (lims r) ∧ HoldsN wx 28 w.heap.size (lims 0) ∧ Only g w wx)
      case first =>
        go_region
        go_wp2_with fail
        go_meet
        exact ⟨rfl, by rw [← HL.out]; exact (hA.drewN _).set 3 yl, (hR.drewN _).setOther _ _ (by simp; omega), (hO.drewN _).set rfl _⟩
      case rest =>
        obtain ⟨rfl, hA, hR, hO⟩ := hcut
        obtain ⟨w1, hw1⟩ : ∃ x, x = wc := ⟨_, rfl⟩
        subst hw1
        have F0 : Bs w1 w1.heap.size [(g, 28, ((lims r).map nv).toArray)] w1 := ⟨fun p hp => by
          obtain rfl : p = (g, 28, ((lims r).map nv).toArray) := by simpa using hp
          exact ⟨hA.lt, hA⟩, Nat.le_refl _, Nat.le_refl _, Below.refl _ _⟩
        go_upto_region 8 with (fail)
        go_cut [7, 8] (fun vp vb wx => ∃ g2, vp = .pointer (some ⟨g2, 0, none⟩) ∧ vb = .bool (decide (r < qo)) ∧ w1.heap.size ≤ g2 ∧ HoldsN wx 28 g2 (lims d) ∧ Below w1.heap.size w1 wx)
        case first =>
          refine wp_region_lexS 9 8 7 7 (MadeT 28 zs w1.heap.size 0) (HeldT 28 ((lims d).map nv).toArray w1.heap.size) (Bs w1 w1.heap.size [(g, 28, ((lims r).map nv).toArray)]) (by kernel_rfl) (by kernel_rfl) F0.drew Bs.stay MadeT.stayS HeldT.stay (made_tS run_alloc_sc Bs.size rfl) ?_
          simp only [List.take_succ_cons, List.take_zero, List.drop_succ_cons, List.drop_zero]
          refine lexS_value (v := ?_) (by rfl) (by rfl) (by rfl) (fun W hW => ?_) ?_
          rotate_left
          · have l1 := run_loadSc (hW.getN (g := g) (l := lims r) (by simp)); go_simp <;> with_reducible rfl
          simp only [Act.put, List.setIfInBounds_toArray, List.set_cons_zero, List.set_cons_succ]
          refine lexS_value (v := ?_) (by rfl) (by rfl) (by rfl) (fun W hW => ?_) ?_
          rotate_left
          · skip; go_simp <;> with_reducible rfl
          simp only [Act.put, List.setIfInBounds_toArray, List.set_cons_zero, List.set_cons_succ]
          refine' lexS_call (by rfl) (by rfl) (by rfl) (fun W hW => ?_) (fun W hW => ?_) ?_
          rotate_left 3
          · go_simp <;> first | with_reducible rfl | exact ⟨rfl, rfl⟩
          · with_reducible exact OT.out W
          simp only [Act.put, List.setIfInBounds_toArray, List.set_cons_zero, List.set_cons_succ]
          refine' lexS_call (by rfl) (by rfl) (by rfl) (fun W hW => ?_) (fun W hW => ?_) ?_
          rotate_left 3
          · go_simp <;> first | with_reducible rfl | exact ⟨rfl, rfl⟩
          · with_reducible exact LS.out W
          simp only [Act.put, List.setIfInBounds_toArray, List.set_cons_zero, List.set_cons_succ]
          refine lexS_value (v := ?_) (by rfl) (by rfl) (by rfl) (fun W hW => ?_) ?_
          rotate_left
          · skip; go_simp <;> with_reducible rfl
          simp only [Act.put, List.setIfInBounds_toArray, List.set_cons_zero, List.set_cons_succ]
          refine lexS_value (v := ?_) (by rfl) (by rfl) (by rfl) (fun W hW => ?_) ?_
          rotate_left
          · skip; go_simp <;> with_reducible rfl
          simp only [Act.put, List.setIfInBounds_toArray, List.set_cons_zero, List.set_cons_succ]
          refine lexS_value (v := ?_) (by rfl) (by rfl) (by rfl) (fun W hW => ?_) ?_
          rotate_left
          · skip; go_simp <;> with_reducible rfl
          simp only [Act.put, List.setIfInBounds_toArray, List.set_cons_zero, List.set_cons_succ]
          refine lexS_free (by rfl) ?_
          refine lexS_store (by rfl) (by rfl) (stores_t rfl (by rfl) (by simp) (by rfl) (by rw [Tryd.infoSc]; simp [lims_length]) (by simp [zs, lims_length]) (n_one _)) ?_
          simp only [Act.put]
          refine lexS_nil (fun W8 v8 F8 E8 => ?_)
          obtain ⟨g2, rfl, hg2, hX⟩ := E8
          simp only [List.setIfInBounds_toArray, List.set_cons_zero, List.set_cons_succ]
          go_wp2_with fail
          go_meet
          exact ⟨g2, rfl, rfl, hg2, hX, F8.below⟩
        case rest =>
          obtain ⟨g2, rfl, rfl, hg2, HD, b2⟩ := hcut
          obtain ⟨w2, hw2⟩ : ∃ x, x = wc := ⟨_, rfl⟩
          subst hw2
          have hA2 := hA.keep b2 hA.lt
          have hR2 := hR.keep b2 hR.lt
          have hO2 := hO.step b2 (Nat.le_of_lt hA.lt) hO.size
          have LO := run_loadOrder (LK.out w2 hO2)
          have hgn : g ≠ w.heap.size := by omega
          have hg2n : g < g2 := Nat.lt_of_lt_of_le hA.lt hg2
          have hg2r : w.heap.size < g2 := Nat.lt_of_lt_of_le hR.lt hg2
          clear F0 hA hR hO b2 OT LS
          by_cases h : r < qo
          · rw [decide_eq_true h]
            have hN := Lib.hid (NO.out h)
            rw [hN.out] at PL
            clear YES NO h hN
            go_wp2_with (first
              | (with_reducible refine wpList_load_n rfl 28 (.tmp 7) rfl g2 rfl (lims d) 4 HD rfl Tryd.underlying28 Tryd.infoSc ?_)
              | (go_at_call 86
                 with_reducible refine (PL.out _).mono ?_
                 rintro e w3 ⟨rfl, hb3⟩
                 have hA3 := hA2.keep hb3 hA2.lt
                 have hR3 := hR2.keep hb3 hR2.lt
                 have HD3 := HD.keep hb3 HD.lt
                 have hO3 := hO2.step hb3 (Nat.le_of_lt hA2.lt) hO2.size)
              | (with_reducible refine wpList_store_n rfl 28 (.tmp 7) (.tmp 43) rfl g2 (lims res) 4 rfl rfl rfl (lims d) HD3 Tryd.infoSc rfl g w hO3.below (Nat.le_of_lt hg2n) ?_
                 intro w4 HD4 o4 s4 b4
                 have hA4 := hA3.oth o4 (by omega)
                 have hR4 := hR3.oth o4 (by omega)
                 have hO4 := hO3.othNew (Nat.le_of_lt hg2r) o4 b4
                 clear s4)
              | (with_reducible refine wpList_load_n rfl 28 (.tmp 7) rfl g2 rfl (lims res) 4 HD4 rfl Tryd.underlying28 Tryd.infoSc ?_)
              | (with_reducible refine wpList_store_n rfl 28 (.tmp 1) (.tmp 44) rfl g (lims res) 4 rfl rfl rfl (lims r) hA4 Tryd.infoSc rfl g w hO4.below (Nat.le_refl _) ?_
                 intro w5 hA5 o5 s5 b5
                 have hR5 := hR4.oth o5 (by omega)
                 have hO5 := hO4.oth o5 b5
                 clear s5)
              | (with_reducible refine wpList_load_n rfl 28 (.tmp 1) rfl g rfl (lims res) 4 hA5 rfl Tryd.underlying28 Tryd.infoSc ?_)
              | (with_reducible refine wpList_store_n rfl 28 (.tmp 3) (.tmp 45) rfl w.heap.size (lims res) 4 rfl rfl rfl (lims 0) hR5 Tryd.infoSc rfl g w hO5.below (by omega) ?_
                 intro w6 hR6 o6 s6 b6
                 have hA6 := hA5.oth o6 (by omega)
                 have hO6 := hO5.othNew (Nat.le_refl _) o6 b6
                 clear s6)
              | fail)
            exact bodyPost_ret (results_cell_row rfl _ _ _ _ _ _ _ rfl hR6 Tryd.underlying28 rfl (by rw [Tryd.infoSc]; rfl)) rfl ⟨rfl, hA6, hO6⟩
          · rw [decide_eq_false h]
            have hN := Lib.hid (YES.out h)
            rw [hN.out] at HD
            clear YES NO h hN PL
            go_wp2_with (first
              | (with_reducible refine wpList_load_n rfl 28 (.tmp 7) rfl g2 rfl (lims res) 4 HD rfl Tryd.underlying28 Tryd.infoSc ?_)
              | (with_reducible refine wpList_store_n rfl 28 (.tmp 1) (.tmp 44) rfl g (lims res) 4 rfl rfl rfl (lims r) hA2 Tryd.infoSc rfl g w hO2.below (Nat.le_refl _) ?_
                 intro w5 hA5 o5 s5 b5
                 have hR5 := hR2.oth o5 (by omega)
                 have hO5 := hO2.oth o5 b5
                 clear s5)
              | (with_reducible refine wpList_load_n rfl 28 (.tmp 1) rfl g rfl (lims res) 4 hA5 rfl Tryd.underlying28 Tryd.infoSc ?_)
              | (with_reducible refine wpList_store_n rfl 28 (.tmp 3) (.tmp 45) rfl w.heap.size (lims res) 4 rfl rfl rfl (lims 0) hR5 Tryd.infoSc rfl g w hO5.below (by omega) ?_
                 intro w6 hR6 o6 s6 b6
                 have hA6 := hA5.oth o6 (by omega)
                 have hO6 := hO5.othNew (Nat.le_refl _) o6 b6
                 clear s6)
              | fail)
            exact bodyPost_ret (results_cell_row rfl _ _ _ _ _ _ _ rfl hR6 Tryd.underlying28 rfl (by rw [Tryd.infoSc]; rfl)) rfl ⟨rfl, hA6, hO6⟩
end
end Sca
end Go.Proofs.YtlfkohanfeejfaaDoor

namespace Go.Proofs.YtlfkohanfeejfaaDoor
open Go.RowKit
namespace Sca

/-- The number that words are, the lowest first. -/
def numL : List Nat → Nat
  | [] => 0
  | x :: l => x + 18446744073709551616 * numL l
theorem numL_cons (x : Nat) (l : List Nat) : numL (x :: l) = x + 18446744073709551616 * numL l := rfl
theorem numL_lims {n : Nat} (h : n < big) : numL (lims n) = n := by
  have e := limbs_limb (n := n) h
  conv => rhs; rw [← e]
  unfold lims numL numL numL numL numL limbs
  omega
/-- What is left over of the highest k. -/
def tops (l : List Nat) (k : Nat) : Nat := numL (l.drop (l.length - k)) % LL
theorem tops_zero (l : List Nat) : tops l 0 = 0 := by
  unfold tops
  rw [Nat.sub_zero, List.drop_length]
  rfl
theorem tops_all (l : List Nat) : tops l l.length = numL l % LL := by
  unfold tops
  rw [Nat.sub_self, List.drop_zero]
theorem tops_lt (l : List Nat) (k : Nat) : tops l k < LL := Nat.mod_lt _ (by decide)
theorem tops_succ (l : List Nat) {k j : Nat} (hk : k < l.length) (hj : j = l.length - 1 - k) : Tt (Tt (tops l k) (l.getD j 0 / 4294967296) % LL) (l.getD j 0 % 4294967296) % LL = tops l (k + 1) := by
  subst hj
  unfold tops
  rw [show l.length - (k + 1) = l.length - 1 - k by omega]
  have hlt : l.length - 1 - k < l.length := by omega
  rw [List.drop_eq_getElem_cons hlt, show l.length - 1 - k + 1 = l.length - k by omega, List.getD_eq_getElem?_getD, List.getElem?_eq_getElem hlt, Option.getD_some]
  generalize l[l.length - 1 - k] = x
  rw [numL_cons]
  generalize numL (l.drop (l.length - k)) = v
  unfold Tt
  have hx := Nat.mod_add_div x 4294967296
  generalize x / 4294967296 = xh at *
  generalize x % 4294967296 = xl at *
  rw [Nat.add_mod (4294967296 * ((4294967296 * (v % LL) + xh) % LL)), Nat.mul_mod_mod, ← Nat.add_mod, Nat.mul_add, ← Nat.mul_assoc]
  rw [Nat.add_assoc, Nat.add_mod (4294967296 * 4294967296 * (v % LL)), Nat.mul_mod_mod, ← Nat.add_mod]
  congr 1
  omega

set_option maxRecDepth 100000 in
theorem division_any (w : World) :
    Calls Tryd.prog 73 #[] w fun e w' => e = .returned (.func (.func 83) #[] #[.pointer (some ⟨w.heap.size, 0, none⟩)]) ∧ w' = w.alloc (.cells #[.int .u64 0, .int .u64 0, .int .u64 0, .int .u64 0] 28) := by
  have hmf : ∀ (fn : Fn) (first cap : Array Value) (w : World), (Instr.makeFunc fn first cap).run Tryd.prog w = .ok (.func fn first cap) w := fun _ _ _ _ => rfl
  go_enter Tryd.func73, Tryd.ntmps73
  go_wp2
  go_ret
  exact ⟨rfl, rfl⟩

theorem and_part (a : Nat) (ha : a < 18446744073709551616) : bits .and .u64 (a : Int) 4294967295 = ((a % 4294967296 : Nat) : Int) := by
  have h := bits_and_u64_nat a 4294967295 ha (by omega)
  have e : a &&& 4294967295 = a % 4294967296 := Nat.and_two_pow_sub_one_eq_mod a 32
  rw [e] at h
  exact h

set_option maxRecDepth 100000 in
set_option maxHeartbeats 2000000 in
theorem below_any (l : List Nat) (n b : Nat) (ty : TypeId) (w : World) (hl : l.length = n) (hn : n ≤ 8) (hs : ∀ x ∈ l, x < 18446744073709551616) (hB : HoldsN w ty b l) (L0 : Laid w) :
    Calls Tryd.prog 51 #[.slice (some ⟨b, 0, none⟩) n n] w (GaveF w (numL l % LL)) := by
  have hsz := L0.size
  have hbw := hB.lt
  obtain ⟨z0, b0, e0⟩ := sc_start w 0 #[.int .u64 0, .int .u64 0, .int .u64 0, .int .u64 0] (by kernel_rfl)
  obtain ⟨r0, r1, r2, br, er⟩ := sc_start3 w 0 0 0 #[.int .u64 0, .int .u64 0, .int .u64 0, .int .u64 0] #[.int .u64 0, .int .u64 0, .int .u64 0, .int .u64 0] #[.int .u64 0, .int .u64 0, .int .u64 0, .int .u64 0] (by kernel_rfl) (by kernel_rfl) (by kernel_rfl)
  have STEP : Hid (∀ (v p : Nat) W, v < LL → p < 4294967296 → HoldsN W 28 (w.heap.size + 1) (lims v) → Below w.heap.size w W →
      Calls Tryd.prog 83 #[.int .u64 (p : Int), .pointer (some ⟨w.heap.size + 1, 0, none⟩)] W fun e w' => e = .returned (.agg ((lims (Tt v p % LL)).map nv).toArray) ∧ HoldsN w' 28 (w.heap.size + 1) (lims (Tt v p % LL)) ∧ Only (w.heap.size + 1) W w') :=
    Lib.hid fun v p W hv hp hG hb => step_any v p (w.heap.size + 1) W hv hp hG (L0.keep hb hsz) (by omega)
  have DV : Hid (∀ W, W.heap.size = w.heap.size + 1 → Calls Tryd.prog 73 #[] W fun e w' => e = .returned (.func (.func 83) #[] #[.pointer (some ⟨w.heap.size + 1, 0, none⟩)]) ∧ w' = W.alloc (.cells #[.int .u64 0, .int .u64 0, .int .u64 0, .int .u64 0] 28)) := Lib.hid fun W hW => by
    have := division_any W
    rwa [hW] at this
  have TZ : Hid (tops l 0 = 0) := Lib.hid (tops_zero l)
  have TA : Hid (tops l n = numL l % LL) := Lib.hid (by rw [← hl]; exact tops_all l)
  have TL : Hid (∀ k, tops l k < LL) := Lib.hid fun k => tops_lt l k
  have TS : Hid (∀ k j, k < n → j = n - 1 - k → Tt (Tt (tops l k) (l.getD j 0 / 4294967296) % LL) (l.getD j 0 % 4294967296) % LL = tops l (k + 1)) := Lib.hid fun k j hk hj => tops_succ l (by omega) (by omega)
  have XS : Hid (∀ j, l.getD j 0 < 18446744073709551616) := Lib.hid fun j => by
    rw [List.getD_eq_getElem?_getD]
    cases h : l[j]? with
    | none => simp
    | some x => exact hs x (List.mem_of_getElem? h)
  have tz : ∀ {W : World} {g : Nat}, HoldsN W 28 g (lims 0) → HoldsN W 28 g (lims (tops l 0)) := fun h => by rw [TZ.out]; exact h
  have r1' := tz r1
  have r2' := tz r2
  clear r1 r2 tz
  unfold GaveF
  rw [fev_eq]
  generalize numL l % LL = res at *
  have E0 := Lib.hid e0
  have HL := Lib.hid hl
  clear e0 er hl hs hsz z0 b0
  go_enter Tryd.func51, Tryd.ntmps51
  go_wp2_with (first
    | (go_at_call 73
       with_reducible refine (DV.out _ E0.out).mono ?_
       rintro e w1 ⟨rfl, rfl⟩)
    | fail)
  go_loopw [10] (fun vi wr => ∃ i : Nat, i ≤ n ∧ vi = .int .i64 (i : Int) ∧ HoldsN wr 28 w.heap.size (lims 0) ∧ HoldsN wr 28 (w.heap.size + 1) (lims (tops l i)) ∧ HoldsN wr 28 (w.heap.size + 2) (lims (tops l i)) ∧ Below w.heap.size w wr)
    (fun vi _ => n - (intOf vi).toNat)
  case atStart => exact ⟨0, Nat.zero_le _, rfl, r0, r1', r2', br⟩
  case round =>
    clear r0 r1' r2' br E0 DV
    obtain ⟨i, hi, rfl, hR, hG, hL, hb⟩ := hrel
    by_cases hlt : i < n
    · have hi2 : (i : Int) < (n : Int) := by omega
      obtain ⟨j, hj⟩ : ∃ j, j = n - 1 - i := ⟨_, rfl⟩
      have hjl : j < l.length := by rw [HL.out]; omega
      have hjn : (j : Int) < (n : Int) := by omega
      have cb := (hB.keep hb hbw).cell (j := j) hjl
      have hx := XS.out j
      have ts := TS.out i j hlt hj
      have w1 : IntKind.i64.wrap ((n : Int) - 1) = ((n - 1 : Nat) : Int) := by rw [IntKind.wrap_i64]; omega
      have w2 : IntKind.i64.wrap (((n - 1 : Nat) : Int) - (i : Int)) = (j : Int) := by rw [IntKind.wrap_i64]; omega
      generalize n - 1 = n1 at *
      generalize l.getD j 0 = x at *
      obtain ⟨xh, hxh⟩ : ∃ xh, xh = x / 4294967296 := ⟨_, rfl⟩
      obtain ⟨xl, hxl⟩ : ∃ xl, xl = x % 4294967296 := ⟨_, rfl⟩
      rw [← hxh, ← hxl] at ts
      have w3 : (x : Int) / 4294967296 = (xh : Int) := by omega
      have w4 : bits .and .u64 (x : Int) 4294967295 = (xl : Int) := by rw [hxl]; exact and_part x hx
      have S1 : Hid (∀ W, HoldsN W 28 (w.heap.size + 1) (lims (tops l i)) → Below w.heap.size w W → Calls Tryd.prog 83 #[.int .u64 (xh : Int), .pointer (some ⟨w.heap.size + 1, 0, none⟩)] W fun e w' => e = .returned (.agg ((lims (Tt (tops l i) xh % LL)).map nv).toArray) ∧ HoldsN w' 28 (w.heap.size + 1) (lims (Tt (tops l i) xh % LL)) ∧ Only (w.heap.size + 1) W w') := Lib.hid fun W hG hb => STEP.out (tops l i) xh W (TL.out i) (by omega) hG hb
      have S2 : Hid (∀ W, HoldsN W 28 (w.heap.size + 1) (lims (Tt (tops l i) xh % LL)) → Below w.heap.size w W → Calls Tryd.prog 83 #[.int .u64 (xl : Int), .pointer (some ⟨w.heap.size + 1, 0, none⟩)] W fun e w' => e = .returned (.agg ((lims (tops l (i + 1))).map nv).toArray) ∧ HoldsN w' 28 (w.heap.size + 1) (lims (tops l (i + 1))) ∧ Only (w.heap.size + 1) W w') := Lib.hid fun W hG hb => by
        have := STEP.out (Tt (tops l i) xh % LL) xl W (Nat.mod_lt _ (by decide)) (by omega) hG hb
        rwa [ts] at this
      clear ts hxh hxl hx hj STEP
      generalize Tt (tops l i) xh % LL = y at *
      generalize hz : tops l (i + 1) = z at *
      have HZ := Lib.hid hz
      clear hz
      generalize tops l i = v at *
      go_wp2_with (first
        | (go_at_call 83
           with_reducible refine (S1.out _ hG hb).mono ?_
           rintro e w3 ⟨rfl, hG3, hO3⟩
           have hL3 : HoldsN w3 28 (w.heap.size + 2) (lims v) := (hO3.other _ hL.lt (by omega)).trans hL
           have hR3 : HoldsN w3 28 w.heap.size (lims 0) := (hO3.other _ hR.lt (by omega)).trans hR
           have b3 := hb.trans (hO3.below.mono (Nat.le_succ _)))
        | (go_at_call 83
           with_reducible refine (S2.out _ hG3 b3).mono ?_
           rintro e w4 ⟨rfl, hG4, hO4⟩
           have hL4 : HoldsN w4 28 (w.heap.size + 2) (lims v) := (hO4.other _ hL3.lt (by omega)).trans hL3
           have hR4 : HoldsN w4 28 w.heap.size (lims 0) := (hO4.other _ hR3.lt (by omega)).trans hR3
           have b4 := b3.trans (hO4.below.mono (Nat.le_succ _)))
        | (with_reducible refine wpList_store_n rfl 28 (.tmp 4) (.tmp 28) rfl (w.heap.size + 2) (lims z) 4 rfl rfl rfl (lims v) hL4 Tryd.infoSc rfl w.heap.size w b4 (by omega) ?_
           intro w5 hL5 o5 s5 b5
           have hG5 := hG4.oth o5 (by omega)
           have hR5 := hR4.oth o5 (by omega)
           clear s5)
        | fail)
      go_roundw
      case rel => exact ⟨i + 1, by omega, by go_num, hR5, by rw [HZ.out]; exact hG5, by rw [HZ.out]; exact hL5, b5⟩
      case measure => simp [intOf]; omega
    · obtain rfl : i = n := by omega
      rw [TA.out] at hG hL
      clear STEP TS
      go_wp2_with (first
        | (with_reducible refine wpList_load_n rfl 28 (.tmp 4) rfl (w.heap.size + 2) rfl (lims res) 4 hL rfl Tryd.underlying28 Tryd.infoSc ?_)
        | (with_reducible refine wpList_store_n rfl 28 (.tmp 2) (.tmp 30) rfl w.heap.size (lims res) 4 rfl rfl rfl (lims 0) hR Tryd.infoSc rfl w.heap.size w hb (Nat.le_refl _) ?_; intro w7 Hg _ _ hb7)
        | fail)
      exact bodyPost_ret (results_cell_row rfl _ _ _ _ _ _ _ rfl Hg Tryd.underlying28 rfl (by rw [Tryd.infoSc]; rfl)) rfl ⟨rfl, hb7⟩
end Sca
end Go.Proofs.YtlfkohanfeejfaaDoor
