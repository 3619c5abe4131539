/-
  A product, digit by digit, and what stands sixteen digits above: 38 times as much. Pure.
  Blocks that hold arrays of numbers of 64 bits; numbers of four such.
  Numbers modulo L, the order of the curve's great group. Pure.
  Points as three numbers; the order of Base, and that of all points. Pure.
  Points as four numbers: X, Y, what both are divided by, and T, which divided so is X times Y. Pure.
  Sums and differences, limb by limb; which number is less. Pure.
-/
import Derived.BigQuiet
import Derived.Deep.QuietTactic
import Derived.Deep.RegionHeld3
import Derived.Great.BuildSlice
import Derived.Great.Walk
import Derived.Laws.BitsAllLaws
import Derived.Laws.Tables
import Derived.RegionTactic
import Derived.Test.YtlfkohanfeejfaaDoorMab
namespace Go.Proofs.YtlfkohanfeejfaaDoor

/-- All digits' sums behind the first i rows, and k digits of the next. -/
structure Prods (X Y : List Nat) (i k : Nat) (L : List Nat) : Prop where
  len : L.length = 32
  val : dv L = dv (X.take i) * dv Y + X.getD i 0 * 65536 ^ i * dv (Y.take k)
  low : ∀ j, L.getD j 0 ≤ (if j < i + k then i + 1 else i) * 4294836225

theorem Prods.start (X Y : List Nat) : Prods X Y 0 0 (List.replicate 32 0) := by
  refine ⟨by simp, by rw [dv_replicate]; simp [dv], fun j => ?_⟩
  have : (List.replicate 32 0).getD j 0 = 0 := by
    rw [List.getD_eq_getElem?_getD, List.getElem?_replicate]; split <;> rfl
  omega
theorem getD_lt {X : List Nat} (h : ∀ x ∈ X, x < 65536) (i : Nat) : X.getD i 0 ≤ 65535 := by
  rw [List.getD_eq_getElem?_getD]
  cases hg : X[i]? with
  | none => simp
  | some y => have := h y (List.mem_of_getElem? hg); simp only [Option.getD_some]; omega
theorem Prods.step {X Y : List Nat} {i k : Nat} {L : List Nat} (h : Prods X Y i k L) (hX : ∀ x ∈ X, x < 65536) (hY : ∀ y ∈ Y, y < 65536) (hi : i < 16) (hk : k < 16) (hYl : Y.length = 16) :
    Prods X Y i (k + 1) (L.set (i + k) (L.getD (i + k) 0 + X.getD i 0 * Y.getD k 0)) := by
  have hj : i + k < L.length := by rw [h.len]; omega
  have eL : L.getD (i + k) 0 = L[i + k] := by rw [List.getD_eq_getElem?_getD, List.getElem?_eq_getElem hj, Option.getD_some]
  have eY : Y.getD k 0 = Y[k]'(by omega) := by rw [List.getD_eq_getElem?_getD, List.getElem?_eq_getElem (by omega), Option.getD_some]
  refine ⟨by rw [List.length_set, h.len], ?_, fun j => ?_⟩
  · rw [eL, dv_set _ _ _ hj, h.val, dv_take_succ Y (by omega), ← eY, Nat.pow_add, Nat.mul_add, Nat.add_assoc]
    congr 2
    rw [Nat.mul_assoc, Nat.mul_assoc, ← Nat.mul_assoc (Y.getD k 0), Nat.mul_comm (Y.getD k 0), Nat.mul_assoc]
  · by_cases e : j = i + k
    · subst e
      have h1 := h.low (i + k)
      rw [if_neg (by omega)] at h1
      rw [if_pos (by omega), List.getD_eq_getElem?_getD, List.getElem?_set_self hj, Option.getD_some]
      have : X.getD i 0 * Y.getD k 0 ≤ 65535 * 65535 := Nat.mul_le_mul (getD_lt hX i) (getD_lt hY k)
      omega
    · have h1 := h.low j
      rw [List.getD_eq_getElem?_getD, List.getElem?_set_ne (by omega), ← List.getD_eq_getElem?_getD]
      by_cases h2 : j < i + k
      · rw [if_pos h2] at h1; rw [if_pos (by omega)]; exact h1
      · rw [if_neg h2] at h1; rw [if_neg (by omega)]; exact h1
theorem Prods.row {X Y : List Nat} {i : Nat} {L : List Nat} (h : Prods X Y i 16 L) (hi : i < X.length) (hYl : Y.length = 16) : Prods X Y (i + 1) 0 L := by
  have eX : X.getD i 0 = X[i] := by rw [List.getD_eq_getElem?_getD, List.getElem?_eq_getElem hi, Option.getD_some]
  refine ⟨h.len, ?_, fun j => ?_⟩
  · rw [h.val, dv_take_succ X hi, eX, show Y.take 16 = Y from List.take_of_length_le (by omega), List.take_zero, Nat.add_mul]
    simp [dv]
  · have h1 := h.low j
    have q1 : (if j < i + 16 then i + 1 else i) ≤ i + 1 := by split <;> omega
    have q2 : i + 1 ≤ (if j < i + 1 + 0 then i + 1 + 1 else i + 1) := by split <;> omega
    exact Nat.le_trans h1 (Nat.mul_le_mul_right _ (Nat.le_trans q1 q2))
theorem Prods.low_le {X Y : List Nat} {i : Nat} {L : List Nat} (h : Prods X Y i 0 L) (j : Nat) : L.getD j 0 ≤ (i + 1) * 4294836225 := by
  have q1 : (if j < i + 0 then i + 1 else i) ≤ i + 1 := by split <;> omega
  exact Nat.le_trans (h.low j) (Nat.mul_le_mul_right _ q1)
theorem Prods.done {X Y L : List Nat} (h : Prods X Y 16 0 L) (hX : X.length = 16) : dv L = dv X * dv Y ∧ ∀ j, L.getD j 0 ≤ (16 + 1) * 4294836225 := by
  refine ⟨?_, fun j => ?_⟩
  · have := h.val
    rw [show X.take 16 = X from List.take_of_length_le (by omega), List.take_zero] at this
    simpa [dv] using this
  · exact h.low_le j

/-- Sixteen digits, and 38 times what stands above. -/
def lows (L : List Nat) : List Nat := (List.range 16).map fun i => L.getD i 0 + 38 * L.getD (i + 16) 0
theorem lows_length (L : List Nat) : (lows L).length = 16 := by simp [lows]
theorem lows_get (L : List Nat) {i : Nat} (h : i < (lows L).length) : (lows L)[i] = L.getD i 0 + 38 * L.getD (i + 16) 0 := by simp [lows]
theorem dv_lin {α : Type} (f g : α → Nat) (c : Nat) : ∀ l : List α, dv (l.map fun i => f i + c * g i) = dv (l.map f) + c * dv (l.map g)
  | [] => rfl
  | a :: l => by
    simp only [List.map_cons, dv, dv_lin f g c l, Nat.mul_add, Nat.mul_left_comm c 65536]
    omega
theorem dv_lows {L : List Nat} (h : L.length = 32) : dv (lows L) = dv (L.take 16) + 38 * dv (L.drop 16) := by
  have e1 : ((List.range 16).map fun i => L.getD i 0) = L.take 16 := by
    refine List.ext_getElem (by simp [h]) fun i h1 h2 => ?_
    simp only [List.getElem_map, List.getElem_range, List.getElem_take]
    have : i < 16 := by simpa using h1
    rw [List.getD_eq_getElem?_getD, List.getElem?_eq_getElem (by omega), Option.getD_some]
  have e2 : ((List.range 16).map fun i => L.getD (i + 16) 0) = L.drop 16 := by
    refine List.ext_getElem (by simp [h]) fun i h1 h2 => ?_
    simp only [List.getElem_map, List.getElem_range, List.getElem_drop]
    have : i < 16 := by simpa using h1
    rw [List.getD_eq_getElem?_getD, List.getElem?_eq_getElem (by omega), Option.getD_some]
    simp only [Nat.add_comm]
  unfold lows
  rw [dv_lin, e1, e2]
theorem toF_lows {L : List Nat} (h : L.length = 32) : toF (dv (lows L)) = toF (dv L) := by
  rw [dv_lows h, dv_half L 16, h, show min 16 32 = 16 by rfl, two256, toF_eq,
    show dv (L.take 16) + (2 * PP + 38) * dv (L.drop 16) = dv (L.take 16) + 38 * dv (L.drop 16) + PP * (2 * dv (L.drop 16)) by
      rw [Nat.add_mul, Nat.mul_left_comm PP, Nat.mul_assoc]; omega, Nat.add_mul_mod_self_left]
theorem lows_lt {L : List Nat} (h : ∀ j, L.getD j 0 ≤ (16 + 1) * 4294836225) : ∀ x ∈ lows L, x < 4398046511104 := fun x hx => by
  obtain ⟨i, _, rfl⟩ := List.mem_map.1 hx
  have h1 := h i
  have h2 := h (i + 16)
  omega

/-- The whole product: what comes out has digits below 65536, and is the product modulo P. -/
theorem product {x y : Nat} {L : List Nat} (hx : x < 65536 ^ 16) (hy : y < 65536 ^ 16) (h : Prods (digits x 16) (digits y 16) 16 0 L) :
    (∀ d ∈ round38 (round38 (round38 (lows L))), d < 65536) ∧ (round38 (round38 (round38 (lows L)))).length = 16 ∧ toF (dv (round38 (round38 (round38 (lows L))))) = toF x * toF y := by
  obtain ⟨h1, h2⟩ := h.done (digits_length _ _)
  obtain ⟨r1, r2⟩ := three_rounds (lows_length L) (lows_lt h2)
  refine ⟨r1, by rw [round38_length, round38_length, round38_length, lows_length], ?_⟩
  rw [r2, toF_lows h.len, h1, dv_digits, dv_digits, Nat.mod_eq_of_lt hx, Nat.mod_eq_of_lt hy, toF_mul]
end Go.Proofs.YtlfkohanfeejfaaDoor

namespace Go.Proofs.YtlfkohanfeejfaaDoor
open Go.RowKit

def nv (x : Nat) : Value := .int .u64 (x : Int)

/-- Block g holds the numbers l, as an array of type ty. -/
def HoldsN (W : World) (ty g : Nat) (l : List Nat) : Prop := W.heap[g]? = some (.cells (l.map nv).toArray ty (0, 0))
section
variable {W W' : World} {ty g : Nat} {l : List Nat}
theorem HoldsN.lt (h : HoldsN W ty g l) : g < W.heap.size := (Array.getElem?_eq_some_iff.1 h).1
theorem HoldsN.keep (h : HoldsN W ty g l) {D : Nat} (hb : Below D W W') (hD : g < D) : HoldsN W' ty g l := (hb.block g hD).trans h
theorem HoldsN.cell (h : HoldsN W ty g l) {j : Nat} (hj : j < l.length) : W.cell? ⟨g, j, none⟩ = some (.int .u64 (l.getD j 0 : Int)) := by
  rw [cell_of_row W g j _ ty (0, 0) h]
  simp [nv, hj]
theorem HoldsN.frozen (h : HoldsN W ty g l) (j : Nat) : W.frozen? ⟨g, j, none⟩ = false := frozen_of_row W g j _ ty h
theorem HoldsN.set (h : HoldsN W ty g l) (j : Nat) (x : Nat) : HoldsN (W.setCell ⟨g, j, none⟩ (.int .u64 (x : Int))) ty g (l.set j x) := by
  unfold HoldsN
  rw [heap_setCell_same W g j _ ty _ h]
  congr 2
  rw [List.map_set, List.setIfInBounds_toArray]
  rfl
theorem HoldsN.drewN (h : HoldsN W ty g l) (n : Nat) : HoldsN (W.drewN n) ty g l := h
theorem HoldsN.alloc (h : HoldsN W ty g l) (o : Obj) : HoldsN (W.alloc o) ty g l := by
  refine Eq.trans ?_ h
  simp only [World.alloc, Array.getElem?_push]
  rw [if_neg (Nat.ne_of_lt h.lt)]
theorem HoldsN.setOther (h : HoldsN W ty g l) (a : Addr) (v : Value) (hn : g ≠ a.block) : HoldsN (W.setCell a v) ty g l :=
  (heap_setCell_other W a g v hn).trans h
theorem HoldsN.oth {g' : Nat} (h : HoldsN W ty g l) (ho : ∀ k, k ≠ g' → W'.heap[k]? = W.heap[k]?) (hn : g ≠ g') : HoldsN W' ty g l := (ho g hn).trans h
end
theorem holdsN_new (W : World) (ty g : Nat) (cs : Array Value) (l : List Nat) (hg : g = W.heap.size) (hc : cs = (l.map nv).toArray) : HoldsN (W.alloc (.cells cs ty)) ty g l := by
  subst hg hc
  exact heap_alloc_new W _

theorem n_one (l : List Nat) : (l.map nv).toArray.all (·.oneCell') = true := by
  rw [Array.all_eq_true_iff_forall_mem]
  intro v hv
  obtain ⟨x, _, rfl⟩ := List.mem_map.1 (by simpa using hv)
  rfl

/-- 'x := a' of an array of numbers in a block. -/
theorem wpList_load_n {P : Program} {ops : Array Oper} {rest : List Oper} {o : Oper} {a : Act} {w : World} {Q : Exit → Act → World → Prop} (hgd : o.guard = none) (ty : TypeId) (x : Operand) (ho : o.op = .load ty x)
    (g : Nat) (hx : a.eval x = .pointer (some ⟨g, 0, none⟩)) (l : List Nat) (m : Nat) {e : TypeId} {n : Nat} (hg : HoldsN w ty g l) (hl : l.length = m)
    (hu : P.underlying ty = some (.array n e)) (hi : (P.info? ty).map (·.size) = some m)
    (h : wpList P ops Q rest (a.put o.dst (.agg (l.map nv).toArray)) w) : wpList P ops Q (o :: rest) a w :=
  wpList_load_row hgd ty x ho g hx ty _ (0, 0) _ hg hu rfl (by rw [hi]; simp [hl]) h

/-- 'r = a' into a block of the call's own. -/
theorem wpList_store_n {P : Program} {ops : Array Oper} {rest : List Oper} {o : Oper} {a : Act} {w : World} {Q : Exit → Act → World → Prop} (hgd : o.guard = none) (ty : TypeId) (x y : Operand) (ho : o.op = .store ty x y)
    (g : Nat) (l : List Nat) (m : Nat) (hx : a.eval x = .pointer (some ⟨g, 0, none⟩)) (hy : a.eval y = .agg (l.map nv).toArray) (hl : l.length = m)
    (old : List Nat) (hg : HoldsN w ty g old) (hi : (P.info? ty).map (·.size) = some m) (hold : old.length = m) (D : Nat) (w0 : World) (hb : Below D w0 w) (hD : D ≤ g)
    (h : ∀ w' : World, HoldsN w' ty g l → (∀ k, k ≠ g → w'.heap[k]? = w.heap[k]?) → w'.heap.size = w.heap.size → Below D w0 w' → wpList P ops Q rest (a.put o.dst undef) w') : wpList P ops Q (o :: rest) a w :=
  wpList_store_row hgd ty x y ho g _ hx hy ty _ hg (by rw [hi]; simp [hl]) (by simp [hl, hold]) (n_one l)
    (h _ (show _ = _ from setRow_heap w g _ _ ty _ hg) (fun k hk => setRow_other w g k _ hk) (by simp) (below_setRow hb hD _))

/-! Numbers of four. -/
def lims (n : Nat) : List Nat := [limb n 0, limb n 1, limb n 2, limb n 3]
theorem lims_length (n : Nat) : (lims n).length = 4 := rfl
/-- The value of api.Fe that n is. -/
def fev (n : Nat) : Value := .agg #[.int .u64 (limb n 0 : Int), .int .u64 (limb n 1 : Int), .int .u64 (limb n 2 : Int), .int .u64 (limb n 3 : Int)]
theorem fev_eq (n : Nat) : fev n = .agg ((lims n).map nv).toArray := rfl
def big : Nat := 115792089237316195423570985008687907853269984665640564039457584007913129639936
theorem lims_inj {m n : Nat} (hm : m < big) (hn : n < big) (h : lims m = lims n) : m = n := by
  unfold big at *
  have h' : limb m 0 = limb n 0 ∧ limb m 1 = limb n 1 ∧ limb m 2 = limb n 2 ∧ limb m 3 = limb n 3 := by simpa [lims] using h
  rw [← limbs_limb hm, ← limbs_limb hn, h'.1, h'.2.1, h'.2.2.1, h'.2.2.2]
theorem lims_limbs {a b c d : Nat} (ha : a < 18446744073709551616) (hb : b < 18446744073709551616) (hc : c < 18446744073709551616) (hd : d < 18446744073709551616) : lims (limbs a b c d) = [a, b, c, d] := by
  obtain ⟨h0, h1, h2, h3⟩ := limb_limbs ha hb hc hd
  unfold lims
  rw [h0, h1, h2, h3]
/-- Four numbers of 64 bits are one. -/
theorem fev_of {a b c d : Nat} (ha : a < 18446744073709551616) (hb : b < 18446744073709551616) (hc : c < 18446744073709551616) (hd : d < 18446744073709551616) :
    Value.agg #[.int .u64 (a : Int), .int .u64 (b : Int), .int .u64 (c : Int), .int .u64 (d : Int)] = fev (limbs a b c d) := by
  obtain ⟨h0, h1, h2, h3⟩ := limb_limbs ha hb hc hd
  unfold fev
  rw [h0, h1, h2, h3]
theorem F.lt_big (a : F) : a.val < big := Nat.lt_trans a.isLt (by decide)
end Go.Proofs.YtlfkohanfeejfaaDoor

namespace Go.Proofs.YtlfkohanfeejfaaDoor

/-- L. -/
def LL : Nat := 7237005577332262213973186563042994240857116359379907606001950938285454250989
instance : NeZero LL := ⟨by decide⟩
abbrev Sn := Fin LL

def toS (n : Nat) : Sn := ⟨n % LL, Nat.mod_lt _ (by decide)⟩
theorem toS_val (n : Nat) : (toS n).val = n % LL := rfl
theorem toS_of (a : Sn) : toS a.val = a := Fin.ext (Nat.mod_eq_of_lt a.isLt)
theorem toS_mod (n : Nat) : toS (n % LL) = toS n := Fin.ext (Nat.mod_mod _ _)
theorem toS_eq {m n : Nat} : toS m = toS n ↔ m % LL = n % LL := ⟨fun h => congrArg Fin.val h, fun h => Fin.ext h⟩
theorem toS_zero {n : Nat} : toS n = 0 ↔ LL ∣ n := ⟨fun h => Nat.dvd_of_mod_eq_zero (congrArg Fin.val h), fun h => Fin.ext (Nat.mod_eq_zero_of_dvd h)⟩
theorem Sn.val_add (a b : Sn) : (a + b).val = (a.val + b.val) % LL := Fin.val_add a b
theorem Sn.val_mul (a b : Sn) : (a * b).val = a.val * b.val % LL := Fin.val_mul a b
theorem Sn.val_neg (a : Sn) : (-a).val = (LL - a.val) % LL := rfl
theorem Sn.val_zero : (0 : Sn).val = 0 := rfl
theorem Sn.val_one : (1 : Sn).val = 1 := rfl
theorem toS_add (m n : Nat) : toS (m + n) = toS m + toS n := Fin.ext (by rw [Sn.val_add, toS_val, toS_val, toS_val, Nat.add_mod])
theorem toS_mul (m n : Nat) : toS (m * n) = toS m * toS n := Fin.ext (by rw [Sn.val_mul, toS_val, toS_val, toS_val, Nat.mul_mod])

theorem Sn.lt_big (a : Sn) : a.val < big := Nat.lt_trans a.isLt (by decide)
theorem Sn.omul (a : Sn) : 1 * a = a := by grind
end Go.Proofs.YtlfkohanfeejfaaDoor

namespace Go.Proofs.YtlfkohanfeejfaaDoor

/-! L is prime. -/
theorem pr_l6 : Pr 1224481 := pr_small 1108 (by decide) (by decide +kernel) (by decide)
theorem pr_l7 : Pr 531581 := pr_small 731 (by decide) (by decide +kernel) (by decide)
theorem pr_l5 : Pr 1257559732178653 := pock2 (R := 1027014492) (R' := 2365697292) (a := 2) (a' := 2) pr_l6 pr_l7 (by decide) (by decide) (by decide +kernel) (by decide +kernel) (by decide +kernel) (by decide +kernel) (by decide +kernel) (by decide +kernel) (by decide +kernel) (by decide +kernel)
theorem pr_l4 : Pr 4434155615661930479 := pock1 (R := 3526) (a := 2) pr_l5 (by decide +kernel) (by decide +kernel) (by decide +kernel) (by decide +kernel) (by decide +kernel) (by decide +kernel)
theorem pr_l3 : Pr 172054593956031949258510691 := pock1 (R := 38802110) (a := 2) pr_l4 (by decide +kernel) (by decide +kernel) (by decide +kernel) (by decide +kernel) (by decide +kernel) (by decide +kernel)
theorem pr_l2 : Pr 19757330305831588566944191468367130476339 := pock1 (R := 114831751082918) (a := 2) pr_l3 (by decide +kernel) (by decide +kernel) (by decide +kernel) (by decide +kernel) (by decide +kernel) (by decide +kernel)
theorem pr_l1 : Pr 276602624281642239937218680557139826668747 := pock1 (R := 14) (a := 2) pr_l2 (by decide +kernel) (by decide +kernel) (by decide +kernel) (by decide +kernel) (by decide +kernel) (by decide +kernel)
theorem pr_l0 : Pr 7237005577332262213973186563042994240857116359379907606001950938285454250989 := pock1 (R := 26163907866482859529727157400808004) (a := 2) pr_l1 (by decide +kernel) (by decide +kernel) (by decide +kernel) (by decide +kernel) (by decide +kernel) (by decide +kernel)
theorem pr_LL : Pr LL := pr_l0

/-! A point as three numbers: X and Y are the first two, divided by the third one. -/
abbrev Wd := F × F × F
def wsum (p q : Wd) : Wd :=
  let z := p.2.2 * q.2.2
  let n := dd * ((p.1 * q.1) * (p.2.1 * q.2.1))
  let less := z * z - n
  let more := z * z + n
  (z * ((p.1 * q.2.1 + p.2.1 * q.1) * less), z * ((p.2.1 * q.2.1 + p.1 * q.1) * more), less * more)
structure Rep (t : Wd) (p : F × F) : Prop where
  z : t.2.2 ≠ 0
  x : t.1 = p.1 * t.2.2
  y : t.2.1 = p.2 * t.2.2
theorem rep_less {d x1 y1 x2 y2 X1 Y1 Z1 X2 Y2 Z2 : F} (h1 : X1 = x1 * Z1) (h2 : Y1 = y1 * Z1) (h3 : X2 = x2 * Z2) (h4 : Y2 = y2 * Z2) : Z1 * Z2 * (Z1 * Z2) - d * ((X1 * X2) * (Y1 * Y2)) = Z1 * Z2 * (Z1 * Z2) * (1 - d * x1 * x2 * y1 * y2) := by
  subst h1 h2 h3 h4; grind
theorem rep_more {d x1 y1 x2 y2 X1 Y1 Z1 X2 Y2 Z2 : F} (h1 : X1 = x1 * Z1) (h2 : Y1 = y1 * Z1) (h3 : X2 = x2 * Z2) (h4 : Y2 = y2 * Z2) : Z1 * Z2 * (Z1 * Z2) + d * ((X1 * X2) * (Y1 * Y2)) = Z1 * Z2 * (Z1 * Z2) * (1 + d * x1 * x2 * y1 * y2) := by
  subst h1 h2 h3 h4; grind
theorem rep_x {x1 y1 x2 y2 X1 Y1 Z1 X2 Y2 Z2 ls ms l m a : F} (h1 : X1 = x1 * Z1) (h2 : Y1 = y1 * Z1) (h3 : X2 = x2 * Z2) (h4 : Y2 = y2 * Z2) (hl : ls = Z1 * Z2 * (Z1 * Z2) * l) (hm : ms = Z1 * Z2 * (Z1 * Z2) * m) (ha : a * m = x1 * y2 + y1 * x2) :
    Z1 * Z2 * ((X1 * Y2 + Y1 * X2) * ls) = a * (ls * ms) := by
  subst h1 h2 h3 h4 hl hm; grind
theorem rep_y {x1 y1 x2 y2 X1 Y1 Z1 X2 Y2 Z2 ls ms l m b : F} (h1 : X1 = x1 * Z1) (h2 : Y1 = y1 * Z1) (h3 : X2 = x2 * Z2) (h4 : Y2 = y2 * Z2) (hl : ls = Z1 * Z2 * (Z1 * Z2) * l) (hm : ms = Z1 * Z2 * (Z1 * Z2) * m) (hb : b * l = y1 * y2 + x1 * x2) :
    Z1 * Z2 * ((Y1 * Y2 + X1 * X2) * ms) = b * (ls * ms) := by
  subst h1 h2 h3 h4 hl hm; grind
theorem Rep.sum {s t : Wd} {p q : F × F} (hp : On p) (hq : On q) (hs : Rep s p) (ht : Rep t q) : Rep (wsum s t) (padd p q) := by
  have hl := rep_less (d := dd) hs.x hs.y ht.x ht.y
  have hm := rep_more (d := dd) hs.x hs.y ht.x ht.y
  have hz := F.mul_ne hs.z ht.z
  have hzz := F.mul_ne hz hz
  refine ⟨?_, ?_, ?_⟩
  · show _ * _ ≠ 0
    rw [hl, hm]
    exact F.mul_ne (F.mul_ne hzz (less_ne hp hq)) (F.mul_ne hzz (plus_ne hp hq))
  · exact rep_x hs.x hs.y ht.x ht.y hl hm (padd_x hp hq)
  · exact rep_y hs.x hs.y ht.x ht.y hl hm (padd_y hp hq)
theorem Rep.one (p : F × F) : Rep (p.1, p.2, 1) p := ⟨fun h => F.ne01 h.symm, by show p.1 = p.1 * 1; grind, by show p.2 = p.2 * 1; grind⟩
theorem Rep.none : Rep (0, 1, 1) pzero := ⟨fun h => F.ne01 h.symm, by decide, by decide⟩
/-- The point, by dividing. -/
theorem Rep.point {t : Wd} {p : F × F} (h : Rep t p) : (t.1 * finv t.2.2, t.2.1 * finv t.2.2) = p := by
  have hz := mul_finv h.z
  have hx := h.x
  have hy := h.y
  refine Prod.ext ?_ ?_
  · show t.1 * finv t.2.2 = p.1
    rw [hx]; grind
  · show t.2.1 * finv t.2.2 = p.2
    rw [hy]; grind
theorem Rep.none_iff {t : Wd} {p : F × F} (h : Rep t p) : p = pzero ↔ t.1 = 0 ∧ t.2.1 = t.2.2 := by
  constructor
  · intro e
    have hx := h.x
    have hy := h.y
    rw [e] at hx hy
    exact ⟨hx.trans (F.zmul _), hy.trans (by show 1 * t.2.2 = _; grind)⟩
  · intro ⟨e1, e2⟩
    have hx := h.x
    have hy := h.y
    rw [e1] at hx
    rw [e2] at hy
    refine Prod.ext ?_ ?_
    · exact (F.mul_zero' hx.symm).resolve_right h.z
    · refine F.cancel h.z ?_
      show t.2.2 * p.2 = t.2.2 * 1
      grind

/-! The same on plain numbers, to be computed. -/
def sZ (n z1 z2 : Nat) : Nat := (z1 * z2 % PP * (z1 * z2 % PP) + (PP - n)) % PP * ((z1 * z2 % PP * (z1 * z2 % PP) + n) % PP) % PP
def sN (x1 y1 x2 y2 : Nat) : Nat := DEE * ((x1 * x2 % PP) * (y1 * y2 % PP) % PP) % PP
def sX (n x1 y1 z1 x2 y2 z2 : Nat) : Nat := (z1 * z2 % PP) * (((x1 * y2 + y1 * x2) % PP) * ((z1 * z2 % PP * (z1 * z2 % PP) + (PP - n)) % PP) % PP) % PP
def sY (n x1 y1 z1 x2 y2 z2 : Nat) : Nat := (z1 * z2 % PP) * (((y1 * y2 + x1 * x2) % PP) * ((z1 * z2 % PP * (z1 * z2 % PP) + n) % PP) % PP) % PP
def W3 (x y z : Nat) : Wd := (toF x, toF y, toF z)
theorem toF_less (a : Nat) {n : Nat} (h : n ≤ PP) : toF (a + (PP - n)) = toF a - toF n := by
  have e : toF (a + (PP - n)) + toF n = toF a := by
    rw [← toF_add, Nat.add_assoc, Nat.sub_add_cancel h, toF_add, show toF PP = 0 from toF_zero.2 (Nat.dvd_refl _)]
    grind
  grind
theorem sN_le (x1 y1 x2 y2 : Nat) : sN x1 y1 x2 y2 ≤ PP := Nat.le_of_lt (Nat.mod_lt _ (by decide))
theorem toF_sN (x1 y1 x2 y2 : Nat) : toF (sN x1 y1 x2 y2) = dd * ((toF x1 * toF x2) * (toF y1 * toF y2)) := by
  unfold sN
  rw [toF_mod, toF_mul, toF_mod, toF_mul, toF_mod, toF_mod, toF_mul, toF_mul]
  rfl
theorem W3_sum (x1 y1 z1 x2 y2 z2 : Nat) : W3 (sX (sN x1 y1 x2 y2) x1 y1 z1 x2 y2 z2) (sY (sN x1 y1 x2 y2) x1 y1 z1 x2 y2 z2) (sZ (sN x1 y1 x2 y2) z1 z2) = wsum (W3 x1 y1 z1) (W3 x2 y2 z2) := by
  have hn := sN_le x1 y1 x2 y2
  have e := toF_sN x1 y1 x2 y2
  generalize sN x1 y1 x2 y2 = n at *
  unfold W3 wsum sX sY sZ
  simp only [toF_mod, toF_mul, toF_add, toF_less _ hn, e]
/-- So many of one, by doubling: to be computed. -/
def wnat : Nat → Nat → Nat → Nat → Nat → Nat → Nat → Nat → Nat × Nat × Nat
  | 0, _, _, _, _, ax, ay, az => (ax, ay, az)
  | f + 1, k, x, y, z, ax, ay, az => if k = 0 then (ax, ay, az) else
    wnat f (k / 2) (sX (sN x y x y) x y z x y z) (sY (sN x y x y) x y z x y z) (sZ (sN x y x y) z z)
      (if k % 2 = 1 then sX (sN ax ay x y) ax ay az x y z else ax) (if k % 2 = 1 then sY (sN ax ay x y) ax ay az x y z else ay) (if k % 2 = 1 then sZ (sN ax ay x y) az z else az)
theorem Pt.on (p : Pt) : On p.1 := p.2
theorem times_half (q a : Pt) (k : Nat) : (if k % 2 = 1 then a.plus q else a).plus (Pt.times (k / 2) (q.plus q)) = a.plus (Pt.times k q) := by
  have e : Pt.times k q = Pt.times (k % 2 + k / 2 * 2) q := congrArg (fun j => Pt.times j q) (by omega)
  have h2 : Pt.times 2 q = q.plus q := by rw [Pt.times_succ, Pt.times_one]
  rw [e, Pt.times_add, Pt.times_mul, h2]
  split
  · next h => rw [h, Pt.times_one, Pt.plus_assoc]
  · next h => rw [show k % 2 = 0 by omega, Pt.times_zero, Pt.none_plus]
theorem wnat_rep : ∀ (f k x y z ax ay az : Nat) (q a : Pt), k < 2 ^ f → Rep (W3 x y z) q.1 → Rep (W3 ax ay az) a.1 →
    Rep (W3 (wnat f k x y z ax ay az).1 (wnat f k x y z ax ay az).2.1 (wnat f k x y z ax ay az).2.2) (a.plus (Pt.times k q)).1
  | 0, k, x, y, z, ax, ay, az, q, a, hk, hq, ha => by
    obtain rfl : k = 0 := by simpa using hk
    rw [Pt.times_zero, Pt.plus_none]
    exact ha
  | f + 1, k, x, y, z, ax, ay, az, q, a, hk, hq, ha => by
    unfold wnat
    by_cases h0 : k = 0
    · subst h0
      simp only [if_pos]
      rw [Pt.times_zero, Pt.plus_none]
      exact ha
    · simp only [if_neg h0]
      rw [← times_half q a k]
      have hd := Rep.sum q.2 q.2 hq hq
      rw [← W3_sum] at hd
      refine wnat_rep f (k / 2) _ _ _ _ _ _ (q.plus q) _ (by rw [Nat.pow_succ] at hk; omega) hd ?_
      by_cases h1 : k % 2 = 1
      · simp only [if_pos h1]
        have hs := Rep.sum a.2 q.2 ha hq
        rw [← W3_sum] at hs
        exact hs
      · simp only [if_neg h1]
        exact ha
/-- Is it none? To be computed. -/
def wnone (f k x y : Nat) : Bool := (wnat f k x y 1 0 1 1).1 % PP == 0 && (wnat f k x y 1 0 1 1).2.1 % PP == (wnat f k x y 1 0 1 1).2.2 % PP
theorem times_none_iff (f k x y : Nat) (p : Pt) (hp : p.1 = (toF x, toF y)) (hk : k < 2 ^ f) : Pt.times k p = Pt.none ↔ wnone f k x y = true := by
  have h1 : Rep (W3 x y 1) p.1 := by rw [hp]; exact Rep.one (toF x, toF y)
  have h0 : Rep (W3 0 1 1) Pt.none.1 := Rep.none
  have h := wnat_rep f k x y 1 0 1 1 p Pt.none hk h1 h0
  rw [Pt.none_plus] at h
  unfold wnone
  generalize wnat f k x y 1 0 1 1 = r at *
  have hi := h.none_iff
  have e : Pt.times k p = Pt.none ↔ (Pt.times k p).1 = pzero := ⟨fun h => by rw [h]; rfl, fun h => Subtype.ext h⟩
  rw [e, hi, Bool.and_eq_true, beq_iff_eq, beq_iff_eq]
  have e1 : (W3 r.1 r.2.1 r.2.2).1 = 0 ↔ r.1 % PP = 0 := toF_zero.trans (Nat.dvd_iff_mod_eq_zero ..)
  have e2 : (W3 r.1 r.2.1 r.2.2).2.1 = (W3 r.1 r.2.1 r.2.2).2.2 ↔ r.2.1 % PP = r.2.2 % PP := toF_eq
  rw [e1, e2]

def BX : Nat := 15112221349535400772501151409588531511454012693041857206046113283949847762202
def BY : Nat := 46316835694926478169428394003475163141307993866256225615783033603165251855960
def TX : Nat := 14399317868200118260347934320527232580618823971194345261214217575416788799818
def TY : Nat := 55188659117513257062467267217118295137698188065244968500265048394206261417927
theorem on_base : On (toF BX, toF BY) := by decide +kernel
theorem on_tor : On (toF TX, toF TY) := by decide +kernel
def pbase : Pt := ⟨(toF BX, toF BY), on_base⟩
def ptor : Pt := ⟨(toF TX, toF TY), on_tor⟩
theorem base_order : Pt.times LL pbase = Pt.none := (times_none_iff 256 LL BX BY pbase rfl (by decide +kernel)).2 (by decide +kernel)
theorem base_ne : pbase ≠ Pt.none := fun h => by
  have := (times_none_iff 1 1 BX BY pbase rfl (by decide)).1 (by rw [Pt.times_one, h])
  exact absurd this (by decide +kernel)
theorem tor_eight : Pt.times 8 ptor = Pt.none := (times_none_iff 4 8 TX TY ptor rfl (by decide)).2 (by decide +kernel)
theorem tor_four : Pt.times 4 ptor ≠ Pt.none := fun h => by
  have := (times_none_iff 3 4 TX TY ptor rfl (by decide)).1 h
  exact absurd this (by decide +kernel)

theorem dvd_LL {n : Nat} (h : Pt.times n pbase = Pt.none) : LL ∣ n := by
  refine Classical.byContradiction fun hd => base_ne ?_
  have h1 := pr_LL.fermat_one hd
  have h2 : Pt.times (n ^ (LL - 1)) pbase = Pt.none := by
    obtain ⟨j, hj⟩ : ∃ j, LL - 1 = j + 1 := ⟨LL - 2, by decide⟩
    rw [hj, Nat.pow_succ, Pt.times_mul, h, Pt.times_none]
  rw [← Pt.times_mod base_order, h1, Pt.times_one] at h2
  exact h2
theorem dvd_eight {n : Nat} (h : Pt.times n ptor = Pt.none) : 8 ∣ n := by
  have h8 : Pt.times (n % 8) ptor = Pt.none := (Pt.times_mod tor_eight n).trans h
  have hlt : n % 8 < 8 := Nat.mod_lt _ (by omega)
  have mul : ∀ r m : Nat, m * r % 8 = 4 → Pt.times r ptor ≠ Pt.none := fun r m e hr => tor_four (by
    rw [← e, Pt.times_mod tor_eight, Pt.times_mul, hr, Pt.times_none])
  generalize hr : n % 8 = r at *
  have key : r = 0 := by
    refine Classical.byContradiction fun h0 => ?_
    have hc : r = 1 ∨ r = 2 ∨ r = 3 ∨ r = 4 ∨ r = 5 ∨ r = 6 ∨ r = 7 := by omega
    rcases hc with e | e | e | e | e | e | e
    · exact mul r 4 (by rw [e]) h8
    · exact mul r 2 (by rw [e]) h8
    · exact mul r 4 (by rw [e]) h8
    · exact mul r 1 (by rw [e]) h8
    · exact mul r 4 (by rw [e]) h8
    · exact mul r 2 (by rw [e]) h8
    · exact mul r 4 (by rw [e]) h8
  exact Nat.dvd_of_mod_eq_zero (hr.trans key)
/-- Eight times L of any point are none. -/
theorem all_order (p : Pt) : Pt.times (8 * LL) p = Pt.none := by
  obtain ⟨n, hpos, hle, hall⟩ := exists_order
  have h1 := dvd_LL (hall pbase)
  have h2 := dvd_eight (hall ptor)
  have hd : 8 * LL ∣ n := Nat.Coprime.mul_dvd_of_dvd_of_dvd (by decide +kernel) h2 h1
  obtain ⟨j, rfl⟩ := hd
  have hj : j = 1 := by
    have hb : 2 * PP < 8 * LL * 2 := by decide +kernel
    have hj0 : j ≠ 0 := fun h => by subst h; simp at hpos
    refine Classical.byContradiction fun h => ?_
    have : 8 * LL * 2 ≤ 8 * LL * j := Nat.mul_le_mul_left _ (by omega)
    exact absurd (Nat.lt_of_le_of_lt (Nat.le_trans this hle) hb) (Nat.lt_irrefl _)
  have := hall p
  rwa [hj, Nat.mul_one] at this
/-- Eight of any point are of the great group. -/
theorem eight_order (p : Pt) : Pt.times LL (Pt.times 8 p) = Pt.none := by
  rw [← Pt.times_mul, Nat.mul_comm]
  exact all_order p
end Go.Proofs.YtlfkohanfeejfaaDoor

namespace Go.Proofs.YtlfkohanfeejfaaDoor

abbrev Qd := F × F × F × F
/-- The first three. -/
def Qd.w (q : Qd) : Wd := (q.1, q.2.1, q.2.2.1)
/-- The point of both of its numbers, each as what is divided, and by what. -/
def qjoin (x xBy y yBy : F) : Qd := (x * yBy, y * xBy, xBy * yBy, x * y)
/-- A sum. -/
def qplus (p q : Qd) : Qd :=
  qjoin ((p.1 + p.2.1) * (q.1 + q.2.1) - (p.1 * q.1 + p.2.1 * q.2.1)) (p.2.2.1 * q.2.2.1 + dd * (p.2.2.2 * q.2.2.2)) (p.2.1 * q.2.1 + p.1 * q.1) (p.2.2.1 * q.2.2.1 - dd * (p.2.2.2 * q.2.2.2))
/-- A point, and the same once more. -/
def qtwice (p : Wd) : Qd :=
  qjoin ((p.1 + p.2.1) * (p.1 + p.2.1) - (p.1 * p.1 + p.2.1 * p.2.1)) (p.2.1 * p.2.1 - p.1 * p.1) (p.1 * p.1 + p.2.1 * p.2.1) (p.2.2 * p.2.2 + p.2.2 * p.2.2 - (p.2.1 * p.2.1 - p.1 * p.1))
/-- Four numbers are a point's. -/
structure Rep4 (q : Qd) (p : F × F) : Prop where
  rep : Rep q.w p
  t : q.2.2.2 = p.1 * p.2 * q.2.2.1
theorem qjoin_rep {x xBy y yBy a b l m z : F} {p : F × F} (hz : z ≠ 0) (hl0 : l ≠ 0) (hm0 : m ≠ 0) (hm : xBy = z * m) (hl : yBy = z * l) (hx : x = z * a) (hy : y = z * b) (ha : p.1 * m = a) (hb : p.2 * l = b) : Rep4 (qjoin x xBy y yBy) p := by
  subst hm hl hx hy ha hb
  refine ⟨⟨F.mul_ne (F.mul_ne hz hm0) (F.mul_ne hz hl0), ?_, ?_⟩, ?_⟩
  · show _ * _ = _ * (_ * _)
    grind
  · show _ * _ = _ * (_ * _)
    grind
  · show _ * _ = _ * _ * (_ * _)
    grind
theorem Rep4.plus {s t : Qd} {p q : F × F} (hp : On p) (hq : On q) (hs : Rep4 s p) (ht : Rep4 t q) : Rep4 (qplus s t) (padd p q) := by
  have hz := F.mul_ne hs.rep.z ht.rep.z
  have e1 := hs.rep.x
  have e2 := hs.rep.y
  have e3 := ht.rep.x
  have e4 := ht.rep.y
  have e5 := hs.t
  have e6 := ht.t
  obtain ⟨X1, Y1, Z1, T1⟩ := s
  obtain ⟨X2, Y2, Z2, T2⟩ := t
  simp only [Qd.w] at hz e1 e2 e3 e4 e5 e6
  refine qjoin_rep hz (less_ne hp hq) (plus_ne hp hq) ?_ ?_ ?_ ?_ (padd_x hp hq) (padd_y hp hq)
  · show Z1 * Z2 + dd * (T1 * T2) = _
    rw [e5, e6]; grind
  · show Z1 * Z2 - dd * (T1 * T2) = _
    rw [e5, e6]; grind
  · show (X1 + Y1) * (X2 + Y2) - (X1 * X2 + Y1 * Y2) = _
    rw [e1, e2, e3, e4]; grind
  · show Y1 * Y2 + X1 * X2 = _
    rw [e1, e2, e3, e4]; grind
theorem Rep.twice {s : Wd} {p : F × F} (hp : On p) (hs : Rep s p) : Rep4 (qtwice s) (padd p p) := by
  have hz := F.mul_ne hs.z hs.z
  have e1 := hs.x
  have e2 := hs.y
  have ho := hp.eq
  have hm := plus_ne hp hp
  have hl := less_ne hp hp
  have hx := padd_x hp hp
  have hy := padd_y hp hp
  obtain ⟨X, Y, Z⟩ := s
  simp only at hz e1 e2
  have en : dd * p.1 * p.1 * p.2 * p.2 = p.2 * p.2 - p.1 * p.1 - 1 := by rw [← ho]; grind
  rw [en] at hm hl hx hy
  refine qjoin_rep hz hl hm ?_ ?_ ?_ ?_ hx hy
  · show Y * Y - X * X = _
    rw [e1, e2]; grind
  · show Z * Z + Z * Z - (Y * Y - X * X) = _
    rw [e1, e2]; grind
  · show (X + Y) * (X + Y) - (X * X + Y * Y) = _
    rw [e1, e2]; grind
  · show X * X + Y * Y = _
    rw [e1, e2]; grind
/-- A point in four numbers. -/
def qspread (p : F × F) : Qd := (p.1, p.2, 1, p.1 * p.2)
theorem qspread_rep (p : F × F) : Rep4 (qspread p) p := ⟨Rep.one p, by show p.1 * p.2 = p.1 * p.2 * 1; grind⟩
theorem Rep4.dbl {s : Qd} {p : Pt} {n : Nat} (h : Rep4 s (Pt.times n p).1) : Rep4 (qtwice s.w) (Pt.times (n + n) p).1 := by
  rw [Pt.times_add]
  exact h.rep.twice (Pt.times n p).2
theorem Rep4.sum {s t : Qd} {p : Pt} {m n : Nat} (h : Rep4 s (Pt.times m p).1) (h2 : Rep4 t (Pt.times n p).1) : Rep4 (qplus s t) (Pt.times (m + n) p).1 := by
  rw [Pt.times_add]
  exact h.plus (Pt.times m p).2 (Pt.times n p).2 h2
/-- A bit more of a number. -/
theorem bit_step (e j : Nat) : e % 2 ^ (j + 1) = e % 2 ^ j + 2 ^ j * (e / 2 ^ j % 2) := by
  rw [Nat.pow_succ, Nat.mod_mul]
end Go.Proofs.YtlfkohanfeejfaaDoor

namespace Go.Proofs.YtlfkohanfeejfaaDoor

def wv : List Nat → Nat
  | [] => 0
  | x :: xs => x + 18446744073709551616 * wv xs
def Small64 (l : List Nat) : Prop := ∀ x ∈ l, x < 18446744073709551616
theorem Small64.tail {x : Nat} {l : List Nat} (h : Small64 (x :: l)) : Small64 l := fun y hy => h y (by simp [hy])
theorem Small64.head {x : Nat} {l : List Nat} (h : Small64 (x :: l)) : x < 18446744073709551616 := h x (by simp)
theorem wv_lt : ∀ (l : List Nat), Small64 l → wv l < 18446744073709551616 ^ l.length
  | [], _ => by simp [wv]
  | x :: l, h => by
    have h1 := wv_lt l h.tail
    have h2 := h.head
    simp only [wv, List.length_cons, Nat.pow_succ]
    omega
theorem limbs_wv (a b c d : Nat) : limbs a b c d = wv [a, b, c, d] := by simp only [limbs, wv]; omega
theorem wv_lims {n : Nat} (h : n < 115792089237316195423570985008687907853269984665640564039457584007913129639936) : wv [limb n 0, limb n 1, limb n 2, limb n 3] = n := by
  rw [← limbs_wv, limbs_limb h]

/-! Differences: the limbs, and whether one is borrowed. -/
def subs : List Nat → List Nat → Nat → List Nat × Nat
  | x :: xs, y :: ys, c => ((x + 18446744073709551616 - (y + c)) % 18446744073709551616 :: (subs xs ys (if x < y + c then 1 else 0)).1, (subs xs ys (if x < y + c then 1 else 0)).2)
  | _, _, c => ([], c)
theorem subs_small : ∀ (a b : List Nat) (c : Nat), Small64 (subs a b c).1
  | x :: xs, y :: ys, c => fun z hz => by
    simp only [subs, List.mem_cons] at hz
    rcases hz with rfl | hz
    · exact Nat.mod_lt _ (by omega)
    · exact subs_small xs ys _ z hz
  | [], _, _ => fun z hz => by simp [subs] at hz
  | _ :: _, [], _ => fun z hz => by simp [subs] at hz
theorem subs_length : ∀ (a b : List Nat) (c : Nat), a.length = b.length → (subs a b c).1.length = a.length
  | x :: xs, y :: ys, c, h => by simp only [subs, List.length_cons]; rw [subs_length xs ys _ (by simpa using h)]
  | [], [], _, _ => rfl
theorem subs_bit : ∀ (a b : List Nat) (c : Nat), c ≤ 1 → (subs a b c).2 ≤ 1
  | x :: xs, y :: ys, c, _ => subs_bit xs ys _ (by split <;> omega)
  | [], _, c, h => by simpa [subs] using h
  | _ :: _, [], c, h => by simpa [subs] using h
theorem subs_eq : ∀ (a b : List Nat) (c : Nat), Small64 a → Small64 b → c ≤ 1 → a.length = b.length → wv (subs a b c).1 + wv b + c = wv a + 18446744073709551616 ^ a.length * (subs a b c).2
  | x :: xs, y :: ys, c, ha, hb, hc, hl => by
    have hx := ha.head
    have hy := hb.head
    have ih := subs_eq xs ys (if x < y + c then 1 else 0) ha.tail hb.tail (by split <;> omega) (by simpa using hl)
    simp only [subs, wv, List.length_cons, Nat.pow_succ]
    rw [Nat.mul_comm (18446744073709551616 ^ xs.length) 18446744073709551616, Nat.mul_assoc]
    generalize 18446744073709551616 ^ xs.length * (subs xs ys (if x < y + c then 1 else 0)).2 = q at *
    generalize wv (subs xs ys (if x < y + c then 1 else 0)).1 = r at *
    by_cases h : x < y + c
    · rw [if_pos h] at ih
      omega
    · rw [if_neg h] at ih
      omega
  | [], [], c, _, _, _, _ => by simp [subs, wv]
theorem subs_snoc : ∀ (a b : List Nat) (x y c : Nat), a.length = b.length →
    subs (a ++ [x]) (b ++ [y]) c = ((subs a b c).1 ++ [(x + 18446744073709551616 - (y + (subs a b c).2)) % 18446744073709551616], if x < y + (subs a b c).2 then 1 else 0)
  | x' :: a, y' :: b, x, y, c, h => by simp only [List.cons_append, subs, subs_snoc a b x y _ (by simpa using h)]; rfl
  | [], [], x, y, c, _ => rfl

/-! Sums. -/
def adds : List Nat → List Nat → Nat → List Nat × Nat
  | x :: xs, y :: ys, c => ((x + y + c) % 18446744073709551616 :: (adds xs ys ((x + y + c) / 18446744073709551616)).1, (adds xs ys ((x + y + c) / 18446744073709551616)).2)
  | _, _, c => ([], c)
theorem adds_small : ∀ (a b : List Nat) (c : Nat), Small64 (adds a b c).1
  | x :: xs, y :: ys, c => fun z hz => by
    simp only [adds, List.mem_cons] at hz
    rcases hz with rfl | hz
    · exact Nat.mod_lt _ (by omega)
    · exact adds_small xs ys _ z hz
  | [], _, _ => fun z hz => by simp [adds] at hz
  | _ :: _, [], _ => fun z hz => by simp [adds] at hz
theorem adds_length : ∀ (a b : List Nat) (c : Nat), a.length = b.length → (adds a b c).1.length = a.length
  | x :: xs, y :: ys, c, h => by simp only [adds, List.length_cons]; rw [adds_length xs ys _ (by simpa using h)]
  | [], [], _, _ => rfl
theorem adds_bit : ∀ (a b : List Nat) (c : Nat), Small64 a → Small64 b → c ≤ 1 → (adds a b c).2 ≤ 1
  | x :: xs, y :: ys, c, ha, hb, hc => adds_bit xs ys _ ha.tail hb.tail (by have := ha.head; have := hb.head; omega)
  | [], _, c, _, _, h => by simpa [adds] using h
  | _ :: _, [], c, _, _, h => by simpa [adds] using h
theorem adds_eq : ∀ (a b : List Nat) (c : Nat), a.length = b.length → wv (adds a b c).1 + 18446744073709551616 ^ a.length * (adds a b c).2 = wv a + wv b + c
  | x :: xs, y :: ys, c, hl => by
    have ih := adds_eq xs ys ((x + y + c) / 18446744073709551616) (by simpa using hl)
    simp only [adds, wv, List.length_cons, Nat.pow_succ]
    rw [Nat.mul_comm (18446744073709551616 ^ xs.length) 18446744073709551616, Nat.mul_assoc]
    omega
  | [], [], c, _ => by simp [adds, wv]
theorem adds_snoc : ∀ (a b : List Nat) (x y c : Nat), a.length = b.length →
    adds (a ++ [x]) (b ++ [y]) c = ((adds a b c).1 ++ [(x + y + (adds a b c).2) % 18446744073709551616], (x + y + (adds a b c).2) / 18446744073709551616)
  | x' :: a, y' :: b, x, y, c, h => by simp only [List.cons_append, adds, adds_snoc a b x y _ (by simpa using h)]
  | [], [], x, y, c, _ => by simp [adds]
/-- How a carry is told. -/
theorem carry_told {x y c : Nat} (hx : x < 18446744073709551616) (hy : y < 18446744073709551616) (hc : c ≤ 1) :
    (x + y + c) / 18446744073709551616 = if (x + y + c) % 18446744073709551616 < x ∨ ((x + y + c) % 18446744073709551616 = x ∧ c = 1) then 1 else 0 := by
  split <;> omega
theorem borrow_told {x y c : Nat} (hc : c ≤ 1) : (if x < y + c then 1 else 0) = (if x < y ∨ (x = y ∧ c = 1) then 1 else 0) := by
  by_cases h : x < y + c
  · rw [if_pos h, if_pos (by omega)]
  · rw [if_neg h, if_neg (by omega)]

/-! Which is less: the highest limb that differs tells. -/
theorem hi_split (n i : Nat) : n / 18446744073709551616 ^ i = 18446744073709551616 * (n / 18446744073709551616 ^ (i + 1)) + limb n i := by
  unfold limb
  rw [Nat.pow_succ, ← Nat.div_div_eq_div_mul]
  omega
theorem less_at {m n i : Nat} (h : m / 18446744073709551616 ^ (i + 1) = n / 18446744073709551616 ^ (i + 1)) (hl : limb m i < limb n i) : m < n := by
  have h1 := hi_split m i
  have h2 := hi_split n i
  rw [h] at h1
  refine Nat.lt_of_not_le fun hc => ?_
  have := Nat.div_le_div_right (c := 18446744073709551616 ^ i) hc
  omega
theorem same_at {m n i : Nat} (h : m / 18446744073709551616 ^ (i + 1) = n / 18446744073709551616 ^ (i + 1)) (hl : limb m i = limb n i) : m / 18446744073709551616 ^ i = n / 18446744073709551616 ^ i := by
  rw [hi_split m i, hi_split n i, h, hl]
theorem hi_top {n : Nat} (h : n < 115792089237316195423570985008687907853269984665640564039457584007913129639936) : n / 18446744073709551616 ^ 4 = 0 :=
  Nat.div_eq_of_lt (by rw [show (18446744073709551616 : Nat) ^ 4 = 115792089237316195423570985008687907853269984665640564039457584007913129639936 by decide]; exact h)

/-- A whole difference, of two numbers of four limbs; a whole sum. -/
theorem subs_whole {m n : Nat} (hm : m < 115792089237316195423570985008687907853269984665640564039457584007913129639936) (h : n ≤ m) :
    wv (subs [limb m 0, limb m 1, limb m 2, limb m 3] [limb n 0, limb n 1, limb n 2, limb n 3] 0).1 = m - n := by
  have sm : ∀ k, Small64 [limb k 0, limb k 1, limb k 2, limb k 3] := fun k x hx => by
    simp only [List.mem_cons, List.not_mem_nil, or_false] at hx
    rcases hx with rfl | rfl | rfl | rfl <;> exact limb_lt _ _
  have e := subs_eq _ _ 0 (sm m) (sm n) (by omega) rfl
  have hlt := wv_lt _ (subs_small [limb m 0, limb m 1, limb m 2, limb m 3] [limb n 0, limb n 1, limb n 2, limb n 3] 0)
  rw [subs_length [limb m 0, limb m 1, limb m 2, limb m 3] [limb n 0, limb n 1, limb n 2, limb n 3] 0 rfl] at hlt
  have hb := subs_bit [limb m 0, limb m 1, limb m 2, limb m 3] [limb n 0, limb n 1, limb n 2, limb n 3] 0 (by omega)
  rw [wv_lims hm, wv_lims (by omega)] at e
  simp only [List.length_cons, List.length_nil, Nat.zero_add, Nat.reduceAdd] at e hlt
  have hp : (18446744073709551616 : Nat) ^ 4 = 115792089237316195423570985008687907853269984665640564039457584007913129639936 := by decide
  rw [hp] at e hlt
  generalize (subs [limb m 0, limb m 1, limb m 2, limb m 3] [limb n 0, limb n 1, limb n 2, limb n 3] 0).2 = c at *
  generalize wv (subs [limb m 0, limb m 1, limb m 2, limb m 3] [limb n 0, limb n 1, limb n 2, limb n 3] 0).1 = r at *
  omega
theorem adds_whole {m n : Nat} (h : m + n < 115792089237316195423570985008687907853269984665640564039457584007913129639936) :
    wv (adds [limb m 0, limb m 1, limb m 2, limb m 3] [limb n 0, limb n 1, limb n 2, limb n 3] 0).1 = m + n := by
  have e := adds_eq [limb m 0, limb m 1, limb m 2, limb m 3] [limb n 0, limb n 1, limb n 2, limb n 3] 0 rfl
  rw [wv_lims (by omega), wv_lims (by omega)] at e
  simp only [List.length_cons, List.length_nil, Nat.zero_add, Nat.reduceAdd] at e
  have hp : (18446744073709551616 : Nat) ^ 4 = 115792089237316195423570985008687907853269984665640564039457584007913129639936 := by decide
  rw [hp] at e
  generalize (adds [limb m 0, limb m 1, limb m 2, limb m 3] [limb n 0, limb n 1, limb n 2, limb n 3] 0).2 = c at *
  generalize wv (adds [limb m 0, limb m 1, limb m 2, limb m 3] [limb n 0, limb n 1, limb n 2, limb n 3] 0).1 = r at *
  omega
end Go.Proofs.YtlfkohanfeejfaaDoor
