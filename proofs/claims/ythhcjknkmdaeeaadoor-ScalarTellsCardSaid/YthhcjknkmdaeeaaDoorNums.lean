/-
  Blocks that hold arrays of numbers of 64 bits; numbers of four such.
-/
import Derived.Test.YthhcjknkmdaeeaaDoorWords
import Derived.Test.YthhcjknkmdaeeaaDoorProduct
import Derived.Laws.BitsAllLaws
import Derived.BigQuiet
import Derived.Deep.QuietTactic
import Derived.Deep.RegionHeld3
import Derived.Laws.Tables
import Derived.RegionTactic
import Derived.Great.Walk
import Derived.Great.BuildSlice
namespace Go.Proofs.YthhcjknkmdaeeaaDoor
open Go.RowKit

def nv (x : Nat) : Value := .int .u64 (x : Int)

/-- Block g holds the numbers l, as an array of type ty. -/
def HoldsN (W : World) (ty g : Nat) (l : List Nat) : Prop := W.heap[g]? = some (.cells (l.map nv).toArray ty (0, 0))
section
variable {W W' : World} {ty g : Nat} {l : List Nat}
theorem HoldsN.lt (h : HoldsN W ty g l) : g < W.heap.size := (Array.getElem?_eq_some_iff.1 h).1
theorem HoldsN.keep (h : HoldsN W ty g l) {D : Nat} (hb : Below D W W') (hD : g < D) : HoldsN W' ty g l := (hb.block g hD).trans h
theorem HoldsN.cell (h : HoldsN W ty g l) {j : Nat} (hj : j < l.length) : W.cell? ⟨g, j, none⟩ = some (.int .u64 (l.getD j 0 : Int)) := by
  rw [cell_of_row W g j _ ty (0, 0) h]
  simp [nv, hj]
theorem HoldsN.frozen (h : HoldsN W ty g l) (j : Nat) : W.frozen? ⟨g, j, none⟩ = false := frozen_of_row W g j _ ty h
theorem HoldsN.set (h : HoldsN W ty g l) (j : Nat) (x : Nat) : HoldsN (W.setCell ⟨g, j, none⟩ (.int .u64 (x : Int))) ty g (l.set j x) := by
  unfold HoldsN
  rw [heap_setCell_same W g j _ ty _ h]
  congr 2
  rw [List.map_set, List.setIfInBounds_toArray]
  rfl
theorem HoldsN.drewN (h : HoldsN W ty g l) (n : Nat) : HoldsN (W.drewN n) ty g l := h
theorem HoldsN.alloc (h : HoldsN W ty g l) (o : Obj) : HoldsN (W.alloc o) ty g l := by
  refine Eq.trans ?_ h
  simp only [World.alloc, Array.getElem?_push]
  rw [if_neg (Nat.ne_of_lt h.lt)]
theorem HoldsN.setOther (h : HoldsN W ty g l) (a : Addr) (v : Value) (hn : g ≠ a.block) : HoldsN (W.setCell a v) ty g l :=
  (heap_setCell_other W a g v hn).trans h
theorem HoldsN.oth {g' : Nat} (h : HoldsN W ty g l) (ho : ∀ k, k ≠ g' → W'.heap[k]? = W.heap[k]?) (hn : g ≠ g') : HoldsN W' ty g l := (ho g hn).trans h
end
theorem holdsN_new (W : World) (ty g : Nat) (cs : Array Value) (l : List Nat) (hg : g = W.heap.size) (hc : cs = (l.map nv).toArray) : HoldsN (W.alloc (.cells cs ty)) ty g l := by
  subst hg hc
  exact heap_alloc_new W _

theorem n_one (l : List Nat) : (l.map nv).toArray.all (·.oneCell') = true := by
  rw [Array.all_eq_true_iff_forall_mem]
  intro v hv
  obtain ⟨x, _, rfl⟩ := List.mem_map.1 (by simpa using hv)
  rfl

/-- 'x := a' of an array of numbers in a block. -/
theorem wpList_load_n {P : Program} {ops : Array Oper} {rest : List Oper} {o : Oper} {a : Act} {w : World} {Q : Exit → Act → World → Prop} (hgd : o.guard = none) (ty : TypeId) (x : Operand) (ho : o.op = .load ty x)
    (g : Nat) (hx : a.eval x = .pointer (some ⟨g, 0, none⟩)) (l : List Nat) (m : Nat) {e : TypeId} {n : Nat} (hg : HoldsN w ty g l) (hl : l.length = m)
    (hu : P.underlying ty = some (.array n e)) (hi : (P.info? ty).map (·.size) = some m)
    (h : wpList P ops Q rest (a.put o.dst (.agg (l.map nv).toArray)) w) : wpList P ops Q (o :: rest) a w :=
  wpList_load_row hgd ty x ho g hx ty _ (0, 0) _ hg hu rfl (by rw [hi]; simp [hl]) h

/-- 'r = a' into a block of the call's own. -/
theorem wpList_store_n {P : Program} {ops : Array Oper} {rest : List Oper} {o : Oper} {a : Act} {w : World} {Q : Exit → Act → World → Prop} (hgd : o.guard = none) (ty : TypeId) (x y : Operand) (ho : o.op = .store ty x y)
    (g : Nat) (l : List Nat) (m : Nat) (hx : a.eval x = .pointer (some ⟨g, 0, none⟩)) (hy : a.eval y = .agg (l.map nv).toArray) (hl : l.length = m)
    (old : List Nat) (hg : HoldsN w ty g old) (hi : (P.info? ty).map (·.size) = some m) (hold : old.length = m) (D : Nat) (w0 : World) (hb : Below D w0 w) (hD : D ≤ g)
    (h : ∀ w' : World, HoldsN w' ty g l → (∀ k, k ≠ g → w'.heap[k]? = w.heap[k]?) → w'.heap.size = w.heap.size → Below D w0 w' → wpList P ops Q rest (a.put o.dst undef) w') : wpList P ops Q (o :: rest) a w :=
  wpList_store_row hgd ty x y ho g _ hx hy ty _ hg (by rw [hi]; simp [hl]) (by simp [hl, hold]) (n_one l)
    (h _ (show _ = _ from setRow_heap w g _ _ ty _ hg) (fun k hk => setRow_other w g k _ hk) (by simp) (below_setRow hb hD _))

/-! Numbers of four. -/
def lims (n : Nat) : List Nat := [limb n 0, limb n 1, limb n 2, limb n 3]
theorem lims_length (n : Nat) : (lims n).length = 4 := rfl
/-- The value of api.Fe that n is. -/
def fev (n : Nat) : Value := .agg #[.int .u64 (limb n 0 : Int), .int .u64 (limb n 1 : Int), .int .u64 (limb n 2 : Int), .int .u64 (limb n 3 : Int)]
theorem fev_eq (n : Nat) : fev n = .agg ((lims n).map nv).toArray := rfl
def big : Nat := 115792089237316195423570985008687907853269984665640564039457584007913129639936
theorem lims_inj {m n : Nat} (hm : m < big) (hn : n < big) (h : lims m = lims n) : m = n := by
  unfold big at *
  have h' : limb m 0 = limb n 0 ∧ limb m 1 = limb n 1 ∧ limb m 2 = limb n 2 ∧ limb m 3 = limb n 3 := by simpa [lims] using h
  rw [← limbs_limb hm, ← limbs_limb hn, h'.1, h'.2.1, h'.2.2.1, h'.2.2.2]
theorem lims_limbs {a b c d : Nat} (ha : a < 18446744073709551616) (hb : b < 18446744073709551616) (hc : c < 18446744073709551616) (hd : d < 18446744073709551616) : lims (limbs a b c d) = [a, b, c, d] := by
  obtain ⟨h0, h1, h2, h3⟩ := limb_limbs ha hb hc hd
  unfold lims
  rw [h0, h1, h2, h3]
/-- Four numbers of 64 bits are one. -/
theorem fev_of {a b c d : Nat} (ha : a < 18446744073709551616) (hb : b < 18446744073709551616) (hc : c < 18446744073709551616) (hd : d < 18446744073709551616) :
    Value.agg #[.int .u64 (a : Int), .int .u64 (b : Int), .int .u64 (c : Int), .int .u64 (d : Int)] = fev (limbs a b c d) := by
  obtain ⟨h0, h1, h2, h3⟩ := limb_limbs ha hb hc hd
  unfold fev
  rw [h0, h1, h2, h3]
theorem F.lt_big (a : F) : a.val < big := Nat.lt_trans a.isLt (by decide)
end Go.Proofs.YthhcjknkmdaeeaaDoor
