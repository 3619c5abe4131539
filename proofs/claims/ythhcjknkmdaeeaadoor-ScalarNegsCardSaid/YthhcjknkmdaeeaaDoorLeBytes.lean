/-
  Bytes as numbers, the lowest first; a block of bytes; an array of bytes read and laid as one.
-/
import Derived.Test.YthhcjknkmdaeeaaDoorLims
import Derived.Test.YthhcjknkmdaeeaaDoorByteOr
namespace Go.Proofs.YthhcjknkmdaeeaaDoor
open Go.RowKit

def leNum : List UInt8 → Nat
  | [] => 0
  | x :: xs => x.toNat + 256 * leNum xs
theorem leNum_append : ∀ (a b : List UInt8), leNum (a ++ b) = leNum a + 256 ^ a.length * leNum b
  | [], b => by simp [leNum]
  | x :: a, b => by
    simp only [List.cons_append, leNum, leNum_append a b, List.length_cons, Nat.pow_succ]
    rw [Nat.mul_add, ← Nat.mul_assoc, Nat.mul_comm 256 (256 ^ a.length)]
    omega
theorem leNum_lt : ∀ l : List UInt8, leNum l < 256 ^ l.length
  | [] => by simp [leNum]
  | x :: l => by
    have h1 := leNum_lt l
    have h2 := x.toNat_lt
    simp only [leNum, List.length_cons, Nat.pow_succ]
    omega
theorem leNum_take (l : List UInt8) {k : Nat} (h : k < l.length) : leNum (l.take k) + l[k].toNat * 256 ^ k = leNum (l.take (k + 1)) := by
  rw [List.take_succ_eq_append_getElem h, leNum_append, List.length_take, Nat.min_eq_left (by omega)]
  simp only [leNum, Nat.mul_zero, Nat.add_zero]
  rw [Nat.mul_comm]

/-- A number's bytes, the lowest first. -/
def leBytes (n k : Nat) : List UInt8 := (List.range k).map fun i => UInt8.ofNat (n / 256 ^ i)
theorem leBytes_length (n k : Nat) : (leBytes n k).length = k := by simp [leBytes]
theorem leNum_leBytes (n : Nat) : ∀ k, leNum (leBytes n k) = n % 256 ^ k
  | 0 => by simp [leBytes, leNum, Nat.mod_one]
  | k + 1 => by
    have e : leBytes n (k + 1) = leBytes n k ++ [UInt8.ofNat (n / 256 ^ k)] := by simp [leBytes, List.range_succ]
    rw [e, leNum_append, leNum_leBytes n k, leBytes_length]
    simp only [leNum, Nat.mul_zero, Nat.add_zero, UInt8.toNat_ofNat']
    conv => rhs; rw [Nat.pow_succ, Nat.mod_mul]

/-- Block g holds the bytes l, as an array of type ty. -/
def HoldsB (W : World) (ty g : Nat) (l : List UInt8) : Prop := W.heap[g]? = some (.cells (l.map bv).toArray ty (0, 0))
section
variable {W W' : World} {ty g : Nat} {l : List UInt8}
theorem HoldsB.lt (h : HoldsB W ty g l) : g < W.heap.size := (Array.getElem?_eq_some_iff.1 h).1
theorem HoldsB.keep (h : HoldsB W ty g l) {D : Nat} (hb : Below D W W') (hD : g < D) : HoldsB W' ty g l := (hb.block g hD).trans h
theorem HoldsB.cell (h : HoldsB W ty g l) {j : Nat} (hj : j < l.length) : W.cell? ⟨g, j, none⟩ = some (.int .u8 (l[j].toNat : Int)) := by
  rw [cell_of_row W g j _ ty (0, 0) h]
  simp [bv, hj]
theorem HoldsB.frozen (h : HoldsB W ty g l) (j : Nat) : W.frozen? ⟨g, j, none⟩ = false := frozen_of_row W g j _ ty h
theorem HoldsB.set (h : HoldsB W ty g l) (j : Nat) (x : UInt8) : HoldsB (W.setCell ⟨g, j, none⟩ (.int .u8 (x.toNat : Int))) ty g (l.set j x) := by
  unfold HoldsB
  rw [heap_setCell_same W g j _ ty _ h]
  congr 2
  rw [List.map_set, List.setIfInBounds_toArray]
  rfl
theorem HoldsB.alloc (h : HoldsB W ty g l) (o : Obj) : HoldsB (W.alloc o) ty g l := by
  refine Eq.trans ?_ h
  simp only [World.alloc, Array.getElem?_push]
  rw [if_neg (Nat.ne_of_lt h.lt)]
theorem HoldsB.setOther (h : HoldsB W ty g l) (a : Addr) (v : Value) (hn : g ≠ a.block) : HoldsB (W.setCell a v) ty g l :=
  (heap_setCell_other W a g v hn).trans h
theorem HoldsB.oth {g' : Nat} (h : HoldsB W ty g l) (ho : ∀ k, k ≠ g' → W'.heap[k]? = W.heap[k]?) (hn : g ≠ g') : HoldsB W' ty g l := (ho g hn).trans h
end
theorem holdsB_new (W : World) (ty g : Nat) (cs : Array Value) (l : List UInt8) (hg : g = W.heap.size) (hc : cs = (l.map bv).toArray) : HoldsB (W.alloc (.cells cs ty)) ty g l := by
  subst hg hc
  exact heap_alloc_new W _
theorem b_one (l : List UInt8) : (l.map bv).toArray.all (·.oneCell') = true := by
  rw [Array.all_eq_true_iff_forall_mem]
  intro v hv
  obtain ⟨x, _, rfl⟩ := List.mem_map.1 (by simpa using hv)
  rfl

/-- A byte out of its limb. -/
theorem byte_limb (n i : Nat) : limb n (i / 8) / 2 ^ (8 * (i % 8)) % 256 = n / 256 ^ i % 256 := by
  unfold limb
  have e : (256 : Nat) ^ i = 18446744073709551616 ^ (i / 8) * 256 ^ (i % 8) := by
    rw [show (18446744073709551616 : Nat) = 256 ^ 8 by decide, ← Nat.pow_mul, ← Nat.pow_add, Nat.div_add_mod]
  rw [e, ← Nat.div_div_eq_div_mul, Nat.pow_mul, show (2 : Nat) ^ 8 = 256 by decide]
  generalize n / 18446744073709551616 ^ (i / 8) = x
  have hr : i % 8 < 8 := Nat.mod_lt _ (by omega)
  generalize i % 8 = r at *
  have eW : (18446744073709551616 : Nat) = 256 ^ r * (256 * 256 ^ (7 - r)) := by
    rw [← Nat.pow_succ', ← Nat.pow_add, show r + (7 - r).succ = 8 by omega]
  have hx : x = x % 18446744073709551616 + 256 ^ r * (256 * (256 ^ (7 - r) * (x / 18446744073709551616))) := by
    have h := Nat.mod_add_div x 18446744073709551616
    rw [← Nat.mul_assoc 256, ← Nat.mul_assoc (256 ^ r), ← eW]
    exact h.symm
  conv => rhs; rw [hx, Nat.add_mul_div_left _ _ (Nat.pow_pos (by omega)), Nat.add_mul_mod_self_left]

/-- The bytes below i; the others are 0. -/
def bytL (n i : Nat) : List UInt8 := (List.range 32).map fun j => if j < i then UInt8.ofNat (n / 256 ^ j) else 0
theorem bytL_length (n i : Nat) : (bytL n i).length = 32 := by simp [bytL]
theorem bytL_full (n : Nat) : bytL n 32 = leBytes n 32 := by
  unfold bytL leBytes
  refine List.map_congr_left fun j hj => ?_
  rw [if_pos (by simpa using hj)]
theorem bytL_zero (n : Nat) : bytL n 0 = List.replicate 32 0 := rfl
theorem bytL_set (n i : Nat) : (bytL n i).set i (UInt8.ofNat (n / 256 ^ i)) = bytL n (i + 1) := by
  refine List.ext_getElem (by simp [bytL]) fun j h1 h2 => ?_
  rw [List.getElem_set]
  simp only [bytL, List.getElem_map, List.getElem_range]
  split
  · next e => subst e; rw [if_pos (by omega)]
  · next e => by_cases h : j < i
              · rw [if_pos h, if_pos (by omega)]
              · rw [if_neg h, if_neg (by omega)]

def zb : Array Value := ((List.replicate 32 (0 : UInt8)).map bv).toArray
/-- 'x := a' of an array of bytes in a block; 'r = a'. -/
theorem wpList_load_b {P : Program} {ops : Array Oper} {rest : List Oper} {o : Oper} {a : Act} {w : World} {Q : Exit → Act → World → Prop} (hgd : o.guard = none) (ty : TypeId) (x : Operand) (ho : o.op = .load ty x)
    (g : Nat) (hx : a.eval x = .pointer (some ⟨g, 0, none⟩)) (l : List UInt8) {e : TypeId} {n : Nat} (hg : HoldsB w ty g l) (hl : l.length = 32)
    (hu : P.underlying ty = some (.array n e)) (hi : (P.info? ty).map (·.size) = some 32)
    (h : wpList P ops Q rest (a.put o.dst (.agg (l.map bv).toArray)) w) : wpList P ops Q (o :: rest) a w :=
  wpList_load_row hgd ty x ho g hx ty _ (0, 0) _ hg hu rfl (by rw [hi]; simp [hl]) h
theorem wpList_store_b {P : Program} {ops : Array Oper} {rest : List Oper} {o : Oper} {a : Act} {w : World} {Q : Exit → Act → World → Prop} (hgd : o.guard = none) (ty : TypeId) (x y : Operand) (ho : o.op = .store ty x y)
    (g : Nat) (l : List UInt8) (hx : a.eval x = .pointer (some ⟨g, 0, none⟩)) (hy : a.eval y = .agg (l.map bv).toArray) (hl : l.length = 32)
    (old : List UInt8) (hg : HoldsB w ty g old) (hi : (P.info? ty).map (·.size) = some 32) (hold : old.length = 32) (D : Nat) (w0 : World) (hb : Below D w0 w) (hD : D ≤ g)
    (h : ∀ w' : World, HoldsB w' ty g l → (∀ k, k ≠ g → w'.heap[k]? = w.heap[k]?) → w'.heap.size = w.heap.size → Below D w0 w' → wpList P ops Q rest (a.put o.dst undef) w') : wpList P ops Q (o :: rest) a w :=
  wpList_store_row hgd ty x y ho g _ hx hy ty _ hg (by rw [hi]; simp [hl]) (by simp [hl, hold]) (b_one l)
    (h _ (show _ = _ from setRow_heap w g _ _ ty _ hg) (fun k hk => setRow_other w g k _ hk) (by simp) (below_setRow hb hD _))
theorem wpList_load_bn (c : Nat) {P : Program} {ops : Array Oper} {rest : List Oper} {o : Oper} {a : Act} {w : World} {Q : Exit → Act → World → Prop} (hgd : o.guard = none) (ty : TypeId) (x : Operand) (ho : o.op = .load ty x)
    (g : Nat) (hx : a.eval x = .pointer (some ⟨g, 0, none⟩)) (l : List UInt8) {e : TypeId} {n : Nat} (hg : HoldsB w ty g l) (hl : l.length = c)
    (hu : P.underlying ty = some (.array n e)) (hi : (P.info? ty).map (·.size) = some c)
    (h : wpList P ops Q rest (a.put o.dst (.agg (l.map bv).toArray)) w) : wpList P ops Q (o :: rest) a w :=
  wpList_load_row hgd ty x ho g hx ty _ (0, 0) _ hg hu rfl (by rw [hi]; simp [hl]) h
theorem wpList_store_bn (c : Nat) {P : Program} {ops : Array Oper} {rest : List Oper} {o : Oper} {a : Act} {w : World} {Q : Exit → Act → World → Prop} (hgd : o.guard = none) (ty : TypeId) (x y : Operand) (ho : o.op = .store ty x y)
    (g : Nat) (l : List UInt8) (hx : a.eval x = .pointer (some ⟨g, 0, none⟩)) (hy : a.eval y = .agg (l.map bv).toArray) (hl : l.length = c)
    (old : List UInt8) (hg : HoldsB w ty g old) (hi : (P.info? ty).map (·.size) = some c) (hold : old.length = c) (D : Nat) (w0 : World) (hb : Below D w0 w) (hD : D ≤ g)
    (h : ∀ w' : World, HoldsB w' ty g l → (∀ k, k ≠ g → w'.heap[k]? = w.heap[k]?) → w'.heap.size = w.heap.size → Below D w0 w' → wpList P ops Q rest (a.put o.dst undef) w') : wpList P ops Q (o :: rest) a w :=
  wpList_store_row hgd ty x y ho g _ hx hy ty _ hg (by rw [hi]; simp [hl]) (by simp [hl, hold]) (b_one l)
    (h _ (show _ = _ from setRow_heap w g _ _ ty _ hg) (fun k hk => setRow_other w g k _ hk) (by simp) (below_setRow hb hD _))
end Go.Proofs.YthhcjknkmdaeeaaDoor
