/-
  Bytes as numbers, the lowest first; a block of bytes; an array of bytes read and laid as one.
  The blocks that a call holds, whatever lies in them.
  The document's curve: is it a point?
  The document's curve: a point, with numbers below P; Zero, if it is none.
-/
import Derived.Deep.DeepCutAuto
import Derived.Great.BuildSlice
import Derived.Test.YtlfkohanfeejfaaDoorMad
import Derived.Test.YtlfkohanfeejfaaDoorMag
import Derived.Test.YtlfkohanfeejfaaDoorMah
namespace Go.Proofs.YtlfkohanfeejfaaDoor
open Go.RowKit

def leNum : List UInt8 → Nat
  | [] => 0
  | x :: xs => x.toNat + 256 * leNum xs
theorem leNum_append : ∀ (a b : List UInt8), leNum (a ++ b) = leNum a + 256 ^ a.length * leNum b
  | [], b => by simp [leNum]
  | x :: a, b => by
    simp only [List.cons_append, leNum, leNum_append a b, List.length_cons, Nat.pow_succ]
    rw [Nat.mul_add, ← Nat.mul_assoc, Nat.mul_comm 256 (256 ^ a.length)]
    omega
theorem leNum_lt : ∀ l : List UInt8, leNum l < 256 ^ l.length
  | [] => by simp [leNum]
  | x :: l => by
    have h1 := leNum_lt l
    have h2 := x.toNat_lt
    simp only [leNum, List.length_cons, Nat.pow_succ]
    omega
theorem leNum_take (l : List UInt8) {k : Nat} (h : k < l.length) : leNum (l.take k) + l[k].toNat * 256 ^ k = leNum (l.take (k + 1)) := by
  rw [List.take_succ_eq_append_getElem h, leNum_append, List.length_take, Nat.min_eq_left (by omega)]
  simp only [leNum, Nat.mul_zero, Nat.add_zero]
  rw [Nat.mul_comm]

/-- A number's bytes, the lowest first. -/
def leBytes (n k : Nat) : List UInt8 := (List.range k).map fun i => UInt8.ofNat (n / 256 ^ i)
theorem leBytes_length (n k : Nat) : (leBytes n k).length = k := by simp [leBytes]
theorem leNum_leBytes (n : Nat) : ∀ k, leNum (leBytes n k) = n % 256 ^ k
  | 0 => by simp [leBytes, leNum, Nat.mod_one]
  | k + 1 => by
    have e : leBytes n (k + 1) = leBytes n k ++ [UInt8.ofNat (n / 256 ^ k)] := by simp [leBytes, List.range_succ]
    rw [e, leNum_append, leNum_leBytes n k, leBytes_length]
    simp only [leNum, Nat.mul_zero, Nat.add_zero, UInt8.toNat_ofNat']
    conv => rhs; rw [Nat.pow_succ, Nat.mod_mul]

/-- Block g holds the bytes l, as an array of type ty. -/
def HoldsB (W : World) (ty g : Nat) (l : List UInt8) : Prop := W.heap[g]? = some (.cells (l.map bv).toArray ty (0, 0))
section
variable {W W' : World} {ty g : Nat} {l : List UInt8}
theorem HoldsB.lt (h : HoldsB W ty g l) : g < W.heap.size := (Array.getElem?_eq_some_iff.1 h).1
theorem HoldsB.keep (h : HoldsB W ty g l) {D : Nat} (hb : Below D W W') (hD : g < D) : HoldsB W' ty g l := (hb.block g hD).trans h
theorem HoldsB.cell (h : HoldsB W ty g l) {j : Nat} (hj : j < l.length) : W.cell? ⟨g, j, none⟩ = some (.int .u8 (l[j].toNat : Int)) := by
  rw [cell_of_row W g j _ ty (0, 0) h]
  simp [bv, hj]
theorem HoldsB.frozen (h : HoldsB W ty g l) (j : Nat) : W.frozen? ⟨g, j, none⟩ = false := frozen_of_row W g j _ ty h
theorem HoldsB.set (h : HoldsB W ty g l) (j : Nat) (x : UInt8) : HoldsB (W.setCell ⟨g, j, none⟩ (.int .u8 (x.toNat : Int))) ty g (l.set j x) := by
  unfold HoldsB
  rw [heap_setCell_same W g j _ ty _ h]
  congr 2
  rw [List.map_set, List.setIfInBounds_toArray]
  rfl
theorem HoldsB.alloc (h : HoldsB W ty g l) (o : Obj) : HoldsB (W.alloc o) ty g l := by
  refine Eq.trans ?_ h
  simp only [World.alloc, Array.getElem?_push]
  rw [if_neg (Nat.ne_of_lt h.lt)]
theorem HoldsB.setOther (h : HoldsB W ty g l) (a : Addr) (v : Value) (hn : g ≠ a.block) : HoldsB (W.setCell a v) ty g l :=
  (heap_setCell_other W a g v hn).trans h
theorem HoldsB.oth {g' : Nat} (h : HoldsB W ty g l) (ho : ∀ k, k ≠ g' → W'.heap[k]? = W.heap[k]?) (hn : g ≠ g') : HoldsB W' ty g l := (ho g hn).trans h
end
theorem holdsB_new (W : World) (ty g : Nat) (cs : Array Value) (l : List UInt8) (hg : g = W.heap.size) (hc : cs = (l.map bv).toArray) : HoldsB (W.alloc (.cells cs ty)) ty g l := by
  subst hg hc
  exact heap_alloc_new W _
theorem b_one (l : List UInt8) : (l.map bv).toArray.all (·.oneCell') = true := by
  rw [Array.all_eq_true_iff_forall_mem]
  intro v hv
  obtain ⟨x, _, rfl⟩ := List.mem_map.1 (by simpa using hv)
  rfl

/-- A byte out of its limb. -/
theorem byte_limb (n i : Nat) : limb n (i / 8) / 2 ^ (8 * (i % 8)) % 256 = n / 256 ^ i % 256 := by
  unfold limb
  have e : (256 : Nat) ^ i = 18446744073709551616 ^ (i / 8) * 256 ^ (i % 8) := by
    rw [show (18446744073709551616 : Nat) = 256 ^ 8 by decide, ← Nat.pow_mul, ← Nat.pow_add, Nat.div_add_mod]
  rw [e, ← Nat.div_div_eq_div_mul, Nat.pow_mul, show (2 : Nat) ^ 8 = 256 by decide]
  generalize n / 18446744073709551616 ^ (i / 8) = x
  have hr : i % 8 < 8 := Nat.mod_lt _ (by omega)
  generalize i % 8 = r at *
  have eW : (18446744073709551616 : Nat) = 256 ^ r * (256 * 256 ^ (7 - r)) := by
    rw [← Nat.pow_succ', ← Nat.pow_add, show r + (7 - r).succ = 8 by omega]
  have hx : x = x % 18446744073709551616 + 256 ^ r * (256 * (256 ^ (7 - r) * (x / 18446744073709551616))) := by
    have h := Nat.mod_add_div x 18446744073709551616
    rw [← Nat.mul_assoc 256, ← Nat.mul_assoc (256 ^ r), ← eW]
    exact h.symm
  conv => rhs; rw [hx, Nat.add_mul_div_left _ _ (Nat.pow_pos (by omega)), Nat.add_mul_mod_self_left]

/-- The bytes below i; the others are 0. -/
def bytL (n i : Nat) : List UInt8 := (List.range 32).map fun j => if j < i then UInt8.ofNat (n / 256 ^ j) else 0
theorem bytL_length (n i : Nat) : (bytL n i).length = 32 := by simp [bytL]
theorem bytL_full (n : Nat) : bytL n 32 = leBytes n 32 := by
  unfold bytL leBytes
  refine List.map_congr_left fun j hj => ?_
  rw [if_pos (by simpa using hj)]
theorem bytL_zero (n : Nat) : bytL n 0 = List.replicate 32 0 := rfl
theorem bytL_set (n i : Nat) : (bytL n i).set i (UInt8.ofNat (n / 256 ^ i)) = bytL n (i + 1) := by
  refine List.ext_getElem (by simp [bytL]) fun j h1 h2 => ?_
  rw [List.getElem_set]
  simp only [bytL, List.getElem_map, List.getElem_range]
  split
  · next e => subst e; rw [if_pos (by omega)]
  · next e => by_cases h : j < i
              · rw [if_pos h, if_pos (by omega)]
              · rw [if_neg h, if_neg (by omega)]

def zb : Array Value := ((List.replicate 32 (0 : UInt8)).map bv).toArray
/-- 'x := a' of an array of bytes in a block; 'r = a'. -/
theorem wpList_load_b {P : Program} {ops : Array Oper} {rest : List Oper} {o : Oper} {a : Act} {w : World} {Q : Exit → Act → World → Prop} (hgd : o.guard = none) (ty : TypeId) (x : Operand) (ho : o.op = .load ty x)
    (g : Nat) (hx : a.eval x = .pointer (some ⟨g, 0, none⟩)) (l : List UInt8) {e : TypeId} {n : Nat} (hg : HoldsB w ty g l) (hl : l.length = 32)
    (hu : P.underlying ty = some (.array n e)) (hi : (P.info? ty).map (·.size) = some 32)
    (h : wpList P ops Q rest (a.put o.dst (.agg (l.map bv).toArray)) w) : wpList P ops Q (o :: rest) a w :=
  wpList_load_row hgd ty x ho g hx ty _ (0, 0) _ hg hu rfl (by rw [hi]; simp [hl]) h
theorem wpList_store_b {P : Program} {ops : Array Oper} {rest : List Oper} {o : Oper} {a : Act} {w : World} {Q : Exit → Act → World → Prop} (hgd : o.guard = none) (ty : TypeId) (x y : Operand) (ho : o.op = .store ty x y)
    (g : Nat) (l : List UInt8) (hx : a.eval x = .pointer (some ⟨g, 0, none⟩)) (hy : a.eval y = .agg (l.map bv).toArray) (hl : l.length = 32)
    (old : List UInt8) (hg : HoldsB w ty g old) (hi : (P.info? ty).map (·.size) = some 32) (hold : old.length = 32) (D : Nat) (w0 : World) (hb : Below D w0 w) (hD : D ≤ g)
    (h : ∀ w' : World, HoldsB w' ty g l → (∀ k, k ≠ g → w'.heap[k]? = w.heap[k]?) → w'.heap.size = w.heap.size → Below D w0 w' → wpList P ops Q rest (a.put o.dst undef) w') : wpList P ops Q (o :: rest) a w :=
  wpList_store_row hgd ty x y ho g _ hx hy ty _ hg (by rw [hi]; simp [hl]) (by simp [hl, hold]) (b_one l)
    (h _ (show _ = _ from setRow_heap w g _ _ ty _ hg) (fun k hk => setRow_other w g k _ hk) (by simp) (below_setRow hb hD _))
theorem wpList_load_bn (c : Nat) {P : Program} {ops : Array Oper} {rest : List Oper} {o : Oper} {a : Act} {w : World} {Q : Exit → Act → World → Prop} (hgd : o.guard = none) (ty : TypeId) (x : Operand) (ho : o.op = .load ty x)
    (g : Nat) (hx : a.eval x = .pointer (some ⟨g, 0, none⟩)) (l : List UInt8) {e : TypeId} {n : Nat} (hg : HoldsB w ty g l) (hl : l.length = c)
    (hu : P.underlying ty = some (.array n e)) (hi : (P.info? ty).map (·.size) = some c)
    (h : wpList P ops Q rest (a.put o.dst (.agg (l.map bv).toArray)) w) : wpList P ops Q (o :: rest) a w :=
  wpList_load_row hgd ty x ho g hx ty _ (0, 0) _ hg hu rfl (by rw [hi]; simp [hl]) h
theorem wpList_store_bn (c : Nat) {P : Program} {ops : Array Oper} {rest : List Oper} {o : Oper} {a : Act} {w : World} {Q : Exit → Act → World → Prop} (hgd : o.guard = none) (ty : TypeId) (x y : Operand) (ho : o.op = .store ty x y)
    (g : Nat) (l : List UInt8) (hx : a.eval x = .pointer (some ⟨g, 0, none⟩)) (hy : a.eval y = .agg (l.map bv).toArray) (hl : l.length = c)
    (old : List UInt8) (hg : HoldsB w ty g old) (hi : (P.info? ty).map (·.size) = some c) (hold : old.length = c) (D : Nat) (w0 : World) (hb : Below D w0 w) (hD : D ≤ g)
    (h : ∀ w' : World, HoldsB w' ty g l → (∀ k, k ≠ g → w'.heap[k]? = w.heap[k]?) → w'.heap.size = w.heap.size → Below D w0 w' → wpList P ops Q rest (a.put o.dst undef) w') : wpList P ops Q (o :: rest) a w :=
  wpList_store_row hgd ty x y ho g _ hx hy ty _ hg (by rw [hi]; simp [hl]) (by simp [hl, hold]) (b_one l)
    (h _ (show _ = _ from setRow_heap w g _ _ ty _ hg) (fun k hk => setRow_other w g k _ hk) (by simp) (below_setRow hb hD _))
end Go.Proofs.YtlfkohanfeejfaaDoor

namespace Go.Proofs.YtlfkohanfeejfaaDoor
open Go.RowKit

/-- Blocks below D: their numbers, their types, their cells. -/
structure Bs (w : World) (D : Nat) (bs : List (Nat × TypeId × Array Value)) (W : World) : Prop where
  hold : ∀ p ∈ bs, p.1 < D ∧ W.heap[p.1]? = some (.cells p.2.2 p.2.1 (0, 0))
  len : D ≤ W.heap.size
  pos : w.heap.size ≤ D
  below : Below w.heap.size w W
section
variable {w W W' : World} {D g ty : Nat} {cs cs' : Array Value} {bs : List (Nat × TypeId × Array Value)}
theorem Bs.stay : ∀ W W', Bs w D bs W → Below W.heap.size W W' → Bs w D bs W' := fun _ _ h hb =>
  ⟨fun p hp => ⟨(h.hold p hp).1, (hb.block p.1 (Nat.lt_of_lt_of_le (h.hold p hp).1 h.len)).trans (h.hold p hp).2⟩, Nat.le_trans h.len hb.size, h.pos, h.below.trans (hb.mono (Nat.le_trans h.pos h.len))⟩
theorem Bs.size (W : World) (h : Bs w D bs W) : D ≤ W.heap.size := h.len
theorem Bs.get (h : Bs w D bs W) (hp : (g, ty, cs) ∈ bs) : W.heap[g]? = some (.cells cs ty (0, 0)) := (h.hold _ hp).2
theorem Bs.getN {l : List Nat} (h : Bs w D bs W) (hp : (g, ty, (l.map nv).toArray) ∈ bs) : HoldsN W ty g l := h.get hp
theorem Bs.getB {l : List UInt8} (h : Bs w D bs W) (hp : (g, ty, (l.map bv).toArray) ∈ bs) : HoldsB W ty g l := h.get hp
theorem Bs.nil : Bs w w.heap.size [] w := ⟨fun _ h => by simp at h, Nat.le_refl _, Nat.le_refl _, Below.refl _ _⟩
/-- A further block, made behind the others. -/
theorem Bs.add (h : Bs w D bs W) (hg : D ≤ g) (hn : W'.heap[g]? = some (.cells cs ty (0, 0))) (ho : ∀ k, k ≠ g → W'.heap[k]? = W.heap[k]?) (hb : Below w.heap.size w W') : Bs w (g + 1) ((g, ty, cs) :: bs) W' := by
  refine ⟨fun p hp => ?_, (Array.getElem?_eq_some_iff.1 hn).1, by have := h.pos; omega, hb⟩
  rcases List.mem_cons.1 hp with rfl | hp
  · exact ⟨Nat.lt_succ_self _, hn⟩
  · obtain ⟨h1, h2⟩ := h.hold p hp
    exact ⟨by omega, (ho _ (by omega)).trans h2⟩
/-- The same, made at the world's end. -/
theorem Bs.alloc (h : Bs w D bs W) (hg : g = W.heap.size) : Bs w (g + 1) ((g, ty, cs) :: bs) (W.alloc (.cells cs ty)) := by
  subst hg
  refine ⟨fun p hp => ?_, by rw [World.size_alloc]; exact Nat.le_refl _, by have := h.pos; have := h.len; omega, h.below.alloc h.below.size _⟩
  rcases List.mem_cons.1 hp with rfl | hp
  · exact ⟨Nat.lt_succ_self _, heap_alloc_new W _⟩
  · obtain ⟨h1, h2⟩ := h.hold p hp
    refine ⟨by have := h.len; omega, Eq.trans ?_ h2⟩
    simp only [World.alloc, Array.getElem?_push]
    rw [if_neg (by have := h.len; omega)]
/-- The first block's cells turn. -/
theorem Bs.turn (h : Bs w D ((g, ty, cs) :: bs) W) (hd : bs.all (fun p => p.1 != g) = true) (hn : W'.heap[g]? = some (.cells cs' ty (0, 0))) (ho : ∀ k, k ≠ g → W'.heap[k]? = W.heap[k]?) (hs : W.heap.size ≤ W'.heap.size) (hb : Below w.heap.size w W') : Bs w D ((g, ty, cs') :: bs) W' := by
  refine ⟨fun p hp => ?_, Nat.le_trans h.len hs, h.pos, hb⟩
  rcases List.mem_cons.1 hp with rfl | hp
  · exact ⟨(h.hold _ (List.mem_cons_self ..)).1, hn⟩
  · obtain ⟨h1, h2⟩ := h.hold p (List.mem_cons_of_mem _ hp)
    have := List.all_eq_true.1 hd p hp
    exact ⟨h1, (ho _ (by simpa using this)).trans h2⟩
/-- A block's cells turn. -/
theorem Bs.turnAt {bs' : List (Nat × TypeId × Array Value)} (h : Bs w D bs W) (hg : g < D) (hn : W'.heap[g]? = some (.cells cs' ty (0, 0))) (ho : ∀ k, k ≠ g → W'.heap[k]? = W.heap[k]?) (hs : W.heap.size ≤ W'.heap.size) (hb : Below w.heap.size w W')
    (hbs : ∀ p ∈ bs', p = (g, ty, cs') ∨ (p ∈ bs ∧ p.1 ≠ g)) : Bs w D bs' W' := by
  refine ⟨fun p hp => ?_, Nat.le_trans h.len hs, h.pos, hb⟩
  rcases hbs p hp with rfl | ⟨h1, h2⟩
  · exact ⟨hg, hn⟩
  · exact ⟨(h.hold p h1).1, (ho _ h2).trans (h.hold p h1).2⟩
theorem Bs.sub {bs' : List (Nat × TypeId × Array Value)} (h : Bs w D bs W) (hs : ∀ p ∈ bs', p ∈ bs) : Bs w D bs' W := ⟨fun p hp => h.hold p (hs p hp), h.len, h.pos, h.below⟩
theorem Bs.swap {p q : Nat × TypeId × Array Value} (h : Bs w D (p :: q :: bs) W) : Bs w D (q :: p :: bs) W := h.sub fun r hr => by
  rcases List.mem_cons.1 hr with h1 | h1
  · exact h1 ▸ List.mem_cons_of_mem _ (List.mem_cons_self ..)
  · rcases List.mem_cons.1 h1 with h2 | h2
    · exact h2 ▸ List.mem_cons_self ..
    · exact List.mem_cons_of_mem _ (List.mem_cons_of_mem _ h2)
theorem Bs.drew (h : Bs w D bs W) : Bs w D bs W.drew := Bs.stay _ _ h (Below.refl _ W).drew
/-- A byte is laid into the first block. -/
theorem Bs.byte {l : List UInt8} (h : Bs w D ((g, ty, (l.map bv).toArray) :: bs) W) (hd : bs.all (fun p => p.1 != g) = true) (hg : w.heap.size ≤ g) (j : Nat) (x : UInt8) : Bs w D ((g, ty, ((l.set j x).map bv).toArray) :: bs) (W.setCell ⟨g, j, none⟩ (.int .u8 (x.toNat : Int))) :=
  h.turn hd ((h.getB (List.mem_cons_self ..)).set j x) (fun k hk => heap_setCell_other W ⟨g, j, none⟩ k _ hk) (by simp) (h.below.setCell hg _)
end
/-- A block of a type, made freely behind D. -/
def MadeT (ty : TypeId) (cs : Array Value) (D : Nat) (_ : Nat) (v : Value) (W : World) : Prop := ∃ g, v = .pointer (some ⟨g, 0, none⟩) ∧ D ≤ g ∧ W.heap[g]? = some (.cells cs ty (0, 0))
theorem MadeT.stay {ty : TypeId} {cs : Array Value} {D : Nat} : ∀ j v w w', MadeT ty cs D j v w → Below w.heap.size w w' → MadeT ty cs D j v w' := fun _ _ _ _ ⟨g, hv, hg, hh⟩ hb => ⟨g, hv, hg, (hb.block g (Array.getElem?_eq_some_iff.1 hh).1).trans hh⟩
theorem made_t {P : Program} {ty : TypeId} {cs : Array Value} {S : World → Prop} {l : List Oper} {j D : Nat} (hr : ∀ (f : Operand → Value) (o : Oper) (w : World), o.op = .alloc ty → (execOp f o).run P w = .ok (.value (.pointer (some ⟨w.heap.size, 0, none⟩))) (w.alloc (.cells cs ty)))
    (hS : ∀ w, S w → D ≤ w.heap.size) (hj : (l[j]?).map (·.op) = some (.alloc ty)) :
    ∀ k o, (fun k => k == j : Nat → Bool) k = true → l[k]? = some o → ∀ f w, S w → ∃ v w', (execOp f o).run P w = .ok (.value v) w' ∧ MadeT ty cs D k v w' ∧ Below w.heap.size w w' := fun k o hk ho f w hw => by
  obtain rfl : k = j := by simpa using hk
  rw [ho] at hj
  exact ⟨_, _, hr f o w (Option.some.inj hj), ⟨_, rfl, hS w hw, heap_alloc_new w _⟩, (Below.refl _ w).alloc (Nat.le_refl _) _⟩
end Go.Proofs.YtlfkohanfeejfaaDoor

namespace Go.Proofs.YtlfkohanfeejfaaDoor
open Go.RowKit

theorem run_loadFe_at {w : World} {ty g : Nat} {xs : List Nat} (h : HoldsN w ty g (limsL xs)) (i : Nat) (hi : i < xs.length) :
    (loadFe 24 ⟨g, 4 * i, none⟩).run Tryd.prog w = .ok (.agg ((lims xs[i]).map nv).toArray) w := run_loadAt_fe h i hi
theorem run_alloc_fe' (f : Operand → Value) (o : Oper) (w : World) (ho : o.op = .alloc 24) :
    (execOp f o).run Tryd.prog w = .ok (.value (.pointer (some ⟨w.heap.size, 0, none⟩))) (w.alloc (.cells #[.int .u64 0, .int .u64 0, .int .u64 0, .int .u64 0] 24)) := by
  obtain ⟨dst, op, type, pos, after, guard⟩ := o
  obtain rfl : op = .alloc 24 := ho
  go_simp
theorem fe_new (W : World) : HoldsN (W.alloc (.cells #[.int .u64 0, .int .u64 0, .int .u64 0, .int .u64 0] 24)) 24 W.heap.size (lims 0) := holdsN_new W _ _ _ _ rfl (by kernel_rfl)
theorem lit_one : Value.agg #[.int .u64 1, .int .u64 0, .int .u64 0, .int .u64 0] = fev 1 := by kernel_rfl

section
attribute [local go_sem ↓] load_fe

set_option maxRecDepth 100000 in
set_option maxHeartbeats 4000000 in
theorem rCheck_any (x y : Nat) (w : World) (hx : x < big) (hy : y < big) :
    Calls Tryd.prog 64 #[ptv x y] w fun e w' => e = .returned (.bool (decide (On (toF x, toF y)))) ∧ Below w.heap.size w w' := by
  obtain ⟨fx, hfx⟩ : ∃ f, f = toF x := ⟨_, rfl⟩
  obtain ⟨fy, hfy⟩ : ∃ f, f = toF y := ⟨_, rfl⟩
  obtain ⟨xx, hxx⟩ : ∃ z : F, z = fx * fx := ⟨_, rfl⟩
  obtain ⟨yy, hyy⟩ : ∃ z : F, z = fy * fy := ⟨_, rfl⟩
  obtain ⟨m, hm⟩ : ∃ z : F, z = xx * yy := ⟨_, rfl⟩
  obtain ⟨n, hn⟩ : ∃ z : F, z = dd * m := ⟨_, rfl⟩
  obtain ⟨r, hr⟩ : ∃ z : F, z = 1 + n := ⟨_, rfl⟩
  obtain ⟨d, hd⟩ : ∃ z : F, z = yy - xx := ⟨_, rfl⟩
  obtain ⟨ans, hans⟩ : ∃ b, b = decide (d = r) := ⟨_, rfl⟩
  have hgoal : decide (On (toF x, toF y)) = ans := by rw [hans, hd, hr, hn, hm, hyy, hxx, hfx, hfy]; rfl
  have K1 : Hid (∀ W, Calls Tryd.prog 26 #[.agg ((lims x).map nv).toArray, .agg ((lims x).map nv).toArray] W fun e w' => e = .returned (.agg ((lims xx.val).map nv).toArray) ∧ Below W.heap.size W w') := Lib.hid fun W => by
    have h := rMul_any x x W hx hx
    rw [← hfx, ← hxx] at h
    exact h
  have K2 : Hid (∀ W, Calls Tryd.prog 26 #[.agg ((lims y).map nv).toArray, .agg ((lims y).map nv).toArray] W fun e w' => e = .returned (.agg ((lims yy.val).map nv).toArray) ∧ Below W.heap.size W w') := Lib.hid fun W => by
    have h := rMul_any y y W hy hy
    rw [← hfy, ← hyy] at h
    exact h
  have K3 : Hid (∀ W, Calls Tryd.prog 30 #[] W fun e w' => e = .returned (.agg ((lims dd.val).map nv).toArray) ∧ Below W.heap.size W w') := Lib.hid fun W => rDee_any W
  have K4 : Hid (∀ W, Calls Tryd.prog 26 #[.agg ((lims xx.val).map nv).toArray, .agg ((lims yy.val).map nv).toArray] W fun e w' => e = .returned (.agg ((lims m.val).map nv).toArray) ∧ Below W.heap.size W w') := Lib.hid fun W => by
    have h := rMul_any xx.val yy.val W (F.lt_big _) (F.lt_big _)
    rw [toF_of, toF_of, ← hm] at h
    exact h
  have K5 : Hid (∀ W, Calls Tryd.prog 26 #[.agg ((lims dd.val).map nv).toArray, .agg ((lims m.val).map nv).toArray] W fun e w' => e = .returned (.agg ((lims n.val).map nv).toArray) ∧ Below W.heap.size W w') := Lib.hid fun W => by
    have h := rMul_any dd.val m.val W (F.lt_big _) (F.lt_big _)
    rw [toF_of, toF_of, ← hn] at h
    exact h
  have K6 : Hid (∀ W, Calls Tryd.prog 29 #[.agg #[.int .u64 1, .int .u64 0, .int .u64 0, .int .u64 0], .agg ((lims n.val).map nv).toArray] W fun e w' => e = .returned (.agg ((lims r.val).map nv).toArray) ∧ Below W.heap.size W w') := Lib.hid fun W => by
    have h := rAdd_any 1 n.val W (by decide) (F.lt_big _)
    rw [toF_of, show toF 1 = 1 from rfl, ← hr, ← lit_one] at h
    exact h
  have K7 : Hid (∀ W, Calls Tryd.prog 28 #[.agg ((lims yy.val).map nv).toArray, .agg ((lims xx.val).map nv).toArray] W fun e w' => e = .returned (.agg ((lims d.val).map nv).toArray) ∧ Below W.heap.size W w') := Lib.hid fun W => by
    have h := rSub_any yy.val xx.val W (F.lt_big _) (F.lt_big _)
    rw [toF_of, toF_of, ← hd] at h
    exact h
  have q1 := fun W => run_eql_F d r W
  rw [← hans] at q1
  have gf := fun x y c d W => run_guard_fe x y c d W
  rw [hgoal]
  clear hgoal hans hd hr hn hm hyy hxx hfx hfy hx hy
  have F0 : Bs w (w.heap.size + 1) [(w.heap.size, 26, ((limsL [x, y]).map nv).toArray)] (w.alloc (.cells ((limsL [x, y]).map nv).toArray 26)) := Bs.nil.alloc rfl
  unfold ptv
  go_enter Tryd.func64, Tryd.ntmps64
  go_upto_region 1 with (fail)
  generalize w.alloc (.cells ((limsL [x, y]).map nv).toArray 26) = wv at *
  have hP : wv.rangeAt w.heap.size 0 ((lims x).map nv) := range_at (F0.getN (g := w.heap.size) (l := limsL [x, y]) (List.mem_cons_self ..)) 0 (by simp)
  go_upto_region 2 with (first
    | (with_reducible refine wpList_load_mid rfl 24 (.tmp 6) rfl w.heap.size 0 rfl ((lims x).map nv) _ hP Tryd.underlying24 rfl (by rw [Tryd.infoFe, List.length_map, lims_length]) ?_)
    | (with_reducible refine wpList_load_mid rfl 24 (.tmp 8) rfl w.heap.size 0 rfl ((lims x).map nv) _ hP Tryd.underlying24 rfl (by rw [Tryd.infoFe, List.length_map, lims_length]) ?_)
    | (go_at_call 26
       with_reducible refine (K1.out _).mono ?_
       rintro e w2 ⟨rfl, hb2⟩
       have F2 := Bs.stay _ _ F0 hb2
       have F2a := Bs.stay _ _ F2 ((Below.refl _ w2).alloc (Nat.le_refl _) (.cells #[.int .u64 0, .int .u64 0, .int .u64 0, .int .u64 0] 24))
       have z2 := fe_new w2)
    | (with_reducible refine wpList_store_n rfl 24 (.tmp 3) (.tmp 10) rfl w2.heap.size (lims xx.val) 4 rfl rfl rfl (lims 0) (by with_unfolding_all exact z2) Tryd.infoFe rfl w.heap.size w (by with_unfolding_all exact F2a.below) F2.below.size ?_
       intro w3 H3 o3 s3 b3
       have F3 := Bs.add (by with_unfolding_all exact F2a) F2.len H3 o3 b3
       clear s3)
    | fail)
  have hg2 := F2.len
  clear hP F2a z2 o3 H3 b3 hb2 F0 F2
  generalize w2.heap.size = g3 at *
  have hP : w3.rangeAt w.heap.size 4 ((lims y).map nv) := range_at (F3.getN (g := w.heap.size) (l := limsL [x, y]) (by repeat (first | exact List.mem_cons_self .. | refine List.mem_cons_of_mem _ ?_))) 1 (by simp)
  go_upto_region 3 with (first
    | (with_reducible refine wpList_load_mid rfl 24 (.tmp 11) rfl w.heap.size 4 rfl ((lims y).map nv) _ hP Tryd.underlying24 rfl (by rw [Tryd.infoFe, List.length_map, lims_length]) ?_)
    | (with_reducible refine wpList_load_mid rfl 24 (.tmp 13) rfl w.heap.size 4 rfl ((lims y).map nv) _ hP Tryd.underlying24 rfl (by rw [Tryd.infoFe, List.length_map, lims_length]) ?_)
    | (go_at_call 26
       with_reducible refine (K2.out _).mono ?_
       rintro e w4 ⟨rfl, hb4⟩
       have F4 := Bs.stay _ _ F3 hb4
       have F4a := Bs.stay _ _ F4 ((Below.refl _ w4).alloc (Nat.le_refl _) (.cells #[.int .u64 0, .int .u64 0, .int .u64 0, .int .u64 0] 24))
       have z4 := fe_new w4)
    | (with_reducible refine wpList_store_n rfl 24 (.tmp 4) (.tmp 15) rfl w4.heap.size (lims yy.val) 4 rfl rfl rfl (lims 0) (by with_unfolding_all exact z4) Tryd.infoFe rfl w.heap.size w (by with_unfolding_all exact F4a.below) F4.below.size ?_
       intro w5 H5 o5 s5 b5
       have F5 := Bs.add (by with_unfolding_all exact F4a) F4.len H5 o5 b5
       clear s5)
    | fail)
  have hg4 := F4.len
  clear hP F4a z4 o5 H5 b5 hb4 F3 F4
  generalize w4.heap.size = g4 at *
  try dsimp only [Act.put]
  go_cut [5] (fun vp wx => ∃ g, vp = .pointer (some ⟨g, 0, none⟩) ∧ Bs w (g + 1) [(g, 24, ((lims r.val).map nv).toArray), (g4, 24, ((lims yy.val).map nv).toArray), (g3, 24, ((lims xx.val).map nv).toArray), (w.heap.size, 26, ((limsL [x, y]).map nv).toArray)] wx)
  case first =>
    refine wp_region_lex 8 (fun k => k == 7) (MadeT 24 #[.int .u64 0, .int .u64 0, .int .u64 0, .int .u64 0] (g4 + 1)) (Bs w (g4 + 1) [(g4, 24, ((lims yy.val).map nv).toArray), (g3, 24, ((lims xx.val).map nv).toArray), (w.heap.size, 26, ((limsL [x, y]).map nv).toArray)]) (by kernel_rfl) (by kernel_rfl) F5.drew Bs.stay MadeT.stay (made_t run_alloc_fe' Bs.size rfl) ?_
    simp only [List.take_succ_cons, List.take_zero, List.drop_succ_cons, List.drop_zero]
    refine lexW_value (v := ?_) (by rfl) (by rfl) (fun W hW => ?_) ?_
    rotate_left
    · skip; go_simp <;> with_reducible rfl
    simp only [Act.put, List.setIfInBounds_toArray, List.set_cons_zero, List.set_cons_succ]
    refine' lexW_call (by rfl) (by rfl) (fun W hW => ?_) (fun W hW => ?_) ?_
    rotate_left 3
    · go_simp <;> first | with_reducible rfl | exact ⟨rfl, rfl⟩
    · with_reducible exact K3.out W
    simp only [Act.put, List.setIfInBounds_toArray, List.set_cons_zero, List.set_cons_succ]
    refine lexW_value (v := ?_) (by rfl) (by rfl) (fun W hW => ?_) ?_
    rotate_left
    · have l1 := run_loadFe (hW.getN (g := g3) (l := lims xx.val) (by repeat (first | exact List.mem_cons_self .. | refine List.mem_cons_of_mem _ ?_))); go_simp <;> with_reducible rfl
    simp only [Act.put, List.setIfInBounds_toArray, List.set_cons_zero, List.set_cons_succ]
    refine lexW_value (v := ?_) (by rfl) (by rfl) (fun W hW => ?_) ?_
    rotate_left
    · have l1 := run_loadFe (hW.getN (g := g4) (l := lims yy.val) (by repeat (first | exact List.mem_cons_self .. | refine List.mem_cons_of_mem _ ?_))); go_simp <;> with_reducible rfl
    simp only [Act.put, List.setIfInBounds_toArray, List.set_cons_zero, List.set_cons_succ]
    refine' lexW_call (by rfl) (by rfl) (fun W hW => ?_) (fun W hW => ?_) ?_
    rotate_left 3
    · go_simp <;> first | with_reducible rfl | exact ⟨rfl, rfl⟩
    · with_reducible exact K4.out W
    simp only [Act.put, List.setIfInBounds_toArray, List.set_cons_zero, List.set_cons_succ]
    refine' lexW_call (by rfl) (by rfl) (fun W hW => ?_) (fun W hW => ?_) ?_
    rotate_left 3
    · go_simp <;> first | with_reducible rfl | exact ⟨rfl, rfl⟩
    · with_reducible exact K5.out W
    simp only [Act.put, List.setIfInBounds_toArray, List.set_cons_zero, List.set_cons_succ]
    refine' lexW_call (by rfl) (by rfl) (fun W hW => ?_) (fun W hW => ?_) ?_
    rotate_left 3
    · go_simp <;> first | with_reducible rfl | exact ⟨rfl, rfl⟩
    · with_reducible exact K6.out W
    simp only [Act.put, List.setIfInBounds_toArray, List.set_cons_zero, List.set_cons_succ]
    refine lexW_free (by rfl) ?_
    refine lexW_nil (fun b8 W8 F8 E8 => ?_)
    obtain ⟨_, ⟨g, rfl, hg, hZ⟩, rfl⟩ := lexEnd_one (j := 7) (d := 5) (by kernel_rfl) E8
    have hp8 := F8.pos
    have hZ : HoldsN W8 24 g (lims 0) := hZ
    simp only [Act.put, List.setIfInBounds_toArray, List.set_cons_zero, List.set_cons_succ]
    go_wp2_with (with_reducible refine wpList_store_n rfl 24 (.tmp 5) (.tmp 22) rfl g (lims r.val) 4 rfl rfl rfl (lims 0) hZ Tryd.infoFe rfl w.heap.size w F8.below (by omega) ?_; intro w9 H9 o9 _ b9)
    go_meet
    exact ⟨g, rfl, F8.add hg H9 o9 b9⟩
  case rest =>
    obtain ⟨g5, rfl, F6⟩ := hcut
    clear F5
    go_upto_region 4 with (fail)
    refine wp_region_lex 5 (fun _ => false) (fun _ _ _ => True) (Bs w (g5 + 1) [(g5, 24, ((lims r.val).map nv).toArray), (g4, 24, ((lims yy.val).map nv).toArray), (g3, 24, ((lims xx.val).map nv).toArray), (w.heap.size, 26, ((limsL [x, y]).map nv).toArray)]) (by kernel_rfl) (by kernel_rfl) F6.drew Bs.stay (fun _ _ _ _ _ _ => trivial) lex_none ?_
    simp only [List.take_succ_cons, List.take_zero, List.drop_succ_cons, List.drop_zero]
    refine lexW_value (v := ?_) (by rfl) (by rfl) (fun W hW => ?_) ?_
    rotate_left
    · have l1 := run_loadFe (hW.getN (g := g4) (l := lims yy.val) (by repeat (first | exact List.mem_cons_self .. | refine List.mem_cons_of_mem _ ?_))); go_simp <;> with_reducible rfl
    simp only [Act.put, List.setIfInBounds_toArray, List.set_cons_zero, List.set_cons_succ]
    refine lexW_value (v := ?_) (by rfl) (by rfl) (fun W hW => ?_) ?_
    rotate_left
    · have l1 := run_loadFe (hW.getN (g := g3) (l := lims xx.val) (by repeat (first | exact List.mem_cons_self .. | refine List.mem_cons_of_mem _ ?_))); go_simp <;> with_reducible rfl
    simp only [Act.put, List.setIfInBounds_toArray, List.set_cons_zero, List.set_cons_succ]
    refine' lexW_call (by rfl) (by rfl) (fun W hW => ?_) (fun W hW => ?_) ?_
    rotate_left 3
    · go_simp <;> first | with_reducible rfl | exact ⟨rfl, rfl⟩
    · with_reducible exact K7.out W
    simp only [Act.put, List.setIfInBounds_toArray, List.set_cons_zero, List.set_cons_succ]
    refine lexW_value (v := ?_) (by rfl) (by rfl) (fun W hW => ?_) ?_
    rotate_left
    · have l1 := run_loadFe (hW.getN (g := g5) (l := lims r.val) (by repeat (first | exact List.mem_cons_self .. | refine List.mem_cons_of_mem _ ?_))); go_simp <;> with_reducible rfl
    simp only [Act.put, List.setIfInBounds_toArray, List.set_cons_zero, List.set_cons_succ]
    refine lexW_value (v := ?_) (by rfl) (by rfl) (fun W hW => ?_) ?_
    rotate_left
    · skip; go_simp <;> with_reducible rfl
    simp only [Act.put, List.setIfInBounds_toArray, List.set_cons_zero, List.set_cons_succ]
    refine lexW_nil (fun b10 W10 F10 E10 => ?_)
    obtain rfl := lexEnd_none E10
    go_wp2
    go_ret
    exact ⟨rfl, F10.below⟩
end
end Go.Proofs.YtlfkohanfeejfaaDoor

namespace Go.Proofs.YtlfkohanfeejfaaDoor
open Go.RowKit

theorem exec_build {P : Program} (f : Operand → Value) (o : Oper) (t : TypeId) (parts : Array (Nat × Operand)) (ho : o.op = .build t parts) (cells : Array Value) (hb : P.built t (parts.map fun (i, x) => (i, f x)).toList = some cells) (w : World) : (execOp f o).run P w = .ok (.value (.agg cells)) w := by
  unfold execOp
  simp only [ho, Sem.run_bind, run_build w t _ _ hb, Result.andThen_ok]
  rfl
/-- 'x := p' of a struct of numbers in a block. -/
theorem wpList_load_pt {P : Program} {ops : Array Oper} {rest : List Oper} {o : Oper} {a : Act} {w : World} {Q : Exit → Act → World → Prop} (hgd : o.guard = none) (ty : TypeId) (x : Operand) (ho : o.op = .load ty x)
    (g : Nat) (hx : a.eval x = .pointer (some ⟨g, 0, none⟩)) (l : List Nat) (m : Nat) {fs : Array Field} (hg : HoldsN w ty g l) (hl : l.length = m)
    (hu : P.underlying ty = some (.struct fs)) (hi : (P.info? ty).map (·.size) = some m)
    (h : wpList P ops Q rest (a.put o.dst (.agg (l.map nv).toArray)) w) : wpList P ops Q (o :: rest) a w :=
  wpList_load_row hgd ty x ho g hx ty _ (0, 0) _ hg hu rfl (by rw [hi]; simp [hl]) h
theorem Tryd.builtPt (x y : Nat) : Tryd.prog.built 26 [(0, .agg ((lims x).map nv).toArray), (1, .agg ((lims y).map nv).toArray)] = some ((limsL [x, y]).map nv).toArray := by kernel_rfl
/-- The point that numbers are taken as. -/
def pOf (x y : Nat) : F × F := if On (toF x, toF y) then (toF x, toF y) else pzero
theorem on_pOf (x y : Nat) : On (pOf x y) := by unfold pOf; split <;> first | assumption | exact on_zero
theorem pOf_of {p : F × F} (h : On p) : pOf p.1.val p.2.val = p := by unfold pOf; rw [toF_of, toF_of, if_pos h]
/-- What gives a point of the curve. -/
def GaveQ (w : World) (p : F × F) (e : Ending) (w' : World) : Prop := e = .returned (ptv p.1.val p.2.val) ∧ Below w.heap.size w w'

theorem pt_start (w : World) (x y : Nat) : Bs w (w.heap.size + 1 + 1) [(w.heap.size + 1, 26, ((limsL [0, 0]).map nv).toArray), (w.heap.size, 26, ((limsL [x, y]).map nv).toArray)] ((w.alloc (.cells ((limsL [x, y]).map nv).toArray 26)).alloc (.cells #[.int .u64 0, .int .u64 0, .int .u64 0, .int .u64 0, .int .u64 0, .int .u64 0, .int .u64 0, .int .u64 0] 26)) :=
  (Bs.nil.alloc rfl).alloc (World.size_alloc ..).symm

section
attribute [local go_sem ↓] load_fe

set_option maxRecDepth 100000 in
set_option maxHeartbeats 4000000 in
theorem rLeast_pt (x y : Nat) (w : World) (hx : x < big) (hy : y < big) :
    Calls Tryd.prog 35 #[ptv x y] w (GaveQ w (pOf x y)) := by
  have K1 : Hid (∀ W, Calls Tryd.prog 64 #[.agg ((limsL [x, y]).map nv).toArray] W fun e w' => e = .returned (.bool (decide (On (toF x, toF y)))) ∧ Below W.heap.size W w') := Lib.hid fun W => rCheck_any x y W hx hy
  have K2 : Hid (∀ W, Calls Tryd.prog 32 #[] W fun e w' => e = .returned (.agg ((limsL [(0 : F).val, (1 : F).val]).map nv).toArray) ∧ Below W.heap.size W w') := Lib.hid fun W => rZero_any W
  have K3 : Hid (∀ W, Calls Tryd.prog 57 #[.agg ((lims x).map nv).toArray] W fun e w' => e = .returned (.agg ((lims (toF x).val).map nv).toArray) ∧ Below W.heap.size W w') := Lib.hid fun W => rLeast_any x W hx
  have K4 : Hid (∀ W, Calls Tryd.prog 57 #[.agg ((lims y).map nv).toArray] W fun e w' => e = .returned (.agg ((lims (toF y).val).map nv).toArray) ∧ Below W.heap.size W w') := Lib.hid fun W => rLeast_any y W hy
  have F0 := pt_start w x y
  unfold ptv
  by_cases hon : On (toF x, toF y)
  · have hp : pOf x y = (toF x, toF y) := if_pos hon
    rw [decide_eq_true hon] at K1
    rw [hp]
    clear hp hon hx hy
    generalize toF x = fx at *
    generalize toF y = fy at *
    have hb := Lib.hid (Tryd.builtPt fx.val fy.val)
    go_enter Tryd.func35, Tryd.ntmps35
    go_upto_region 1 with (fail)
    generalize (w.alloc (.cells ((limsL [x, y]).map nv).toArray 26)).alloc (.cells #[.int .u64 0, .int .u64 0, .int .u64 0, .int .u64 0, .int .u64 0, .int .u64 0, .int .u64 0, .int .u64 0] 26) = wv at *
    have hP := F0.getN (g := w.heap.size) (l := limsL [x, y]) (by repeat (first | exact List.mem_cons_self .. | refine List.mem_cons_of_mem _ ?_))
    go_upto_region 4 with (first
      | (with_reducible refine wpList_load_pt rfl 26 (.tmp 1) rfl w.heap.size rfl (limsL [x, y]) 8 hP rfl Tryd.underlying26 Tryd.infoPt ?_)
      | (go_at_call 64
         with_reducible refine (K1.out _).mono ?_
         rintro e w2 ⟨rfl, hb2⟩
         have F2 := Bs.stay _ _ F0 hb2)
      | fail)
    clear F0 hP hb2
    refine wp_region_lex 7 (fun _ => false) (fun _ _ _ => True) (Bs w (w.heap.size + 1 + 1) [(w.heap.size + 1, 26, ((limsL [0, 0]).map nv).toArray), (w.heap.size, 26, ((limsL [x, y]).map nv).toArray)]) (by kernel_rfl) (by kernel_rfl) F2.drew Bs.stay (fun _ _ _ _ _ _ => trivial) lex_none ?_
    simp only [List.take_succ_cons, List.take_zero, List.drop_succ_cons, List.drop_zero]
    refine lexW_value (v := ?_) (by rfl) (by rfl) (fun W hW => ?_) ?_
    rotate_left
    · skip; go_simp <;> with_reducible rfl
    simp only [Act.put, List.setIfInBounds_toArray, List.set_cons_zero, List.set_cons_succ]
    refine lexW_value (v := ?_) (by rfl) (by rfl) (fun W hW => ?_) ?_
    rotate_left
    · have l1 : (loadFe 24 ⟨w.heap.size, 0, none⟩).run Tryd.prog W = .ok (.agg ((lims x).map nv).toArray) W := run_loadFe_at (hW.getN (g := w.heap.size) (l := limsL [x, y]) (by repeat (first | exact List.mem_cons_self .. | refine List.mem_cons_of_mem _ ?_))) 0 (by simp); go_simp <;> with_reducible rfl
    simp only [Act.put, List.setIfInBounds_toArray, List.set_cons_zero, List.set_cons_succ]
    refine' lexW_call (by rfl) (by rfl) (fun W hW => ?_) (fun W hW => ?_) ?_
    rotate_left 3
    · go_simp <;> first | with_reducible rfl | exact ⟨rfl, rfl⟩
    · with_reducible exact K3.out W
    simp only [Act.put, List.setIfInBounds_toArray, List.set_cons_zero, List.set_cons_succ]
    refine lexW_value (v := ?_) (by rfl) (by rfl) (fun W hW => ?_) ?_
    rotate_left
    · skip; go_simp <;> with_reducible rfl
    simp only [Act.put, List.setIfInBounds_toArray, List.set_cons_zero, List.set_cons_succ]
    refine lexW_value (v := ?_) (by rfl) (by rfl) (fun W hW => ?_) ?_
    rotate_left
    · have l1 : (loadFe 24 ⟨w.heap.size, 4, none⟩).run Tryd.prog W = .ok (.agg ((lims y).map nv).toArray) W := run_loadFe_at (hW.getN (g := w.heap.size) (l := limsL [x, y]) (by repeat (first | exact List.mem_cons_self .. | refine List.mem_cons_of_mem _ ?_))) 1 (by simp); go_simp <;> with_reducible rfl
    simp only [Act.put, List.setIfInBounds_toArray, List.set_cons_zero, List.set_cons_succ]
    refine' lexW_call (by rfl) (by rfl) (fun W hW => ?_) (fun W hW => ?_) ?_
    rotate_left 3
    · go_simp <;> first | with_reducible rfl | exact ⟨rfl, rfl⟩
    · with_reducible exact K4.out W
    simp only [Act.put, List.setIfInBounds_toArray, List.set_cons_zero, List.set_cons_succ]
    refine lexW_value (v := .agg ((limsL [fx.val, fy.val]).map nv).toArray) (by rfl) (by rfl) (fun W hW => exec_build _ _ 26 #[(0, .tmp 11), (1, .tmp 14)] rfl _ (by with_unfolding_all exact hb.out) W) ?_
    simp only [Act.put, List.setIfInBounds_toArray, List.set_cons_zero, List.set_cons_succ]
    refine lexW_nil (fun b8 W8 F8 E8 => ?_)
    obtain rfl := lexEnd_none E8
    have hR := F8.getN (g := w.heap.size + 1) (l := limsL [0, 0]) (List.mem_cons_self ..)
    go_wp2_with (with_reducible refine wpList_store_n rfl 26 (.tmp 2) (.tmp 15) rfl (w.heap.size + 1) (limsL [fx.val, fy.val]) 8 rfl rfl rfl (limsL [0, 0]) hR Tryd.infoPt rfl w.heap.size w F8.below (by omega) ?_; intro w9 Hg _ _ b9)
    exact bodyPost_ret (results_cell_row rfl _ _ _ _ _ _ _ rfl Hg Tryd.underlying26 rfl (by rw [Tryd.infoPt]; rfl)) rfl ⟨rfl, b9⟩
  · have hp : pOf x y = (0, 1) := if_neg hon
    rw [decide_eq_false hon] at K1
    rw [hp]
    clear hp hon hx hy K3 K4
    go_enter Tryd.func35, Tryd.ntmps35
    go_upto_region 1 with (fail)
    generalize (w.alloc (.cells ((limsL [x, y]).map nv).toArray 26)).alloc (.cells #[.int .u64 0, .int .u64 0, .int .u64 0, .int .u64 0, .int .u64 0, .int .u64 0, .int .u64 0, .int .u64 0] 26) = wv at *
    have hP := F0.getN (g := w.heap.size) (l := limsL [x, y]) (by repeat (first | exact List.mem_cons_self .. | refine List.mem_cons_of_mem _ ?_))
    generalize (0 : F) = f0 at *
    generalize (1 : F) = f1 at *
    go_wp2_with (first
      | (with_reducible refine wpList_load_pt rfl 26 (.tmp 1) rfl w.heap.size rfl (limsL [x, y]) 8 hP rfl Tryd.underlying26 Tryd.infoPt ?_)
      | (go_at_call 64
         with_reducible refine (K1.out _).mono ?_
         rintro e w2 ⟨rfl, hb2⟩
         have F2 := Bs.stay _ _ F0 hb2)
      | (go_at_call 32
         with_reducible refine (K2.out _).mono ?_
         rintro e w3 ⟨rfl, hb3⟩
         have F3 := Bs.stay _ _ F2 hb3
         have hR := F3.getN (g := w.heap.size + 1) (l := limsL [0, 0]) (List.mem_cons_self ..))
      | (with_reducible refine wpList_store_n rfl 26 (.tmp 2) (.tmp 8) rfl (w.heap.size + 1) (limsL [f0.val, f1.val]) 8 rfl rfl rfl (limsL [0, 0]) hR Tryd.infoPt rfl w.heap.size w F3.below (by omega) ?_; intro w9 Hg _ _ b9))
    exact bodyPost_ret (results_cell_row rfl _ _ _ _ _ _ _ rfl Hg Tryd.underlying26 rfl (by rw [Tryd.infoPt]; rfl)) rfl ⟨rfl, b9⟩
end
end Go.Proofs.YtlfkohanfeejfaaDoor
