/-
  The blocks that a call holds, whatever lies in them.
-/
import Derived.Test.YthhcjknkmdaeeaaDoorLeBytes
namespace Go.Proofs.YthhcjknkmdaeeaaDoor
open Go.RowKit

/-- Blocks below D: their numbers, their types, their cells. -/
structure Bs (w : World) (D : Nat) (bs : List (Nat × TypeId × Array Value)) (W : World) : Prop where
  hold : ∀ p ∈ bs, p.1 < D ∧ W.heap[p.1]? = some (.cells p.2.2 p.2.1 (0, 0))
  len : D ≤ W.heap.size
  pos : w.heap.size ≤ D
  below : Below w.heap.size w W
section
variable {w W W' : World} {D g ty : Nat} {cs cs' : Array Value} {bs : List (Nat × TypeId × Array Value)}
theorem Bs.stay : ∀ W W', Bs w D bs W → Below W.heap.size W W' → Bs w D bs W' := fun _ _ h hb =>
  ⟨fun p hp => ⟨(h.hold p hp).1, (hb.block p.1 (Nat.lt_of_lt_of_le (h.hold p hp).1 h.len)).trans (h.hold p hp).2⟩, Nat.le_trans h.len hb.size, h.pos, h.below.trans (hb.mono (Nat.le_trans h.pos h.len))⟩
theorem Bs.size (W : World) (h : Bs w D bs W) : D ≤ W.heap.size := h.len
theorem Bs.get (h : Bs w D bs W) (hp : (g, ty, cs) ∈ bs) : W.heap[g]? = some (.cells cs ty (0, 0)) := (h.hold _ hp).2
theorem Bs.getN {l : List Nat} (h : Bs w D bs W) (hp : (g, ty, (l.map nv).toArray) ∈ bs) : HoldsN W ty g l := h.get hp
theorem Bs.getB {l : List UInt8} (h : Bs w D bs W) (hp : (g, ty, (l.map bv).toArray) ∈ bs) : HoldsB W ty g l := h.get hp
theorem Bs.nil : Bs w w.heap.size [] w := ⟨fun _ h => by simp at h, Nat.le_refl _, Nat.le_refl _, Below.refl _ _⟩
/-- A further block, made behind the others. -/
theorem Bs.add (h : Bs w D bs W) (hg : D ≤ g) (hn : W'.heap[g]? = some (.cells cs ty (0, 0))) (ho : ∀ k, k ≠ g → W'.heap[k]? = W.heap[k]?) (hb : Below w.heap.size w W') : Bs w (g + 1) ((g, ty, cs) :: bs) W' := by
  refine ⟨fun p hp => ?_, (Array.getElem?_eq_some_iff.1 hn).1, by have := h.pos; omega, hb⟩
  rcases List.mem_cons.1 hp with rfl | hp
  · exact ⟨Nat.lt_succ_self _, hn⟩
  · obtain ⟨h1, h2⟩ := h.hold p hp
    exact ⟨by omega, (ho _ (by omega)).trans h2⟩
/-- The same, made at the world's end. -/
theorem Bs.alloc (h : Bs w D bs W) (hg : g = W.heap.size) : Bs w (g + 1) ((g, ty, cs) :: bs) (W.alloc (.cells cs ty)) := by
  subst hg
  refine ⟨fun p hp => ?_, by rw [World.size_alloc]; exact Nat.le_refl _, by have := h.pos; have := h.len; omega, h.below.alloc h.below.size _⟩
  rcases List.mem_cons.1 hp with rfl | hp
  · exact ⟨Nat.lt_succ_self _, heap_alloc_new W _⟩
  · obtain ⟨h1, h2⟩ := h.hold p hp
    refine ⟨by have := h.len; omega, Eq.trans ?_ h2⟩
    simp only [World.alloc, Array.getElem?_push]
    rw [if_neg (by have := h.len; omega)]
/-- The first block's cells turn. -/
theorem Bs.turn (h : Bs w D ((g, ty, cs) :: bs) W) (hd : bs.all (fun p => p.1 != g) = true) (hn : W'.heap[g]? = some (.cells cs' ty (0, 0))) (ho : ∀ k, k ≠ g → W'.heap[k]? = W.heap[k]?) (hs : W.heap.size ≤ W'.heap.size) (hb : Below w.heap.size w W') : Bs w D ((g, ty, cs') :: bs) W' := by
  refine ⟨fun p hp => ?_, Nat.le_trans h.len hs, h.pos, hb⟩
  rcases List.mem_cons.1 hp with rfl | hp
  · exact ⟨(h.hold _ (List.mem_cons_self ..)).1, hn⟩
  · obtain ⟨h1, h2⟩ := h.hold p (List.mem_cons_of_mem _ hp)
    have := List.all_eq_true.1 hd p hp
    exact ⟨h1, (ho _ (by simpa using this)).trans h2⟩
/-- A block's cells turn. -/
theorem Bs.turnAt {bs' : List (Nat × TypeId × Array Value)} (h : Bs w D bs W) (hg : g < D) (hn : W'.heap[g]? = some (.cells cs' ty (0, 0))) (ho : ∀ k, k ≠ g → W'.heap[k]? = W.heap[k]?) (hs : W.heap.size ≤ W'.heap.size) (hb : Below w.heap.size w W')
    (hbs : ∀ p ∈ bs', p = (g, ty, cs') ∨ (p ∈ bs ∧ p.1 ≠ g)) : Bs w D bs' W' := by
  refine ⟨fun p hp => ?_, Nat.le_trans h.len hs, h.pos, hb⟩
  rcases hbs p hp with rfl | ⟨h1, h2⟩
  · exact ⟨hg, hn⟩
  · exact ⟨(h.hold p h1).1, (ho _ h2).trans (h.hold p h1).2⟩
theorem Bs.sub {bs' : List (Nat × TypeId × Array Value)} (h : Bs w D bs W) (hs : ∀ p ∈ bs', p ∈ bs) : Bs w D bs' W := ⟨fun p hp => h.hold p (hs p hp), h.len, h.pos, h.below⟩
theorem Bs.swap {p q : Nat × TypeId × Array Value} (h : Bs w D (p :: q :: bs) W) : Bs w D (q :: p :: bs) W := h.sub fun r hr => by
  rcases List.mem_cons.1 hr with h1 | h1
  · exact h1 ▸ List.mem_cons_of_mem _ (List.mem_cons_self ..)
  · rcases List.mem_cons.1 h1 with h2 | h2
    · exact h2 ▸ List.mem_cons_self ..
    · exact List.mem_cons_of_mem _ (List.mem_cons_of_mem _ h2)
theorem Bs.drew (h : Bs w D bs W) : Bs w D bs W.drew := Bs.stay _ _ h (Below.refl _ W).drew
/-- A byte is laid into the first block. -/
theorem Bs.byte {l : List UInt8} (h : Bs w D ((g, ty, (l.map bv).toArray) :: bs) W) (hd : bs.all (fun p => p.1 != g) = true) (hg : w.heap.size ≤ g) (j : Nat) (x : UInt8) : Bs w D ((g, ty, ((l.set j x).map bv).toArray) :: bs) (W.setCell ⟨g, j, none⟩ (.int .u8 (x.toNat : Int))) :=
  h.turn hd ((h.getB (List.mem_cons_self ..)).set j x) (fun k hk => heap_setCell_other W ⟨g, j, none⟩ k _ hk) (by simp) (h.below.setCell hg _)
end
/-- A block of a type, made freely behind D. -/
def MadeT (ty : TypeId) (cs : Array Value) (D : Nat) (_ : Nat) (v : Value) (W : World) : Prop := ∃ g, v = .pointer (some ⟨g, 0, none⟩) ∧ D ≤ g ∧ W.heap[g]? = some (.cells cs ty (0, 0))
theorem MadeT.stay {ty : TypeId} {cs : Array Value} {D : Nat} : ∀ j v w w', MadeT ty cs D j v w → Below w.heap.size w w' → MadeT ty cs D j v w' := fun _ _ _ _ ⟨g, hv, hg, hh⟩ hb => ⟨g, hv, hg, (hb.block g (Array.getElem?_eq_some_iff.1 hh).1).trans hh⟩
theorem made_t {P : Program} {ty : TypeId} {cs : Array Value} {S : World → Prop} {l : List Oper} {j D : Nat} (hr : ∀ (f : Operand → Value) (o : Oper) (w : World), o.op = .alloc ty → (execOp f o).run P w = .ok (.value (.pointer (some ⟨w.heap.size, 0, none⟩))) (w.alloc (.cells cs ty)))
    (hS : ∀ w, S w → D ≤ w.heap.size) (hj : (l[j]?).map (·.op) = some (.alloc ty)) :
    ∀ k o, (fun k => k == j : Nat → Bool) k = true → l[k]? = some o → ∀ f w, S w → ∃ v w', (execOp f o).run P w = .ok (.value v) w' ∧ MadeT ty cs D k v w' ∧ Below w.heap.size w w' := fun k o hk ho f w hw => by
  obtain rfl : k = j := by simpa using hk
  rw [ho] at hj
  exact ⟨_, _, hr f o w (Option.some.inj hj), ⟨_, rfl, hS w hw, heap_alloc_new w _⟩, (Below.refl _ w).alloc (Nat.le_refl _) _⟩
end Go.Proofs.YthhcjknkmdaeeaaDoor
