/-
  Blocks that are made freely while a statement runs: a number's.
-/
import Derived.Test.YtcidbiceeinglaaDoorFSquared
import Derived.Test.YtcidbiceeinglaaDoorFEq
import Derived.Test.YtcidbiceeinglaaDoorRegion
namespace Go.Proofs.YtcidbiceeinglaaDoor
open Go.RowKit

/-- A block of a number's, made behind D. -/
def MadeFe (D : Nat) (_ : Nat) (v : Value) (W : World) : Prop := ∃ g, v = .pointer (some ⟨g, 0, none⟩) ∧ D ≤ g ∧ HoldsN W 24 g (lims 0)
theorem MadeFe.stay {D : Nat} : ∀ j v w w', MadeFe D j v w → Below w.heap.size w w' → MadeFe D j v w' := fun _ _ _ _ ⟨g, hv, hg, hh⟩ hb => ⟨g, hv, hg, hh.keep hb hh.lt⟩
theorem run_alloc_fe (f : Operand → Value) (o : Oper) (ho : o.op = .alloc 24) (w : World) :
    (execOp f o).run Tryd.prog w = .ok (.value (.pointer (some ⟨w.heap.size, 0, none⟩))) (w.alloc (.cells #[.int .u64 0, .int .u64 0, .int .u64 0, .int .u64 0] 24)) := by
  obtain ⟨dst, op, type, pos, after, guard⟩ := o
  obtain rfl : op = .alloc 24 := ho
  go_simp
theorem made_fe {S : World → Prop} {l : List Oper} {j D : Nat} (hS : ∀ w, S w → D ≤ w.heap.size) (hj : (l[j]?).map (·.op) = some (.alloc 24)) :
    ∀ k o, (fun k => k == j : Nat → Bool) k = true → l[k]? = some o → ∀ f w, S w → ∃ v w', (execOp f o).run Tryd.prog w = .ok (.value v) w' ∧ MadeFe D k v w' ∧ Below w.heap.size w w' := fun k o hk ho f w hw => by
  obtain rfl : k = j := by simpa using hk
  rw [ho] at hj
  refine ⟨_, _, run_alloc_fe f o (Option.some.inj hj) w, ⟨_, rfl, hS w hw, ?_⟩, (Below.refl _ w).alloc (Nat.le_refl _) _⟩
  exact holdsN_new w _ _ _ _ rfl (by kernel_rfl)

/-- The blocks of a call of one number: the number's, and the answer's. -/
structure Fe1 (w : World) (m : Nat) (W : World) : Prop where
  a : HoldsN W 24 w.heap.size (lims m)
  c : HoldsN W 24 (w.heap.size + 1) (lims 0)
  d : Below w.heap.size w W
theorem Fe1.stay {w : World} {m : Nat} : ∀ W W', Fe1 w m W → Below W.heap.size W W' → Fe1 w m W' := fun _ _ h hb => ⟨h.a.keep hb h.a.lt, h.c.keep hb h.c.lt, h.d.trans (hb.mono h.d.size)⟩
theorem Fe1.size {w : World} {m : Nat} (W : World) (h : Fe1 w m W) : w.heap.size + 2 ≤ W.heap.size := h.c.lt
theorem Fe1.oth {w W W' : World} {m g : Nat} (h : Fe1 w m W) (ho : ∀ k, k ≠ g → W'.heap[k]? = W.heap[k]?) (hb : Below w.heap.size w W') (hg : w.heap.size + 2 ≤ g) : Fe1 w m W' := ⟨h.a.oth ho (by omega), h.c.oth ho (by omega), hb⟩

/-- And a further block, that holds a number. -/
structure Fe2 (w : World) (m g h : Nat) (W : World) : Prop where
  f : Fe1 w m W
  h : HoldsN W 24 g (lims h)
theorem Fe2.stay {w : World} {m g h : Nat} : ∀ W W', Fe2 w m g h W → Below W.heap.size W W' → Fe2 w m g h W' := fun _ _ p hb => ⟨Fe1.stay _ _ p.f hb, p.h.keep hb p.h.lt⟩
theorem Fe2.size {w : World} {m g h : Nat} (W : World) (p : Fe2 w m g h W) : max (w.heap.size + 2) (g + 1) ≤ W.heap.size := Nat.max_le.2 ⟨Fe1.size _ p.f, p.h.lt⟩
theorem Fe2.oth {w W W' : World} {m g h g' : Nat} (p : Fe2 w m g h W) (ho : ∀ k, k ≠ g' → W'.heap[k]? = W.heap[k]?) (hb : Below w.heap.size w W') (hg : max (w.heap.size + 2) (g + 1) ≤ g') : Fe2 w m g h W' := ⟨p.f.oth ho hb (by omega), p.h.oth ho (by omega)⟩

/-- What a region leaves in a block of its own. -/
def InBlock (D r : Nat) (G : World → Prop) (vp : Value) (wx : World) : Prop := ∃ g, vp = .pointer (some ⟨g, 0, none⟩) ∧ D ≤ g ∧ HoldsN wx 24 g (lims r) ∧ G wx
end Go.Proofs.YtcidbiceeinglaaDoor
