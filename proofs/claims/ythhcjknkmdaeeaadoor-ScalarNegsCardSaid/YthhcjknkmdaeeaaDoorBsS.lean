/-
  A value stored into a block that was made freely, whatever lies in it.
-/
import Derived.Test.YthhcjknkmdaeeaaDoorBs
import Derived.Test.YthhcjknkmdaeeaaDoorRegionS
namespace Go.Proofs.YthhcjknkmdaeeaaDoor
open Go.RowKit

/-- A block of a type, made behind D, that holds cs. -/
def HeldT (ty : TypeId) (cs : Array Value) (D : Nat) (v : Value) (W : World) : Prop := ∃ g, v = .pointer (some ⟨g, 0, none⟩) ∧ D ≤ g ∧ W.heap[g]? = some (.cells cs ty (0, 0))
theorem HeldT.stay {ty : TypeId} {cs : Array Value} {D : Nat} : ∀ v w w', HeldT ty cs D v w → Below w.heap.size w w' → HeldT ty cs D v w' := fun _ _ _ ⟨g, hv, hg, hh⟩ hb => ⟨g, hv, hg, (hb.block g (Array.getElem?_eq_some_iff.1 hh).1).trans hh⟩
theorem MadeT.stayS {ty : TypeId} {cs : Array Value} {D : Nat} : ∀ v w w', MadeT ty cs D 0 v w → Below w.heap.size w w' → MadeT ty cs D 0 v w' := fun v w w' h hb => MadeT.stay 0 v w w' h hb
theorem Bs.addHeld {w W : World} {D g ty : Nat} {cs : Array Value} {bs : List (Nat × TypeId × Array Value)} (h : Bs w D bs W) (hg : D ≤ g) (hn : W.heap[g]? = some (.cells cs ty (0, 0))) : Bs w (g + 1) ((g, ty, cs) :: bs) W :=
  h.add hg hn (fun _ _ => rfl) h.below
theorem made_tS {P : Program} {ty : TypeId} {cs : Array Value} {S : World → Prop} {l : List Oper} {j D : Nat} (hr : ∀ (f : Operand → Value) (o : Oper) (w : World), o.op = .alloc ty → (execOp f o).run P w = .ok (.value (.pointer (some ⟨w.heap.size, 0, none⟩))) (w.alloc (.cells cs ty)))
    (hS : ∀ w, S w → D ≤ w.heap.size) (hj : (l[j]?).map (·.op) = some (.alloc ty)) :
    ∀ o, l[j]? = some o → ∀ f w, S w → ∃ v w', (execOp f o).run P w = .ok (.value v) w' ∧ MadeT ty cs D 0 v w' ∧ Below w.heap.size w w' := fun o ho f w hw => by
  rw [ho] at hj
  exact ⟨_, _, hr f o w (Option.some.inj hj), ⟨_, rfl, hS w hw, heap_alloc_new w _⟩, (Below.refl _ w).alloc (Nat.le_refl _) _⟩
theorem stores_t {P : Program} {w : World} {D : Nat} {ty : TypeId} {cs cs0 : Array Value} {bs : List (Nat × TypeId × Array Value)} {d0 src : Tmp} {o : Oper} {a : Act} (ho : o.op = .store ty (.tmp d0) (.tmp src)) (hne : (d0 == src) = false) (hd : d0 < a.tmps.size) (hx : a.eval (.tmp src) = .agg cs)
    (hi : (P.info? ty).map (·.size) = some cs.size) (hs : cs.size = cs0.size) (h1 : cs.all (·.oneCell') = true) :
    Stores P (Bs w D bs) (MadeT ty cs0 D 0) (HeldT ty cs D) d0 o a := by
  rintro v W hS ⟨g, rfl, hg, hZ⟩
  have hpos := hS.pos
  have hnew : (W.setRow g cs).heap[g]? = some (.cells cs ty (0, 0)) := setRow_heap W g _ _ ty _ hZ
  refine ⟨W.setRow g cs, ⟨fun p hp => ?_, by simpa using hS.len, hS.pos, below_setRow hS.below (by omega) _⟩, ⟨g, rfl, hg, hnew⟩, fun a' he K Q hK => ?_⟩
  · obtain ⟨h1, h2⟩ := hS.hold p hp
    exact ⟨h1, (setRow_other W g p.1 _ (by omega)).trans h2⟩
  · have e1 : (a.put (some d0) (.pointer (some ⟨g, 0, none⟩))).eval (.tmp d0) = .pointer (some ⟨g, 0, none⟩) := by simp [Act.eval, Act.put, hd]
    have e2 : (a.put (some d0) (.pointer (some ⟨g, 0, none⟩))).eval (.tmp src) = .agg cs := by
      rw [← hx]
      have hne' : d0 ≠ src := by simpa using hne
      simp [Act.eval, Act.put, Array.getElem?_setIfInBounds_ne hne']
    have hrun : (storeVar ty ⟨g, 0, none⟩ (.agg cs)).run P W = .ok () (W.setRow g cs) := run_storeVar_row W g ty ty _ _ hZ hi hs.symm h1
    unfold Oper.wp
    rw [he]
    unfold execOp
    simp only [ho, e1, e2, Instr.storeAt, Instr.sureAddr, Sem.run_bind, Sem.run_pure, Result.andThen_ok, hrun]
    exact hK
end Go.Proofs.YthhcjknkmdaeeaaDoor
