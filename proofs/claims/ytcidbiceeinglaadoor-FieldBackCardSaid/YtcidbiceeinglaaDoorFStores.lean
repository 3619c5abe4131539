/-
  A number stored into a block that a statement made freely.
-/
import Derived.Test.YtcidbiceeinglaaDoorFLaw
import Derived.Test.YtcidbiceeinglaaDoorRegionS
namespace Go.Proofs.YtcidbiceeinglaaDoor
open Go.RowKit

/-- A block of a number's, made behind D, that holds x. -/
def HeldFe (D x : Nat) (v : Value) (W : World) : Prop := ∃ g, v = .pointer (some ⟨g, 0, none⟩) ∧ D ≤ g ∧ HoldsN W 24 g (lims x)
theorem HeldFe.stay {D x : Nat} : ∀ v w w', HeldFe D x v w → Below w.heap.size w w' → HeldFe D x v w' := fun _ _ _ ⟨g, hv, hg, hh⟩ hb => ⟨g, hv, hg, hh.keep hb hh.lt⟩
theorem Bl.addHeld {w W : World} {D g x : Nat} {bs : List (Nat × Nat)} (h : Bl w D bs W) (hg : D ≤ g) (hn : HoldsN W 24 g (lims x)) : Bl w (g + 1) ((g, x) :: bs) W :=
  h.add hg hn (fun _ _ => rfl) h.below
theorem made_feS {S : World → Prop} {l : List Oper} {j D : Nat} (hS : ∀ w, S w → D ≤ w.heap.size) (hj : (l[j]?).map (·.op) = some (.alloc 24)) :
    ∀ o, l[j]? = some o → ∀ f w, S w → ∃ v w', (execOp f o).run Tryd.prog w = .ok (.value v) w' ∧ MadeFe D 0 v w' ∧ Below w.heap.size w w' := fun o ho f w hw => by
  rw [ho] at hj
  refine ⟨_, _, run_alloc_fe f o (Option.some.inj hj) w, ⟨_, rfl, hS w hw, ?_⟩, (Below.refl _ w).alloc (Nat.le_refl _) _⟩
  exact holdsN_new w _ _ _ _ rfl (by kernel_rfl)
theorem MadeFe.stayS {D : Nat} : ∀ v w w', MadeFe D 0 v w → Below w.heap.size w w' → MadeFe D 0 v w' := fun v w w' h hb => MadeFe.stay 0 v w w' h hb
theorem stores_fe {w : World} {D x : Nat} {bs : List (Nat × Nat)} {d0 src : Tmp} {o : Oper} {a : Act} (ho : o.op = .store 24 (.tmp d0) (.tmp src)) (hne : (d0 == src) = false) (hd : d0 < a.tmps.size) (hx : a.eval (.tmp src) = .agg ((lims x).map nv).toArray) :
    Stores Tryd.prog (Bl w D bs) (MadeFe D 0) (HeldFe D x) d0 o a := by
  rintro v W hS ⟨g, rfl, hg, hZ⟩
  have hpos := hS.pos
  have hnew : HoldsN (W.setRow g ((lims x).map nv).toArray) 24 g (lims x) := setRow_heap W g _ _ 24 _ hZ
  refine ⟨W.setRow g ((lims x).map nv).toArray, ⟨fun p hp => ?_, by simpa using hS.len, hS.pos, below_setRow hS.below (by omega) _⟩, ⟨g, rfl, hg, hnew⟩, fun a' he K Q hK => ?_⟩
  · obtain ⟨h1, h2⟩ := hS.hold p hp
    exact ⟨h1, h2.oth (fun k hk => setRow_other W g k _ hk) (by omega)⟩
  · have e1 : (a.put (some d0) (.pointer (some ⟨g, 0, none⟩))).eval (.tmp d0) = .pointer (some ⟨g, 0, none⟩) := by simp [Act.eval, Act.put, hd]
    have e2 : (a.put (some d0) (.pointer (some ⟨g, 0, none⟩))).eval (.tmp src) = .agg ((lims x).map nv).toArray := by
      rw [← hx]
      have hne' : d0 ≠ src := by simpa using hne
      simp [Act.eval, Act.put, Array.getElem?_setIfInBounds_ne hne']
    have hrun : (storeVar 24 ⟨g, 0, none⟩ (.agg ((lims x).map nv).toArray)).run Tryd.prog W = .ok () (W.setRow g ((lims x).map nv).toArray) := run_storeVar_row W g 24 24 _ _ hZ (by rw [Tryd.infoFe]; rfl) rfl (n_one _)
    unfold Oper.wp
    rw [he]
    unfold execOp
    simp only [ho, e1, e2, Instr.storeAt, Instr.sureAddr, Sem.run_bind, Sem.run_pure, Result.andThen_ok, hrun]
    exact hK
end Go.Proofs.YtcidbiceeinglaaDoor
