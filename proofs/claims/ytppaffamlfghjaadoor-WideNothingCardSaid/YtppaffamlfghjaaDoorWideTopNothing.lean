/-
  WideNothing returns true for every input, and its arguments read behind the call as before: where the two package variables hold what the text lays.
-/
import Derived.Test.YtppaffamlfghjaaDoorRowW
import Derived.Test.YtppaffamlfghjaaDoorWideLawNothing
import Derived.Test.YtppaffamlfghjaaDoorTie
import Derived.Test.YtppaffamlfghjaaDoorCards
import Derived.SevenTiedAt
namespace Go.Proofs.YtppaffamlfghjaaDoor
open Go.ChangeShapes Go.WideShapes Go.ChangeAt Go.RowKit

theorem WideNothing_any (A A2 : Option Addr) (n c n2 c2 B : Nat) (a b : List UInt8) (w : World) (h : Sees w B A n c (a.map bv)) (h2 : Sees w B A2 n2 c2 (b.map bv)) (hB : B ≤ w.heap.size) (L : Laid w) :
    Calls Tryd.prog 10 #[.slice A n c, .slice A2 n2 c2] w (Yes w) := by
  rcases Nat.lt_or_ge 500 n with h3 | h3
  · exact WideNothing_big A A2 n c n2 c2 w (Or.inl h3) L
  rcases Nat.lt_or_ge 500 n2 with h4 | h4
  · exact WideNothing_big A A2 n c n2 c2 w (Or.inr h4) L
  exact WideNothing_small A A2 n c n2 c2 B a b w h h2 hB h3 h4 L

namespace LawNothing
theorem contract (H : Type) (enc : TypeId × Value → H) (W : World) (base : Nat) (args : Array Value) (ds gs : List (DataW H)) (before : List MemPlace)
    (hval : ∀ (j : Nat) t v, Tryd.f10.params[j]? = some t → args[j]? = some v → Value.okWide Tryd.prog W .any base t v)
    (hW : DataW.Whole enc Tryd.prog Tryd.f10.params.toList Rows.wideNothingSpec.vars false W args.toList ds gs before) (hL : laidMetH Tryd.prog laid2 W) :
    Calls Tryd.prog 10 args W fun e W' => ∃ v, e = .returned v ∧ Rows.wideNothingSpec.post enc Tryd.prog Tryd.f10 false true false false W args v W' := by
  have hW' := hW
  obtain ⟨p, q, hA0, hV, rfl, _, _⟩ := hW
  have hA : DataW.TrodAll enc Tryd.prog W 0 (fun _ => true) true Tryd.f10.params.toList args.toList ds p := hA0
  rw [Tryd.params10] at hA hval
  obtain ⟨v0, v1, d0, d1, p0, p1, rfl, rfl, rfl, h0, h1⟩ := trodAll_two hA
  obtain ⟨rfl, rfl⟩ := trodVars_none hV
  obtain ⟨a, A, c, rfl, hs⟩ := open_arg_bytes Tryd.underlying24 Tryd.underlying5 Tryd.cellsU8 (hval 0 _ v0 rfl rfl) h0
  obtain ⟨b, A2, c2, rfl, hs2⟩ := open_arg_bytes Tryd.underlying24 Tryd.underlying5 Tryd.cellsU8 (hval 1 _ v1 rfl rfl) h1
  refine (WideNothing_any A A2 _ c _ c2 W.heap.size a b W hs hs2 (Nat.le_refl _) (of_laid hL)).mono fun e W' ⟨he, hw⟩ => ?_
  subst he
  exact ⟨_, rfl, post_true Tryd.laidOut (by kernel_rfl) (by kernel_rfl) Tryd.underlying4 rfl hW' rfl rfl rfl hw⟩

set_option maxRecDepth 100000 in
theorem lifted (os : Os) (started : os.Started) (H : Type) (enc : TypeId × Value → H) :
    ReturnsInHanded {} Tryd.checked os 10 .any (fun w args => (Rows.wideNothingSpec.pre enc Tryd.prog Tryd.f10 [] false w args ∧ laidMetH Tryd.prog laid2 w) ∧ sizedMet enc Tryd.prog Tryd.f10 (OpenSpec.ofChange Rows.wideNothingSpec) false w args)
      (Rows.wideNothingSpec.post enc Tryd.prog Tryd.f10 false true false false) := by
  refine returnsInHanded_of_change_and (C := Tryd.checked) (X := fun w _ => laidMetH Tryd.prog laid2 w) (fun _ _ _ hh h => h.of_heap hh) Tryd.own started (by kernel_rfl) Tryd.func10
    (ChangeSpec.witness_shaped (enc := enc) (C := Tryd.checked) (os := os) (X := fun w _ => laidMetH Tryd.prog laid2 w) false (World.doorLaid Tryd.prog 400 os) #[.slice none 0 0, .slice none 0 0] 8 rfl (World.shaped_of_RefB (by kernel_rfl) (by kernel_rfl)) (by kernel_rfl) (by kernel_rfl) (by kernel_rfl) (door_met os _)) ?_
  intro W base args ds gs before hval hW _ _ hL _
  exact contract H enc W base args ds gs before hval hW hL

theorem proved : Rows.WideNothingSaid :=
  OpenClaim.holds_of_wide 10 Tryd.f10 rfl rfl rfl rfl rfl rfl rfl ⟨rfl, rfl, rfl, rfl, rfl⟩ rfl rfl rfl rfl rfl (by kernel_rfl) Tryd.func10 (by kernel_rfl)
    (of_decide_eq_true (by kernel_rfl)) (by unfold Func.isWrapper; first | (rw [if_pos (by decide +kernel)]; kernel_rfl) | (rw [if_neg (by decide +kernel)]; exact ⟨rfl, rfl⟩))
    (fun os started H enc _ => lifted os started H enc)

theorem card : Rows.WideNothingCardSaid :=
  Claim7.holds_tied_plain_at .later [] [.data, .data] true (true, "dbd13bbf12ea53a7a518aadfeef294e664f8e798a744640d54fbc3820d8f89c4") false
    proved (fun _ h => by cases h) (by kernel_rfl) (fun _ h => by cases h) wideNothing_row_tie rfl ⟨rfl, rfl⟩ (by kernel_rfl) rfl
    (fun f fn hf hfn => by
      obtain rfl : f = 10 := Option.some.inj ((show Tryd.prog.funcNamed "yashmak/yashmaklaw03.WideNothing" = some 10 by kernel_rfl).symm.trans hf) |>.symm
      obtain rfl : fn = Tryd.f10 := (Option.some.inj (Tryd.func10.symm.trans hfn)).symm
      exact ⟨by kernel_rfl, fun j t ht => by
        rw [Tryd.params10] at ht
        have hm : t ∈ [24, 24] := by simpa using Array.mem_of_getElem? ht
        have hall : ([24, 24].all fun u => !Tryd.prog.wantsStandIn u) = true := by kernel_rfl
        exact (show Tryd.prog.wantsStandIn t = false by simpa using List.all_eq_true.1 hall t hm)⟩)
    (by kernel_rfl)
end LawNothing
end Go.Proofs.YtppaffamlfghjaaDoor
