/-
  WideParts returns true for every input, and its arguments read behind the call as before: where the two package variables hold what the text lays.
-/
import Derived.Test.YtppaffamlfghjaaDoorRowW
import Derived.Test.YtppaffamlfghjaaDoorWideLawParts
import Derived.ChangeSlices
import Derived.Test.YtppaffamlfghjaaDoorTie
import Derived.Test.YtppaffamlfghjaaDoorCards
import Derived.SevenTiedAt
namespace Go.Proofs.YtppaffamlfghjaaDoor
open Go.ChangeShapes Go.WideShapes Go.ChangeAt Go.RowKit

section
variable {H : Type} {enc : TypeId × Value → H} {P : Program}
/-- A slice of numbers of sixteen bits, read. -/
theorem open_arg_u16s {W : World} {sp : Nat → Bool} {hd : Bool} {base b0 : Nat} {r : Reach} {t e : TypeId} {v : Value} {d : DataW H} {ps : List MemPlace} (ht : P.underlying t = some (.slice e)) (he : P.underlying e = some (.int .u16)) (hce : P.cellsOf e = 1)
    (hval : Value.okWide P W r b0 t v) (h : DataW.Trod enc P W base sp hd t v d ps) : ∃ (zs : List Int) (A : Option Addr) (c : Nat), v = .slice A zs.length c ∧ Sees W W.heap.size A zs.length c (zs.map (Value.int .u16)) ∧ ∀ z ∈ zs, 0 ≤ z ∧ z < 65536 := by
  obtain ⟨A, n, c, rfl⟩ := slice_of_ok ht hval
  obtain ⟨fuel, hd'⟩ := h
  rcases open_ints ht he hce hd' with ⟨hcs, _⟩ | ⟨a, len, cap, zs, hcs, _, hl, hm, hz, hx, hcell, hw⟩
  · have hcs : Value.slice A n c = .slice none 0 0 := by simpa [Value.cells] using hcs
    exact ⟨[], none, 0, hcs, Sees.none_, fun z hz => by cases hz⟩
  · have hcs : Value.slice A n c = .slice (some a) len cap := by simpa [Value.cells] using hcs
    have hzl : len ≤ zs.length := by rw [hz]; split <;> omega
    refine ⟨zs.take len, some a, cap, ?_, ⟨by simp, by simp; omega, hm, (fun h => by cases h), fun h0 => ?_⟩, fun z hz => ?_⟩
    · rw [List.length_take, Nat.min_eq_left hzl]; exact hcs
    · have h0' : 0 < len := by simp at h0; omega
      have hc0 := hcell 0 (by omega)
      have hb := World.block_lt_of_cell? _ _ hc0
      have hsp := World.cell?_spot hc0
      obtain ⟨b, o, s⟩ := a
      have e0 : (⟨b, o, s⟩ : Addr).add 0 = ⟨b, o, s⟩ := by simp [Addr.add]
      rw [e0] at hb hsp
      simp only at hsp hb
      subst hsp
      refine ⟨b, o, rfl, hb, fun j u hu => ?_⟩
      obtain ⟨hj, rfl⟩ := List.getElem?_eq_some_iff.1 hu
      simp only [List.length_map, List.length_take] at hj
      have := hcell j (by omega)
      rw [Addr.add_mid] at this
      rw [this]
      simp [show j < zs.length by omega]
    · have := hw z (List.mem_of_mem_take hz)
      have h2 : 0 ≤ z ∧ z ≤ 65535 := by simpa [Lit.wf, IntKind.min, IntKind.max, IntKind.signed, IntKind.bits] using this
      omega
end

theorem Tryd.cellsU16 : Tryd.prog.cellsOf 40 = 1 := by kernel_rfl

theorem WideParts_any (A A2 : Option Addr) (n c m c2 B : Nat) (b : List UInt8) (zs : List Int) (w : World) (h : Sees w B A n c (b.map bv)) (h2 : Sees w B A2 m c2 (zs.map (Value.int .u16))) (hz : ∀ z ∈ zs, 0 ≤ z ∧ z < 65536) (hB : B ≤ w.heap.size) (L : Laid w) :
    Calls Tryd.prog 8 #[.slice A n c, .slice A2 m c2] w (Yes w) := by
  rcases Nat.lt_or_ge 500 n with h3 | h3
  · exact WideParts_big A A2 n c m c2 w h3 L
  exact WideParts_small A A2 n c m c2 B b zs w h h2 hz hB h3 L

namespace LawParts
theorem contract (H : Type) (enc : TypeId × Value → H) (W : World) (base : Nat) (args : Array Value) (ds gs : List (DataW H)) (before : List MemPlace)
    (hval : ∀ (j : Nat) t v, Tryd.f8.params[j]? = some t → args[j]? = some v → Value.okWide Tryd.prog W .any base t v)
    (hW : DataW.Whole enc Tryd.prog Tryd.f8.params.toList Rows.widePartsSpec.vars false W args.toList ds gs before) (hL : laidMetH Tryd.prog laid2 W) :
    Calls Tryd.prog 8 args W fun e W' => ∃ v, e = .returned v ∧ Rows.widePartsSpec.post enc Tryd.prog Tryd.f8 false true false false W args v W' := by
  have hW' := hW
  obtain ⟨p, q, hA0, hV, rfl, _, _⟩ := hW
  have hA : DataW.TrodAll enc Tryd.prog W 0 (fun _ => true) true Tryd.f8.params.toList args.toList ds p := hA0
  rw [Tryd.params8] at hA hval
  obtain ⟨v0, v1, d0, d1, p0, p1, rfl, rfl, rfl, h0, h1⟩ := trodAll_two hA
  obtain ⟨rfl, rfl⟩ := trodVars_none hV
  obtain ⟨a, A, c, rfl, hs⟩ := open_arg_bytes Tryd.underlying24 Tryd.underlying5 Tryd.cellsU8 (hval 0 _ v0 rfl rfl) h0
  obtain ⟨zs, A2, c2, rfl, hs2, hz2⟩ := open_arg_u16s Tryd.underlying39 Tryd.underlying40 Tryd.cellsU16 (hval 1 _ v1 rfl rfl) h1
  refine (WideParts_any A A2 _ c _ c2 W.heap.size a zs W hs hs2 hz2 (Nat.le_refl _) (of_laid hL)).mono fun e W' ⟨he, hw⟩ => ?_
  subst he
  exact ⟨_, rfl, post_true Tryd.laidOut (by kernel_rfl) (by kernel_rfl) Tryd.underlying4 rfl hW' rfl rfl rfl hw⟩

set_option maxRecDepth 100000 in
theorem lifted (os : Os) (started : os.Started) (H : Type) (enc : TypeId × Value → H) :
    ReturnsInHanded {} Tryd.checked os 8 .any (fun w args => (Rows.widePartsSpec.pre enc Tryd.prog Tryd.f8 [] false w args ∧ laidMetH Tryd.prog laid2 w) ∧ sizedMet enc Tryd.prog Tryd.f8 (OpenSpec.ofChange Rows.widePartsSpec) false w args)
      (Rows.widePartsSpec.post enc Tryd.prog Tryd.f8 false true false false) := by
  refine returnsInHanded_of_change_and (C := Tryd.checked) (X := fun w _ => laidMetH Tryd.prog laid2 w) (fun _ _ _ hh h => h.of_heap hh) Tryd.own started (by kernel_rfl) Tryd.func8
    (ChangeSpec.witness_shaped (enc := enc) (C := Tryd.checked) (os := os) (X := fun w _ => laidMetH Tryd.prog laid2 w) false (World.doorLaid Tryd.prog 400 os) #[.slice none 0 0, .slice none 0 0] 8 rfl (World.shaped_of_RefB (by kernel_rfl) (by kernel_rfl)) (by kernel_rfl) (by kernel_rfl) (by kernel_rfl) (door_met os _)) ?_
  intro W base args ds gs before hval hW _ _ hL _
  exact contract H enc W base args ds gs before hval hW hL

theorem proved : Rows.WidePartsSaid :=
  OpenClaim.holds_of_wide 8 Tryd.f8 rfl rfl rfl rfl rfl rfl rfl ⟨rfl, rfl, rfl, rfl, rfl⟩ rfl rfl rfl rfl rfl (by kernel_rfl) Tryd.func8 (by kernel_rfl)
    (of_decide_eq_true (by kernel_rfl)) (by unfold Func.isWrapper; first | (rw [if_pos (by decide +kernel)]; kernel_rfl) | (rw [if_neg (by decide +kernel)]; exact ⟨rfl, rfl⟩))
    (fun os started H enc _ => lifted os started H enc)

theorem card : Rows.WidePartsCardSaid :=
  Claim7.holds_tied_plain_at .later [] [.data, .data] true (true, "dbd13bbf12ea53a7a518aadfeef294e664f8e798a744640d54fbc3820d8f89c4") false
    proved (fun _ h => by cases h) (by kernel_rfl) (fun _ h => by cases h) wideParts_row_tie rfl ⟨rfl, rfl⟩ (by kernel_rfl) rfl
    (fun f fn hf hfn => by
      obtain rfl : f = 8 := Option.some.inj ((show Tryd.prog.funcNamed "yashmak/yashmaklaw03.WideParts" = some 8 by kernel_rfl).symm.trans hf) |>.symm
      obtain rfl : fn = Tryd.f8 := (Option.some.inj (Tryd.func8.symm.trans hfn)).symm
      exact ⟨by kernel_rfl, fun j t ht => by
        rw [Tryd.params8] at ht
        have hm : t ∈ [24, 39] := by simpa using Array.mem_of_getElem? ht
        have hall : ([24, 39].all fun u => !Tryd.prog.wantsStandIn u) = true := by kernel_rfl
        exact (show Tryd.prog.wantsStandIn t = false by simpa using List.all_eq_true.1 hall t hm)⟩)
    (by kernel_rfl)
end LawParts
end Go.Proofs.YtppaffamlfghjaaDoor
