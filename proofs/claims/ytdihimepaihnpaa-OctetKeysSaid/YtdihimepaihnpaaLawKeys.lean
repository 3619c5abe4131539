/-
  OctetKeys: keys are ordered. For every input.
-/
import Derived.Test.YtdihimepaihnpaaAwake
import Derived.Test.YtdihimepaihnpaaEq
import Derived.Test.YtdihimepaihnpaaOrd
import Derived.Deep.RegionHeld3
namespace Go.Proofs.Ytdihimepaihnpaa
open Go.RowKit

attribute [local go_sem ↓] load_veil

/-- Three keys in three blocks of the call's own, and below them nothing has turned. -/
def Three (w : World) (a b c : List UInt8) (W : World) : Prop :=
  W.heap[w.heap.size]? = some (.cells (a.map bv).toArray 36 (0, 0)) ∧ W.heap[w.heap.size + 1]? = some (.cells (b.map bv).toArray 36 (0, 0)) ∧ W.heap[w.heap.size + 2]? = some (.cells (c.map bv).toArray 36 (0, 0)) ∧
    Below w.heap.size w W ∧ w.heap.size + 2 < W.heap.size

theorem Three.keep {w W W' : World} {a b c : List UInt8} (h : Three w a b c W) (hb : Below W.heap.size W W') : Three w a b c W' := by
  obtain ⟨h1, h2, h3, h4, h5⟩ := h
  exact ⟨(hb.block _ (by omega)).trans h1, (hb.block _ (by omega)).trans h2, (hb.block _ (by omega)).trans h3, h4.trans (hb.mono (by omega)), Nat.lt_of_lt_of_le h5 hb.size⟩

theorem Three.start (w : World) (a b c : List UInt8) {W : World} (hb : Below (((w.alloc (.cells (a.map bv).toArray 36)).alloc (.cells (b.map bv).toArray 36)).alloc (.cells (c.map bv).toArray 36)).heap.size (((w.alloc (.cells (a.map bv).toArray 36)).alloc (.cells (b.map bv).toArray 36)).alloc (.cells (c.map bv).toArray 36)) W) : Three w a b c W := by
  have e1 := heap_alloc2_old w (.cells (a.map bv).toArray 36) (.cells (b.map bv).toArray 36)
  have e2 := heap_alloc2_new w (.cells (a.map bv).toArray 36) (.cells (b.map bv).toArray 36)
  refine Three.keep ⟨?_, ?_, ?_, (((Below.refl _ w).alloc (Nat.le_refl _) _).alloc (by simp) _).alloc (by simp; omega) _, by simp⟩ hb
  · rw [Below.heap_alloc _ _ _ (by simp; omega)]; exact e1
  · rw [Below.heap_alloc _ _ _ (by simp)]; exact e2
  · have h := heap_alloc_new ((w.alloc (.cells (a.map bv).toArray 36)).alloc (.cells (b.map bv).toArray 36)) (.cells (c.map bv).toArray 36)
    simpa using h

theorem Three.loads {w W : World} {a b c : List UInt8} (h : Three w a b c W) (ha : a.length = 32) (hb : b.length = 32) (hc : c.length = 32) :
    (loadVeil 36 ⟨w.heap.size, 0, none⟩).run Try.prog W = .ok (kv a) W ∧ (loadVeil 36 ⟨w.heap.size + 1, 0, none⟩).run Try.prog W = .ok (kv b) W ∧ (loadVeil 36 ⟨w.heap.size + 1 + 1, 0, none⟩).run Try.prog W = .ok (kv c) W :=
  ⟨run_loadVeil ha h.1, run_loadVeil hb h.2.1, run_loadVeil hc h.2.2.1⟩

set_option maxRecDepth 100000 in
set_option maxHeartbeats 2000000 in
theorem OctetKeys_any (a b c : List UInt8) (w : World) (ha : a.length = 32) (hb : b.length = 32) (hc : c.length = 32) :
    Calls Try.prog 7 #[kv a, kv b, kv c] w fun e w' => e = .returned (.bool true) ∧ Below w.heap.size w w' := by
  have hz : (List.replicate 32 (0 : UInt8)).length = 32 := by simp
  obtain ⟨t, ht, htl⟩ : ∃ t, t = kturn a 0 ∧ t.length = 32 := ⟨_, rfl, by rw [kturn_length, ha]⟩
  have hab := fun W => Compare_any a b W ha hb
  have hbc := fun W => Compare_any b c W hb hc
  have hac := fun W => Compare_any a c W ha hc
  have ha0 := fun W => Compare_any a (List.replicate 32 0) W ha hz
  have hat := fun W => Compare_any a t W ha htl
  have hta := fun W => Compare_any t a W htl ha
  have htu := fun W => Turn_in a 0 W (by omega) (by omega) ha
  rw [show (0 : Int).toNat = 0 from rfl, ← ht] at htu
  have hxe : decide (a = b) = (kcmp a b == 0) := by rw [Bool.eq_iff_iff]; simp only [decide_eq_true_iff, beq_iff_eq]; exact ⟨fun h => by rw [h]; exact cmp_same b, fun h => cmp_zero h⟩
  have hu0 : 0 ≤ kcmp a (List.replicate 32 0) := by have := cmp_zeros a; rwa [ha] at this
  have hv : kcmp t a = - kcmp a t := cmp_anti a t
  have hvr : -1 ≤ kcmp a t ∧ kcmp a t ≤ 1 := by have := cmp_range a t; simp only [kcmp]; omega
  have htr : ¬ 0 < kcmp a b → ¬ 0 < kcmp b c → kcmp a c ≤ 0 := fun h1 h2 => cmp_trans (by simpa [kcmp] using h1) (by simpa [kcmp] using h2)
  rw [hv] at hta
  have heq : ∀ W, (binOp .eql 36 (.agg (a.map bv).toArray) (.agg (b.map bv).toArray)).run Try.prog W = .ok (.bool (kcmp a b == 0)) W := fun W => by
    have h := run_eql_key a b W ha hb
    unfold kv at h
    rw [h]
    simp only [hxe]
  have hgd : ∀ x y W, (eqGuard .eql 36 x y (.agg (a.map bv).toArray) (.agg (b.map bv).toArray)).run Try.prog W = .ok () W := fun x y W => run_guard_key x y a b W
  generalize kcmp a b = x at *
  generalize kcmp b c = y at *
  generalize kcmp a c = z at *
  generalize kcmp a (List.replicate 32 0) = u at *
  generalize kcmp a t = v at *
  have hsum : IntKind.i64.wrap (v + -v) = 0 := by rw [show v + -v = 0 by omega]; rfl
  have hu := Try.underlying36
  have hi1 : (Try.prog.info? 36).map (·.size) = some (a.map bv).length := by rw [Try.info32, List.length_map, ha]
  have hi2 : (Try.prog.info? 36).map (·.size) = some (b.map bv).length := by rw [Try.info32, List.length_map, hb]
  have HAB := Lib.hid hab
  have HBC := Lib.hid hbc
  have HAC := Lib.hid hac
  have HA0 := Lib.hid ha0
  have HAT := Lib.hid hat
  have HTA := Lib.hid hta
  have HTU := Lib.hid htu
  have HLa := Lib.hid ha
  have HLb := Lib.hid hb
  have HLc := Lib.hid hc
  clear hab hbc hac ha0 hat hta htu ha hb hc hz ht htl hxe hv
  have hcase : (0 < x) ∨ (x ≤ 0 ∧ 0 < y) ∨ (x ≤ 0 ∧ y ≤ 0 ∧ z ≤ 0) := by
    by_cases h1 : 0 < x
    · exact Or.inl h1
    · by_cases h2 : 0 < y
      · exact Or.inr (Or.inl ⟨by omega, h2⟩)
      · exact Or.inr (Or.inr ⟨by omega, by omega, htr h1 h2⟩)
  clear htr
  rcases hcase with hx | ⟨hx, hy⟩ | ⟨hx, hy, hz⟩
  all_goals unfold kv
  all_goals go_enter Try.func7, Try.ntmps7
  all_goals go_wp2_with (first
    | (go_at_call 8; refine (awake_any _).mono ?_
       rintro e w1 ⟨rfl, hb1⟩
       have hT := Three.start w a b c hb1
       obtain ⟨la, lb, lc⟩ := hT.loads HLa.out HLb.out HLc.out)
    | (go_at_call 22
       first | refine (HAB.out _).mono ?_ | refine (HBC.out _).mono ?_ | refine (HAC.out _).mono ?_
       rintro e w' ⟨rfl, hbk⟩
       have hT := hT.keep hbk
       obtain ⟨la, lb, lc⟩ := hT.loads HLa.out HLb.out HLc.out)
    | fail)
  · have hr1 := key_range hT.1
    have hr2 := key_range hT.2.1
    have hB1 := hT.2.2.2.1
    have hlt := Nat.lt_of_succ_lt hT.2.2.2.2
    clear hT
    refine wp_region_noPanic ?_
    refine wp_region_held_drew (S := (fun W => W.rangeAt w.heap.size 0 (a.map bv) ∧ W.rangeAt (w.heap.size + 1) 0 (b.map bv) ∧ Below w.heap.size w W ∧ w.heap.size + 1 < W.heap.size)) (by kernel_rfl) (by (try dsimp only); (first | (exact ⟨hr1, hr2, hB1.drew, hlt⟩) | (go_split_ands; exact ⟨range_below ‹_› hbk (by omega), range_below ‹_› hbk (by omega), Below.trans ‹_› (hbk.mono (by omega)), Nat.lt_of_lt_of_le ‹_› hbk.size⟩))) (fun hHeld => ?_)
    refine wpAnyH_take (i := 0) (v := ?_) rfl (by kernel_rfl) (by kernel_rfl) (by kernel_rfl) (fun _ _ _ h => h) (Or.inl ⟨by rfl, ?_⟩) (by assumption) ?_
    rotate_left
    · intro w hSw; (try dsimp only at hSw); go_simp <;> with_reducible rfl
    try simp only [Act.put, List.getElem_toArray, List.getElem_cons_succ, List.getElem_cons_zero, List.setIfInBounds_toArray, List.set_cons_zero, List.set_cons_succ]
    refine wpAnyH_take (i := 1) (v := ?_) rfl (by kernel_rfl) (by kernel_rfl) (by kernel_rfl) (fun _ _ _ h => h) (Or.inl ⟨by rfl, ?_⟩) (by assumption) ?_
    rotate_left
    · intro w hSw; (try dsimp only at hSw); go_simp <;> with_reducible rfl
    try simp only [Act.put, List.getElem_toArray, List.getElem_cons_succ, List.getElem_cons_zero, List.setIfInBounds_toArray, List.set_cons_zero, List.set_cons_succ]
    refine wpAnyH_take (i := 2) (v := ?_) rfl (by kernel_rfl) (by kernel_rfl) (by kernel_rfl) (fun _ _ _ h => h) (Or.inl ⟨by rfl, ?_⟩) (by assumption) ?_
    rotate_left
    · intro w hSw; (try dsimp only at hSw); go_simp <;> with_reducible rfl
    try simp only [Act.put, List.getElem_toArray, List.getElem_cons_succ, List.getElem_cons_zero, List.setIfInBounds_toArray, List.set_cons_zero, List.set_cons_succ]
    refine wpAnyH_take (i := 3) (v := ?_) rfl (by kernel_rfl) (by kernel_rfl) (by kernel_rfl) (fun _ _ _ h => h) (Or.inl ⟨by rfl, ?_⟩) (by assumption) ?_
    rotate_left
    · intro w hSw; (try dsimp only at hSw); go_simp <;> with_reducible rfl
    try simp only [Act.put, List.getElem_toArray, List.getElem_cons_succ, List.getElem_cons_zero, List.setIfInBounds_toArray, List.set_cons_zero, List.set_cons_succ]
    refine wpAnyH_take (i := 4) (v := ?_) rfl (by kernel_rfl) (by kernel_rfl) (by kernel_rfl) (fun _ _ _ h => h) (Or.inl ⟨by rfl, ?_⟩) (by assumption) ?_
    rotate_left
    · intro w hSw; (try dsimp only at hSw); go_simp <;> with_reducible rfl
    try simp only [Act.put, List.getElem_toArray, List.getElem_cons_succ, List.getElem_cons_zero, List.setIfInBounds_toArray, List.set_cons_zero, List.set_cons_succ]
    refine' wpAnyH_take (i := 5) (v := _) rfl (by kernel_rfl) (by kernel_rfl) (by kernel_rfl) (fun _ _ _ h => h) (yieldsIf_load_mid (by rfl) _ _ rfl _ _ rfl _ _ ?hS5_1 ?hu5_1 ?hd5_1 ?hi5_1) (by assumption) ?rest5_1
    case hS5_1 => intro w hSw; (try dsimp only at hSw); go_split_ands; assumption
    case hu5_1 => assumption
    case hd5_1 => rfl
    case hi5_1 => first | assumption | (simp only [*]; done)
    try simp only [Act.put, List.getElem_toArray, List.getElem_cons_succ, List.getElem_cons_zero, List.setIfInBounds_toArray, List.set_cons_zero, List.set_cons_succ]
    refine' wpAnyH_take (i := 6) (v := _) rfl (by kernel_rfl) (by kernel_rfl) (by kernel_rfl) (fun _ _ _ h => h) (yieldsIf_load_mid (by rfl) _ _ rfl _ _ rfl _ _ ?hS6_1 ?hu6_1 ?hd6_1 ?hi6_1) (by assumption) ?rest6_1
    case hS6_1 => intro w hSw; (try dsimp only at hSw); go_split_ands; assumption
    case hu6_1 => assumption
    case hd6_1 => rfl
    case hi6_1 => first | assumption | (simp only [*]; done)
    try simp only [Act.put, List.getElem_toArray, List.getElem_cons_succ, List.getElem_cons_zero, List.setIfInBounds_toArray, List.set_cons_zero, List.set_cons_succ]
    refine' wpAnyH_take (i := 9) (v := _) rfl (by kernel_rfl) (by kernel_rfl) (by kernel_rfl) (fun _ _ _ h => h) (yieldsIf_load_mid (by rfl) _ _ rfl _ _ rfl _ _ ?hS9_1 ?hu9_1 ?hd9_1 ?hi9_1) (by assumption) ?rest9_1
    case hS9_1 => intro w hSw; (try dsimp only at hSw); go_split_ands; assumption
    case hu9_1 => assumption
    case hd9_1 => rfl
    case hi9_1 => first | assumption | (simp only [*]; done)
    try simp only [Act.put, List.getElem_toArray, List.getElem_cons_succ, List.getElem_cons_zero, List.setIfInBounds_toArray, List.set_cons_zero, List.set_cons_succ]
    refine' wpAnyH_take (i := 10) (v := _) rfl (by kernel_rfl) (by kernel_rfl) (by kernel_rfl) (fun _ _ _ h => h) (yieldsIf_load_mid (by rfl) _ _ rfl _ _ rfl _ _ ?hS10_1 ?hu10_1 ?hd10_1 ?hi10_1) (by assumption) ?rest10_1
    case hS10_1 => intro w hSw; (try dsimp only at hSw); go_split_ands; assumption
    case hu10_1 => assumption
    case hd10_1 => rfl
    case hi10_1 => first | assumption | (simp only [*]; done)
    try simp only [Act.put, List.getElem_toArray, List.getElem_cons_succ, List.getElem_cons_zero, List.setIfInBounds_toArray, List.set_cons_zero, List.set_cons_succ]
    refine wpAnyH_take (i := 11) (v := ?_) rfl (by kernel_rfl) (by kernel_rfl) (by kernel_rfl) (fun _ _ _ h => h) (Or.inl ⟨by rfl, ?_⟩) (by assumption) ?_
    rotate_left
    · intro w hSw; (try dsimp only at hSw); go_simp <;> with_reducible rfl
    try simp only [Act.put, List.getElem_toArray, List.getElem_cons_succ, List.getElem_cons_zero, List.setIfInBounds_toArray, List.set_cons_zero, List.set_cons_succ]
    refine wpAnyH_ready (rs := [7]) (by kernel_rfl) (by simp) ?_
    refine AllReadyH.cons rfl (fun K hK => ?_) AllReadyH.nil
    simp only [List.getElem_toArray, List.getElem_cons_succ, List.getElem_cons_zero]
    go_simp
    (first | (go_at_call 20; refine (HTU.out _).mono ?_; rintro e w' ⟨rfl, hbk⟩) | (go_at_call 22; (first | refine (HAB.out _).mono ?_ | refine (HAT.out _).mono ?_ | refine (HTA.out _).mono ?_ | refine (HA0.out _).mono ?_); rintro e w' ⟨rfl, hbk⟩))
    go_wp2_with fail
    refine hK.out _ _ ?_ (fun hHeld => ?_)
    · (try dsimp only); (first | (exact ⟨hr1, hr2, hB1.drew, hlt⟩) | (go_split_ands; exact ⟨range_below ‹_› hbk (by omega), range_below ‹_› hbk (by omega), Below.trans ‹_› (hbk.mono (by omega)), Nat.lt_of_lt_of_le ‹_› hbk.size⟩))
    clear hK K
    try simp only [Act.put, List.getElem_toArray, List.getElem_cons_succ, List.getElem_cons_zero, List.setIfInBounds_toArray, List.set_cons_zero, List.set_cons_succ]
    refine wpAnyH_take (i := 8) (v := ?_) rfl (by kernel_rfl) (by kernel_rfl) (by kernel_rfl) (fun _ _ _ h => h) (Or.inl ⟨by rfl, ?_⟩) (by assumption) ?_
    rotate_left
    · intro w hSw; (try dsimp only at hSw); go_simp <;> with_reducible rfl
    try simp only [Act.put, List.getElem_toArray, List.getElem_cons_succ, List.getElem_cons_zero, List.setIfInBounds_toArray, List.set_cons_zero, List.set_cons_succ]
    refine wpAnyH_take (i := 12) (v := ?_) rfl (by kernel_rfl) (by kernel_rfl) (by kernel_rfl) (fun _ _ _ h => h) (Or.inl ⟨by rfl, ?_⟩) (by assumption) ?_
    rotate_left
    · intro w hSw; (try dsimp only at hSw); go_simp <;> with_reducible rfl
    try simp only [Act.put, List.getElem_toArray, List.getElem_cons_succ, List.getElem_cons_zero, List.setIfInBounds_toArray, List.set_cons_zero, List.set_cons_succ]
    refine wpAnyH_take (i := 13) (v := ?_) rfl (by kernel_rfl) (by kernel_rfl) (by kernel_rfl) (fun _ _ _ h => h) (Or.inl ⟨by rfl, ?_⟩) (by assumption) ?_
    rotate_left
    · intro w hSw; (try dsimp only at hSw); go_simp <;> with_reducible rfl
    try simp only [Act.put, List.getElem_toArray, List.getElem_cons_succ, List.getElem_cons_zero, List.setIfInBounds_toArray, List.set_cons_zero, List.set_cons_succ]
    refine wpAnyH_take (i := 14) (v := ?_) rfl (by kernel_rfl) (by kernel_rfl) (by kernel_rfl) (fun _ _ _ h => h) (Or.inl ⟨by rfl, ?_⟩) (by assumption) ?_
    rotate_left
    · intro w hSw; (try dsimp only at hSw); go_simp <;> with_reducible rfl
    try simp only [Act.put, List.getElem_toArray, List.getElem_cons_succ, List.getElem_cons_zero, List.setIfInBounds_toArray, List.set_cons_zero, List.set_cons_succ]
    refine' wpAnyH_take (i := 15) (v := _) rfl (by kernel_rfl) (by kernel_rfl) (by kernel_rfl) (fun _ _ _ h => h) (yieldsIf_load_mid (by rfl) _ _ rfl _ _ rfl _ _ ?hS15_1 ?hu15_1 ?hd15_1 ?hi15_1) (by assumption) ?rest15_1
    case hS15_1 => intro w hSw; (try dsimp only at hSw); go_split_ands; assumption
    case hu15_1 => assumption
    case hd15_1 => rfl
    case hi15_1 => first | assumption | (simp only [*]; done)
    try simp only [Act.put, List.getElem_toArray, List.getElem_cons_succ, List.getElem_cons_zero, List.setIfInBounds_toArray, List.set_cons_zero, List.set_cons_succ]
    refine wpAnyH_take (i := 16) (v := ?_) rfl (by kernel_rfl) (by kernel_rfl) (by kernel_rfl) (fun _ _ _ h => h) (Or.inl ⟨by rfl, ?_⟩) (by assumption) ?_
    rotate_left
    · intro w hSw; (try dsimp only at hSw); go_simp <;> with_reducible rfl
    try simp only [Act.put, List.getElem_toArray, List.getElem_cons_succ, List.getElem_cons_zero, List.setIfInBounds_toArray, List.set_cons_zero, List.set_cons_succ]
    refine wpAnyH_ready (rs := [17]) (by kernel_rfl) (by simp) ?_
    refine AllReadyH.cons rfl (fun K hK => ?_) AllReadyH.nil
    simp only [List.getElem_toArray, List.getElem_cons_succ, List.getElem_cons_zero]
    go_simp
    (first | (go_at_call 20; refine (HTU.out _).mono ?_; rintro e w' ⟨rfl, hbk⟩) | (go_at_call 22; (first | refine (HAB.out _).mono ?_ | refine (HAT.out _).mono ?_ | refine (HTA.out _).mono ?_ | refine (HA0.out _).mono ?_); rintro e w' ⟨rfl, hbk⟩))
    go_wp2_with fail
    refine hK.out _ _ ?_ (fun hHeld => ?_)
    · (try dsimp only); (first | (exact ⟨hr1, hr2, hB1.drew, hlt⟩) | (go_split_ands; exact ⟨range_below ‹_› hbk (by omega), range_below ‹_› hbk (by omega), Below.trans ‹_› (hbk.mono (by omega)), Nat.lt_of_lt_of_le ‹_› hbk.size⟩))
    clear hK K
    try simp only [Act.put, List.getElem_toArray, List.getElem_cons_succ, List.getElem_cons_zero, List.setIfInBounds_toArray, List.set_cons_zero, List.set_cons_succ]
    refine wpAnyH_take (i := 18) (v := ?_) rfl (by kernel_rfl) (by kernel_rfl) (by kernel_rfl) (fun _ _ _ h => h) (Or.inl ⟨by rfl, ?_⟩) (by assumption) ?_
    rotate_left
    · intro w hSw; (try dsimp only at hSw); go_simp <;> with_reducible rfl
    try simp only [Act.put, List.getElem_toArray, List.getElem_cons_succ, List.getElem_cons_zero, List.setIfInBounds_toArray, List.set_cons_zero, List.set_cons_succ]
    refine wpAnyH_take (i := 19) (v := ?_) rfl (by kernel_rfl) (by kernel_rfl) (by kernel_rfl) (fun _ _ _ h => h) (Or.inl ⟨by rfl, ?_⟩) (by assumption) ?_
    rotate_left
    · intro w hSw; (try dsimp only at hSw); go_simp <;> with_reducible rfl
    try simp only [Act.put, List.getElem_toArray, List.getElem_cons_succ, List.getElem_cons_zero, List.setIfInBounds_toArray, List.set_cons_zero, List.set_cons_succ]
    refine wpAnyH_take (i := 20) (v := ?_) rfl (by kernel_rfl) (by kernel_rfl) (by kernel_rfl) (fun _ _ _ h => h) (Or.inl ⟨by rfl, ?_⟩) (by assumption) ?_
    rotate_left
    · intro w hSw; (try dsimp only at hSw); go_simp <;> with_reducible rfl
    try simp only [Act.put, List.getElem_toArray, List.getElem_cons_succ, List.getElem_cons_zero, List.setIfInBounds_toArray, List.set_cons_zero, List.set_cons_succ]
    refine' wpAnyH_take (i := 21) (v := _) rfl (by kernel_rfl) (by kernel_rfl) (by kernel_rfl) (fun _ _ _ h => h) (yieldsIf_load_mid (by rfl) _ _ rfl _ _ rfl _ _ ?hS21_1 ?hu21_1 ?hd21_1 ?hi21_1) (by assumption) ?rest21_1
    case hS21_1 => intro w hSw; (try dsimp only at hSw); go_split_ands; assumption
    case hu21_1 => assumption
    case hd21_1 => rfl
    case hi21_1 => first | assumption | (simp only [*]; done)
    try simp only [Act.put, List.getElem_toArray, List.getElem_cons_succ, List.getElem_cons_zero, List.setIfInBounds_toArray, List.set_cons_zero, List.set_cons_succ]
    refine' wpAnyH_take (i := 22) (v := _) rfl (by kernel_rfl) (by kernel_rfl) (by kernel_rfl) (fun _ _ _ h => h) (yieldsIf_load_mid (by rfl) _ _ rfl _ _ rfl _ _ ?hS22_1 ?hu22_1 ?hd22_1 ?hi22_1) (by assumption) ?rest22_1
    case hS22_1 => intro w hSw; (try dsimp only at hSw); go_split_ands; assumption
    case hu22_1 => assumption
    case hd22_1 => rfl
    case hi22_1 => first | assumption | (simp only [*]; done)
    try simp only [Act.put, List.getElem_toArray, List.getElem_cons_succ, List.getElem_cons_zero, List.setIfInBounds_toArray, List.set_cons_zero, List.set_cons_succ]
    refine' wpAnyH_take (i := 25) (v := _) rfl (by kernel_rfl) (by kernel_rfl) (by kernel_rfl) (fun _ _ _ h => h) (yieldsIf_load_mid (by rfl) _ _ rfl _ _ rfl _ _ ?hS25_1 ?hu25_1 ?hd25_1 ?hi25_1) (by assumption) ?rest25_1
    case hS25_1 => intro w hSw; (try dsimp only at hSw); go_split_ands; assumption
    case hu25_1 => assumption
    case hd25_1 => rfl
    case hi25_1 => first | assumption | (simp only [*]; done)
    try simp only [Act.put, List.getElem_toArray, List.getElem_cons_succ, List.getElem_cons_zero, List.setIfInBounds_toArray, List.set_cons_zero, List.set_cons_succ]
    refine' wpAnyH_take (i := 27) (v := _) rfl (by kernel_rfl) (by kernel_rfl) (by kernel_rfl) (fun _ _ _ h => h) (yieldsIf_load_mid (by rfl) _ _ rfl _ _ rfl _ _ ?hS27_1 ?hu27_1 ?hd27_1 ?hi27_1) (by assumption) ?rest27_1
    case hS27_1 => intro w hSw; (try dsimp only at hSw); go_split_ands; assumption
    case hu27_1 => assumption
    case hd27_1 => rfl
    case hi27_1 => first | assumption | (simp only [*]; done)
    try simp only [Act.put, List.getElem_toArray, List.getElem_cons_succ, List.getElem_cons_zero, List.setIfInBounds_toArray, List.set_cons_zero, List.set_cons_succ]
    refine wpAnyH_ready (rs := [23]) (by kernel_rfl) (by simp) ?_
    refine AllReadyH.cons rfl (fun K hK => ?_) AllReadyH.nil
    simp only [List.getElem_toArray, List.getElem_cons_succ, List.getElem_cons_zero]
    go_simp
    (first | (go_at_call 20; refine (HTU.out _).mono ?_; rintro e w' ⟨rfl, hbk⟩) | (go_at_call 22; (first | refine (HAB.out _).mono ?_ | refine (HAT.out _).mono ?_ | refine (HTA.out _).mono ?_ | refine (HA0.out _).mono ?_); rintro e w' ⟨rfl, hbk⟩))
    go_wp2_with fail
    refine hK.out _ _ ?_ (fun hHeld => ?_)
    · (try dsimp only); (first | (exact ⟨hr1, hr2, hB1.drew, hlt⟩) | (go_split_ands; exact ⟨range_below ‹_› hbk (by omega), range_below ‹_› hbk (by omega), Below.trans ‹_› (hbk.mono (by omega)), Nat.lt_of_lt_of_le ‹_› hbk.size⟩))
    clear hK K
    try simp only [Act.put, List.getElem_toArray, List.getElem_cons_succ, List.getElem_cons_zero, List.setIfInBounds_toArray, List.set_cons_zero, List.set_cons_succ]
    refine wpAnyH_ready (rs := [24]) (by kernel_rfl) (by simp) ?_
    refine AllReadyH.cons rfl (fun K hK => ?_) AllReadyH.nil
    simp only [List.getElem_toArray, List.getElem_cons_succ, List.getElem_cons_zero]
    go_simp
    (first | (go_at_call 20; refine (HTU.out _).mono ?_; rintro e w' ⟨rfl, hbk⟩) | (go_at_call 22; (first | refine (HAB.out _).mono ?_ | refine (HAT.out _).mono ?_ | refine (HTA.out _).mono ?_ | refine (HA0.out _).mono ?_); rintro e w' ⟨rfl, hbk⟩))
    go_wp2_with fail
    refine hK.out _ _ ?_ (fun hHeld => ?_)
    · (try dsimp only); (first | (exact ⟨hr1, hr2, hB1.drew, hlt⟩) | (go_split_ands; exact ⟨range_below ‹_› hbk (by omega), range_below ‹_› hbk (by omega), Below.trans ‹_› (hbk.mono (by omega)), Nat.lt_of_lt_of_le ‹_› hbk.size⟩))
    clear hK K
    try simp only [Act.put, List.getElem_toArray, List.getElem_cons_succ, List.getElem_cons_zero, List.setIfInBounds_toArray, List.set_cons_zero, List.set_cons_succ]
    refine wpAnyH_ready (rs := [26]) (by kernel_rfl) (by simp) ?_
    refine AllReadyH.cons rfl (fun K hK => ?_) AllReadyH.nil
    simp only [List.getElem_toArray, List.getElem_cons_succ, List.getElem_cons_zero]
    go_simp
    (first | (go_at_call 20; refine (HTU.out _).mono ?_; rintro e w' ⟨rfl, hbk⟩) | (go_at_call 22; (first | refine (HAB.out _).mono ?_ | refine (HAT.out _).mono ?_ | refine (HTA.out _).mono ?_ | refine (HA0.out _).mono ?_); rintro e w' ⟨rfl, hbk⟩))
    go_wp2_with fail
    refine hK.out _ _ ?_ (fun hHeld => ?_)
    · (try dsimp only); (first | (exact ⟨hr1, hr2, hB1.drew, hlt⟩) | (go_split_ands; exact ⟨range_below ‹_› hbk (by omega), range_below ‹_› hbk (by omega), Below.trans ‹_› (hbk.mono (by omega)), Nat.lt_of_lt_of_le ‹_› hbk.size⟩))
    clear hK K
    try simp only [Act.put, List.getElem_toArray, List.getElem_cons_succ, List.getElem_cons_zero, List.setIfInBounds_toArray, List.set_cons_zero, List.set_cons_succ]
    refine wpAnyH_ready (rs := [28]) (by kernel_rfl) (by simp) ?_
    refine AllReadyH.cons rfl (fun K hK => ?_) AllReadyH.nil
    simp only [List.getElem_toArray, List.getElem_cons_succ, List.getElem_cons_zero]
    go_simp
    (first | (go_at_call 20; refine (HTU.out _).mono ?_; rintro e w' ⟨rfl, hbk⟩) | (go_at_call 22; (first | refine (HAB.out _).mono ?_ | refine (HAT.out _).mono ?_ | refine (HTA.out _).mono ?_ | refine (HA0.out _).mono ?_); rintro e w' ⟨rfl, hbk⟩))
    go_wp2_with fail
    refine hK.out _ _ ?_ (fun hHeld => ?_)
    · (try dsimp only); (first | (exact ⟨hr1, hr2, hB1.drew, hlt⟩) | (go_split_ands; exact ⟨range_below ‹_› hbk (by omega), range_below ‹_› hbk (by omega), Below.trans ‹_› (hbk.mono (by omega)), Nat.lt_of_lt_of_le ‹_› hbk.size⟩))
    clear hK K
    try simp only [Act.put, List.getElem_toArray, List.getElem_cons_succ, List.getElem_cons_zero, List.setIfInBounds_toArray, List.set_cons_zero, List.set_cons_succ]
    refine wpAnyH_take (i := 29) (v := ?_) rfl (by kernel_rfl) (by kernel_rfl) (by kernel_rfl) (fun _ _ _ h => h) (Or.inl ⟨by rfl, ?_⟩) (by assumption) ?_
    rotate_left
    · intro w hSw; (try dsimp only at hSw); go_simp <;> with_reducible rfl
    try simp only [Act.put, List.getElem_toArray, List.getElem_cons_succ, List.getElem_cons_zero, List.setIfInBounds_toArray, List.set_cons_zero, List.set_cons_succ]
    refine wpAnyH_take (i := 30) (v := ?_) rfl (by kernel_rfl) (by kernel_rfl) (by kernel_rfl) (fun _ _ _ h => h) (Or.inl ⟨by rfl, ?_⟩) (by assumption) ?_
    rotate_left
    · intro w hSw; (try dsimp only at hSw); go_simp <;> with_reducible rfl
    try simp only [Act.put, List.getElem_toArray, List.getElem_cons_succ, List.getElem_cons_zero, List.setIfInBounds_toArray, List.set_cons_zero, List.set_cons_succ]
    refine wpAnyH_take (i := 31) (v := ?_) rfl (by kernel_rfl) (by kernel_rfl) (by kernel_rfl) (fun _ _ _ h => h) (Or.inl ⟨by rfl, ?_⟩) (by assumption) ?_
    rotate_left
    · intro w hSw; (try dsimp only at hSw); go_simp <;> with_reducible rfl
    try simp only [Act.put, List.getElem_toArray, List.getElem_cons_succ, List.getElem_cons_zero, List.setIfInBounds_toArray, List.set_cons_zero, List.set_cons_succ]
    refine wpAnyH_take (i := 32) (v := ?_) rfl (by kernel_rfl) (by kernel_rfl) (by kernel_rfl) (fun _ _ _ h => h) (Or.inl ⟨by rfl, ?_⟩) (by assumption) ?_
    rotate_left
    · intro w hSw; (try dsimp only at hSw); go_simp <;> with_reducible rfl
    try simp only [Act.put, List.getElem_toArray, List.getElem_cons_succ, List.getElem_cons_zero, List.setIfInBounds_toArray, List.set_cons_zero, List.set_cons_succ]
    refine wpAnyH_done (by kernel_rfl) ?_ _
    refine NoPanic.normal ?_
    go_split_ands
    go_wp2
    go_ret
    exact ⟨rfl, by assumption⟩
  · have hr1 := key_range hT.1
    have hr2 := key_range hT.2.1
    have hB1 := hT.2.2.2.1
    have hlt := Nat.lt_of_succ_lt hT.2.2.2.2
    clear hT
    refine wp_region_noPanic ?_
    refine wp_region_held_drew (S := (fun W => W.rangeAt w.heap.size 0 (a.map bv) ∧ W.rangeAt (w.heap.size + 1) 0 (b.map bv) ∧ Below w.heap.size w W ∧ w.heap.size + 1 < W.heap.size)) (by kernel_rfl) (by (try dsimp only); (first | (exact ⟨hr1, hr2, hB1.drew, hlt⟩) | (go_split_ands; exact ⟨range_below ‹_› hbk (by omega), range_below ‹_› hbk (by omega), Below.trans ‹_› (hbk.mono (by omega)), Nat.lt_of_lt_of_le ‹_› hbk.size⟩))) (fun hHeld => ?_)
    refine wpAnyH_take (i := 0) (v := ?_) rfl (by kernel_rfl) (by kernel_rfl) (by kernel_rfl) (fun _ _ _ h => h) (Or.inl ⟨by rfl, ?_⟩) (by assumption) ?_
    rotate_left
    · intro w hSw; (try dsimp only at hSw); go_simp <;> with_reducible rfl
    try simp only [Act.put, List.getElem_toArray, List.getElem_cons_succ, List.getElem_cons_zero, List.setIfInBounds_toArray, List.set_cons_zero, List.set_cons_succ]
    refine wpAnyH_take (i := 1) (v := ?_) rfl (by kernel_rfl) (by kernel_rfl) (by kernel_rfl) (fun _ _ _ h => h) (Or.inl ⟨by rfl, ?_⟩) (by assumption) ?_
    rotate_left
    · intro w hSw; (try dsimp only at hSw); go_simp <;> with_reducible rfl
    try simp only [Act.put, List.getElem_toArray, List.getElem_cons_succ, List.getElem_cons_zero, List.setIfInBounds_toArray, List.set_cons_zero, List.set_cons_succ]
    refine wpAnyH_take (i := 2) (v := ?_) rfl (by kernel_rfl) (by kernel_rfl) (by kernel_rfl) (fun _ _ _ h => h) (Or.inl ⟨by rfl, ?_⟩) (by assumption) ?_
    rotate_left
    · intro w hSw; (try dsimp only at hSw); go_simp <;> with_reducible rfl
    try simp only [Act.put, List.getElem_toArray, List.getElem_cons_succ, List.getElem_cons_zero, List.setIfInBounds_toArray, List.set_cons_zero, List.set_cons_succ]
    refine wpAnyH_take (i := 3) (v := ?_) rfl (by kernel_rfl) (by kernel_rfl) (by kernel_rfl) (fun _ _ _ h => h) (Or.inl ⟨by rfl, ?_⟩) (by assumption) ?_
    rotate_left
    · intro w hSw; (try dsimp only at hSw); go_simp <;> with_reducible rfl
    try simp only [Act.put, List.getElem_toArray, List.getElem_cons_succ, List.getElem_cons_zero, List.setIfInBounds_toArray, List.set_cons_zero, List.set_cons_succ]
    refine wpAnyH_take (i := 4) (v := ?_) rfl (by kernel_rfl) (by kernel_rfl) (by kernel_rfl) (fun _ _ _ h => h) (Or.inl ⟨by rfl, ?_⟩) (by assumption) ?_
    rotate_left
    · intro w hSw; (try dsimp only at hSw); go_simp <;> with_reducible rfl
    try simp only [Act.put, List.getElem_toArray, List.getElem_cons_succ, List.getElem_cons_zero, List.setIfInBounds_toArray, List.set_cons_zero, List.set_cons_succ]
    refine' wpAnyH_take (i := 5) (v := _) rfl (by kernel_rfl) (by kernel_rfl) (by kernel_rfl) (fun _ _ _ h => h) (yieldsIf_load_mid (by rfl) _ _ rfl _ _ rfl _ _ ?hS5_2 ?hu5_2 ?hd5_2 ?hi5_2) (by assumption) ?rest5_2
    case hS5_2 => intro w hSw; (try dsimp only at hSw); go_split_ands; assumption
    case hu5_2 => assumption
    case hd5_2 => rfl
    case hi5_2 => first | assumption | (simp only [*]; done)
    try simp only [Act.put, List.getElem_toArray, List.getElem_cons_succ, List.getElem_cons_zero, List.setIfInBounds_toArray, List.set_cons_zero, List.set_cons_succ]
    refine' wpAnyH_take (i := 6) (v := _) rfl (by kernel_rfl) (by kernel_rfl) (by kernel_rfl) (fun _ _ _ h => h) (yieldsIf_load_mid (by rfl) _ _ rfl _ _ rfl _ _ ?hS6_2 ?hu6_2 ?hd6_2 ?hi6_2) (by assumption) ?rest6_2
    case hS6_2 => intro w hSw; (try dsimp only at hSw); go_split_ands; assumption
    case hu6_2 => assumption
    case hd6_2 => rfl
    case hi6_2 => first | assumption | (simp only [*]; done)
    try simp only [Act.put, List.getElem_toArray, List.getElem_cons_succ, List.getElem_cons_zero, List.setIfInBounds_toArray, List.set_cons_zero, List.set_cons_succ]
    refine' wpAnyH_take (i := 9) (v := _) rfl (by kernel_rfl) (by kernel_rfl) (by kernel_rfl) (fun _ _ _ h => h) (yieldsIf_load_mid (by rfl) _ _ rfl _ _ rfl _ _ ?hS9_2 ?hu9_2 ?hd9_2 ?hi9_2) (by assumption) ?rest9_2
    case hS9_2 => intro w hSw; (try dsimp only at hSw); go_split_ands; assumption
    case hu9_2 => assumption
    case hd9_2 => rfl
    case hi9_2 => first | assumption | (simp only [*]; done)
    try simp only [Act.put, List.getElem_toArray, List.getElem_cons_succ, List.getElem_cons_zero, List.setIfInBounds_toArray, List.set_cons_zero, List.set_cons_succ]
    refine' wpAnyH_take (i := 10) (v := _) rfl (by kernel_rfl) (by kernel_rfl) (by kernel_rfl) (fun _ _ _ h => h) (yieldsIf_load_mid (by rfl) _ _ rfl _ _ rfl _ _ ?hS10_2 ?hu10_2 ?hd10_2 ?hi10_2) (by assumption) ?rest10_2
    case hS10_2 => intro w hSw; (try dsimp only at hSw); go_split_ands; assumption
    case hu10_2 => assumption
    case hd10_2 => rfl
    case hi10_2 => first | assumption | (simp only [*]; done)
    try simp only [Act.put, List.getElem_toArray, List.getElem_cons_succ, List.getElem_cons_zero, List.setIfInBounds_toArray, List.set_cons_zero, List.set_cons_succ]
    refine wpAnyH_take (i := 11) (v := ?_) rfl (by kernel_rfl) (by kernel_rfl) (by kernel_rfl) (fun _ _ _ h => h) (Or.inl ⟨by rfl, ?_⟩) (by assumption) ?_
    rotate_left
    · intro w hSw; (try dsimp only at hSw); go_simp <;> with_reducible rfl
    try simp only [Act.put, List.getElem_toArray, List.getElem_cons_succ, List.getElem_cons_zero, List.setIfInBounds_toArray, List.set_cons_zero, List.set_cons_succ]
    refine wpAnyH_ready (rs := [7]) (by kernel_rfl) (by simp) ?_
    refine AllReadyH.cons rfl (fun K hK => ?_) AllReadyH.nil
    simp only [List.getElem_toArray, List.getElem_cons_succ, List.getElem_cons_zero]
    go_simp
    (first | (go_at_call 20; refine (HTU.out _).mono ?_; rintro e w' ⟨rfl, hbk⟩) | (go_at_call 22; (first | refine (HAB.out _).mono ?_ | refine (HAT.out _).mono ?_ | refine (HTA.out _).mono ?_ | refine (HA0.out _).mono ?_); rintro e w' ⟨rfl, hbk⟩))
    go_wp2_with fail
    refine hK.out _ _ ?_ (fun hHeld => ?_)
    · (try dsimp only); (first | (exact ⟨hr1, hr2, hB1.drew, hlt⟩) | (go_split_ands; exact ⟨range_below ‹_› hbk (by omega), range_below ‹_› hbk (by omega), Below.trans ‹_› (hbk.mono (by omega)), Nat.lt_of_lt_of_le ‹_› hbk.size⟩))
    clear hK K
    try simp only [Act.put, List.getElem_toArray, List.getElem_cons_succ, List.getElem_cons_zero, List.setIfInBounds_toArray, List.set_cons_zero, List.set_cons_succ]
    refine wpAnyH_take (i := 8) (v := ?_) rfl (by kernel_rfl) (by kernel_rfl) (by kernel_rfl) (fun _ _ _ h => h) (Or.inl ⟨by rfl, ?_⟩) (by assumption) ?_
    rotate_left
    · intro w hSw; (try dsimp only at hSw); go_simp <;> with_reducible rfl
    try simp only [Act.put, List.getElem_toArray, List.getElem_cons_succ, List.getElem_cons_zero, List.setIfInBounds_toArray, List.set_cons_zero, List.set_cons_succ]
    refine wpAnyH_take (i := 12) (v := ?_) rfl (by kernel_rfl) (by kernel_rfl) (by kernel_rfl) (fun _ _ _ h => h) (Or.inl ⟨by rfl, ?_⟩) (by assumption) ?_
    rotate_left
    · intro w hSw; (try dsimp only at hSw); go_simp <;> with_reducible rfl
    try simp only [Act.put, List.getElem_toArray, List.getElem_cons_succ, List.getElem_cons_zero, List.setIfInBounds_toArray, List.set_cons_zero, List.set_cons_succ]
    refine wpAnyH_take (i := 13) (v := ?_) rfl (by kernel_rfl) (by kernel_rfl) (by kernel_rfl) (fun _ _ _ h => h) (Or.inl ⟨by rfl, ?_⟩) (by assumption) ?_
    rotate_left
    · intro w hSw; (try dsimp only at hSw); go_simp <;> with_reducible rfl
    try simp only [Act.put, List.getElem_toArray, List.getElem_cons_succ, List.getElem_cons_zero, List.setIfInBounds_toArray, List.set_cons_zero, List.set_cons_succ]
    refine wpAnyH_take (i := 14) (v := ?_) rfl (by kernel_rfl) (by kernel_rfl) (by kernel_rfl) (fun _ _ _ h => h) (Or.inl ⟨by rfl, ?_⟩) (by assumption) ?_
    rotate_left
    · intro w hSw; (try dsimp only at hSw); go_simp <;> with_reducible rfl
    try simp only [Act.put, List.getElem_toArray, List.getElem_cons_succ, List.getElem_cons_zero, List.setIfInBounds_toArray, List.set_cons_zero, List.set_cons_succ]
    refine' wpAnyH_take (i := 15) (v := _) rfl (by kernel_rfl) (by kernel_rfl) (by kernel_rfl) (fun _ _ _ h => h) (yieldsIf_load_mid (by rfl) _ _ rfl _ _ rfl _ _ ?hS15_2 ?hu15_2 ?hd15_2 ?hi15_2) (by assumption) ?rest15_2
    case hS15_2 => intro w hSw; (try dsimp only at hSw); go_split_ands; assumption
    case hu15_2 => assumption
    case hd15_2 => rfl
    case hi15_2 => first | assumption | (simp only [*]; done)
    try simp only [Act.put, List.getElem_toArray, List.getElem_cons_succ, List.getElem_cons_zero, List.setIfInBounds_toArray, List.set_cons_zero, List.set_cons_succ]
    refine wpAnyH_take (i := 16) (v := ?_) rfl (by kernel_rfl) (by kernel_rfl) (by kernel_rfl) (fun _ _ _ h => h) (Or.inl ⟨by rfl, ?_⟩) (by assumption) ?_
    rotate_left
    · intro w hSw; (try dsimp only at hSw); go_simp <;> with_reducible rfl
    try simp only [Act.put, List.getElem_toArray, List.getElem_cons_succ, List.getElem_cons_zero, List.setIfInBounds_toArray, List.set_cons_zero, List.set_cons_succ]
    refine wpAnyH_ready (rs := [17]) (by kernel_rfl) (by simp) ?_
    refine AllReadyH.cons rfl (fun K hK => ?_) AllReadyH.nil
    simp only [List.getElem_toArray, List.getElem_cons_succ, List.getElem_cons_zero]
    go_simp
    (first | (go_at_call 20; refine (HTU.out _).mono ?_; rintro e w' ⟨rfl, hbk⟩) | (go_at_call 22; (first | refine (HAB.out _).mono ?_ | refine (HAT.out _).mono ?_ | refine (HTA.out _).mono ?_ | refine (HA0.out _).mono ?_); rintro e w' ⟨rfl, hbk⟩))
    go_wp2_with fail
    refine hK.out _ _ ?_ (fun hHeld => ?_)
    · (try dsimp only); (first | (exact ⟨hr1, hr2, hB1.drew, hlt⟩) | (go_split_ands; exact ⟨range_below ‹_› hbk (by omega), range_below ‹_› hbk (by omega), Below.trans ‹_› (hbk.mono (by omega)), Nat.lt_of_lt_of_le ‹_› hbk.size⟩))
    clear hK K
    try simp only [Act.put, List.getElem_toArray, List.getElem_cons_succ, List.getElem_cons_zero, List.setIfInBounds_toArray, List.set_cons_zero, List.set_cons_succ]
    refine wpAnyH_take (i := 18) (v := ?_) rfl (by kernel_rfl) (by kernel_rfl) (by kernel_rfl) (fun _ _ _ h => h) (Or.inl ⟨by rfl, ?_⟩) (by assumption) ?_
    rotate_left
    · intro w hSw; (try dsimp only at hSw); go_simp <;> with_reducible rfl
    try simp only [Act.put, List.getElem_toArray, List.getElem_cons_succ, List.getElem_cons_zero, List.setIfInBounds_toArray, List.set_cons_zero, List.set_cons_succ]
    refine wpAnyH_take (i := 19) (v := ?_) rfl (by kernel_rfl) (by kernel_rfl) (by kernel_rfl) (fun _ _ _ h => h) (Or.inl ⟨by rfl, ?_⟩) (by assumption) ?_
    rotate_left
    · intro w hSw; (try dsimp only at hSw); go_simp <;> with_reducible rfl
    try simp only [Act.put, List.getElem_toArray, List.getElem_cons_succ, List.getElem_cons_zero, List.setIfInBounds_toArray, List.set_cons_zero, List.set_cons_succ]
    refine wpAnyH_take (i := 20) (v := ?_) rfl (by kernel_rfl) (by kernel_rfl) (by kernel_rfl) (fun _ _ _ h => h) (Or.inl ⟨by rfl, ?_⟩) (by assumption) ?_
    rotate_left
    · intro w hSw; (try dsimp only at hSw); go_simp <;> with_reducible rfl
    try simp only [Act.put, List.getElem_toArray, List.getElem_cons_succ, List.getElem_cons_zero, List.setIfInBounds_toArray, List.set_cons_zero, List.set_cons_succ]
    refine' wpAnyH_take (i := 21) (v := _) rfl (by kernel_rfl) (by kernel_rfl) (by kernel_rfl) (fun _ _ _ h => h) (yieldsIf_load_mid (by rfl) _ _ rfl _ _ rfl _ _ ?hS21_2 ?hu21_2 ?hd21_2 ?hi21_2) (by assumption) ?rest21_2
    case hS21_2 => intro w hSw; (try dsimp only at hSw); go_split_ands; assumption
    case hu21_2 => assumption
    case hd21_2 => rfl
    case hi21_2 => first | assumption | (simp only [*]; done)
    try simp only [Act.put, List.getElem_toArray, List.getElem_cons_succ, List.getElem_cons_zero, List.setIfInBounds_toArray, List.set_cons_zero, List.set_cons_succ]
    refine' wpAnyH_take (i := 22) (v := _) rfl (by kernel_rfl) (by kernel_rfl) (by kernel_rfl) (fun _ _ _ h => h) (yieldsIf_load_mid (by rfl) _ _ rfl _ _ rfl _ _ ?hS22_2 ?hu22_2 ?hd22_2 ?hi22_2) (by assumption) ?rest22_2
    case hS22_2 => intro w hSw; (try dsimp only at hSw); go_split_ands; assumption
    case hu22_2 => assumption
    case hd22_2 => rfl
    case hi22_2 => first | assumption | (simp only [*]; done)
    try simp only [Act.put, List.getElem_toArray, List.getElem_cons_succ, List.getElem_cons_zero, List.setIfInBounds_toArray, List.set_cons_zero, List.set_cons_succ]
    refine' wpAnyH_take (i := 25) (v := _) rfl (by kernel_rfl) (by kernel_rfl) (by kernel_rfl) (fun _ _ _ h => h) (yieldsIf_load_mid (by rfl) _ _ rfl _ _ rfl _ _ ?hS25_2 ?hu25_2 ?hd25_2 ?hi25_2) (by assumption) ?rest25_2
    case hS25_2 => intro w hSw; (try dsimp only at hSw); go_split_ands; assumption
    case hu25_2 => assumption
    case hd25_2 => rfl
    case hi25_2 => first | assumption | (simp only [*]; done)
    try simp only [Act.put, List.getElem_toArray, List.getElem_cons_succ, List.getElem_cons_zero, List.setIfInBounds_toArray, List.set_cons_zero, List.set_cons_succ]
    refine' wpAnyH_take (i := 27) (v := _) rfl (by kernel_rfl) (by kernel_rfl) (by kernel_rfl) (fun _ _ _ h => h) (yieldsIf_load_mid (by rfl) _ _ rfl _ _ rfl _ _ ?hS27_2 ?hu27_2 ?hd27_2 ?hi27_2) (by assumption) ?rest27_2
    case hS27_2 => intro w hSw; (try dsimp only at hSw); go_split_ands; assumption
    case hu27_2 => assumption
    case hd27_2 => rfl
    case hi27_2 => first | assumption | (simp only [*]; done)
    try simp only [Act.put, List.getElem_toArray, List.getElem_cons_succ, List.getElem_cons_zero, List.setIfInBounds_toArray, List.set_cons_zero, List.set_cons_succ]
    refine wpAnyH_ready (rs := [23]) (by kernel_rfl) (by simp) ?_
    refine AllReadyH.cons rfl (fun K hK => ?_) AllReadyH.nil
    simp only [List.getElem_toArray, List.getElem_cons_succ, List.getElem_cons_zero]
    go_simp
    (first | (go_at_call 20; refine (HTU.out _).mono ?_; rintro e w' ⟨rfl, hbk⟩) | (go_at_call 22; (first | refine (HAB.out _).mono ?_ | refine (HAT.out _).mono ?_ | refine (HTA.out _).mono ?_ | refine (HA0.out _).mono ?_); rintro e w' ⟨rfl, hbk⟩))
    go_wp2_with fail
    refine hK.out _ _ ?_ (fun hHeld => ?_)
    · (try dsimp only); (first | (exact ⟨hr1, hr2, hB1.drew, hlt⟩) | (go_split_ands; exact ⟨range_below ‹_› hbk (by omega), range_below ‹_› hbk (by omega), Below.trans ‹_› (hbk.mono (by omega)), Nat.lt_of_lt_of_le ‹_› hbk.size⟩))
    clear hK K
    try simp only [Act.put, List.getElem_toArray, List.getElem_cons_succ, List.getElem_cons_zero, List.setIfInBounds_toArray, List.set_cons_zero, List.set_cons_succ]
    refine wpAnyH_ready (rs := [24]) (by kernel_rfl) (by simp) ?_
    refine AllReadyH.cons rfl (fun K hK => ?_) AllReadyH.nil
    simp only [List.getElem_toArray, List.getElem_cons_succ, List.getElem_cons_zero]
    go_simp
    (first | (go_at_call 20; refine (HTU.out _).mono ?_; rintro e w' ⟨rfl, hbk⟩) | (go_at_call 22; (first | refine (HAB.out _).mono ?_ | refine (HAT.out _).mono ?_ | refine (HTA.out _).mono ?_ | refine (HA0.out _).mono ?_); rintro e w' ⟨rfl, hbk⟩))
    go_wp2_with fail
    refine hK.out _ _ ?_ (fun hHeld => ?_)
    · (try dsimp only); (first | (exact ⟨hr1, hr2, hB1.drew, hlt⟩) | (go_split_ands; exact ⟨range_below ‹_› hbk (by omega), range_below ‹_› hbk (by omega), Below.trans ‹_› (hbk.mono (by omega)), Nat.lt_of_lt_of_le ‹_› hbk.size⟩))
    clear hK K
    try simp only [Act.put, List.getElem_toArray, List.getElem_cons_succ, List.getElem_cons_zero, List.setIfInBounds_toArray, List.set_cons_zero, List.set_cons_succ]
    refine wpAnyH_ready (rs := [26]) (by kernel_rfl) (by simp) ?_
    refine AllReadyH.cons rfl (fun K hK => ?_) AllReadyH.nil
    simp only [List.getElem_toArray, List.getElem_cons_succ, List.getElem_cons_zero]
    go_simp
    (first | (go_at_call 20; refine (HTU.out _).mono ?_; rintro e w' ⟨rfl, hbk⟩) | (go_at_call 22; (first | refine (HAB.out _).mono ?_ | refine (HAT.out _).mono ?_ | refine (HTA.out _).mono ?_ | refine (HA0.out _).mono ?_); rintro e w' ⟨rfl, hbk⟩))
    go_wp2_with fail
    refine hK.out _ _ ?_ (fun hHeld => ?_)
    · (try dsimp only); (first | (exact ⟨hr1, hr2, hB1.drew, hlt⟩) | (go_split_ands; exact ⟨range_below ‹_› hbk (by omega), range_below ‹_› hbk (by omega), Below.trans ‹_› (hbk.mono (by omega)), Nat.lt_of_lt_of_le ‹_› hbk.size⟩))
    clear hK K
    try simp only [Act.put, List.getElem_toArray, List.getElem_cons_succ, List.getElem_cons_zero, List.setIfInBounds_toArray, List.set_cons_zero, List.set_cons_succ]
    refine wpAnyH_ready (rs := [28]) (by kernel_rfl) (by simp) ?_
    refine AllReadyH.cons rfl (fun K hK => ?_) AllReadyH.nil
    simp only [List.getElem_toArray, List.getElem_cons_succ, List.getElem_cons_zero]
    go_simp
    (first | (go_at_call 20; refine (HTU.out _).mono ?_; rintro e w' ⟨rfl, hbk⟩) | (go_at_call 22; (first | refine (HAB.out _).mono ?_ | refine (HAT.out _).mono ?_ | refine (HTA.out _).mono ?_ | refine (HA0.out _).mono ?_); rintro e w' ⟨rfl, hbk⟩))
    go_wp2_with fail
    refine hK.out _ _ ?_ (fun hHeld => ?_)
    · (try dsimp only); (first | (exact ⟨hr1, hr2, hB1.drew, hlt⟩) | (go_split_ands; exact ⟨range_below ‹_› hbk (by omega), range_below ‹_› hbk (by omega), Below.trans ‹_› (hbk.mono (by omega)), Nat.lt_of_lt_of_le ‹_› hbk.size⟩))
    clear hK K
    try simp only [Act.put, List.getElem_toArray, List.getElem_cons_succ, List.getElem_cons_zero, List.setIfInBounds_toArray, List.set_cons_zero, List.set_cons_succ]
    refine wpAnyH_take (i := 29) (v := ?_) rfl (by kernel_rfl) (by kernel_rfl) (by kernel_rfl) (fun _ _ _ h => h) (Or.inl ⟨by rfl, ?_⟩) (by assumption) ?_
    rotate_left
    · intro w hSw; (try dsimp only at hSw); go_simp <;> with_reducible rfl
    try simp only [Act.put, List.getElem_toArray, List.getElem_cons_succ, List.getElem_cons_zero, List.setIfInBounds_toArray, List.set_cons_zero, List.set_cons_succ]
    refine wpAnyH_take (i := 30) (v := ?_) rfl (by kernel_rfl) (by kernel_rfl) (by kernel_rfl) (fun _ _ _ h => h) (Or.inl ⟨by rfl, ?_⟩) (by assumption) ?_
    rotate_left
    · intro w hSw; (try dsimp only at hSw); go_simp <;> with_reducible rfl
    try simp only [Act.put, List.getElem_toArray, List.getElem_cons_succ, List.getElem_cons_zero, List.setIfInBounds_toArray, List.set_cons_zero, List.set_cons_succ]
    refine wpAnyH_take (i := 31) (v := ?_) rfl (by kernel_rfl) (by kernel_rfl) (by kernel_rfl) (fun _ _ _ h => h) (Or.inl ⟨by rfl, ?_⟩) (by assumption) ?_
    rotate_left
    · intro w hSw; (try dsimp only at hSw); go_simp <;> with_reducible rfl
    try simp only [Act.put, List.getElem_toArray, List.getElem_cons_succ, List.getElem_cons_zero, List.setIfInBounds_toArray, List.set_cons_zero, List.set_cons_succ]
    refine wpAnyH_take (i := 32) (v := ?_) rfl (by kernel_rfl) (by kernel_rfl) (by kernel_rfl) (fun _ _ _ h => h) (Or.inl ⟨by rfl, ?_⟩) (by assumption) ?_
    rotate_left
    · intro w hSw; (try dsimp only at hSw); go_simp <;> with_reducible rfl
    try simp only [Act.put, List.getElem_toArray, List.getElem_cons_succ, List.getElem_cons_zero, List.setIfInBounds_toArray, List.set_cons_zero, List.set_cons_succ]
    refine wpAnyH_done (by kernel_rfl) ?_ _
    refine NoPanic.normal ?_
    go_split_ands
    go_wp2
    go_ret
    exact ⟨rfl, by assumption⟩
  · have hr1 := key_range hT.1
    have hr2 := key_range hT.2.1
    have hB1 := hT.2.2.2.1
    have hlt := Nat.lt_of_succ_lt hT.2.2.2.2
    clear hT
    refine wp_region_noPanic ?_
    refine wp_region_held_drew (S := (fun W => W.rangeAt w.heap.size 0 (a.map bv) ∧ W.rangeAt (w.heap.size + 1) 0 (b.map bv) ∧ Below w.heap.size w W ∧ w.heap.size + 1 < W.heap.size)) (by kernel_rfl) (by (try dsimp only); (first | (exact ⟨hr1, hr2, hB1.drew, hlt⟩) | (go_split_ands; exact ⟨range_below ‹_› hbk (by omega), range_below ‹_› hbk (by omega), Below.trans ‹_› (hbk.mono (by omega)), Nat.lt_of_lt_of_le ‹_› hbk.size⟩))) (fun hHeld => ?_)
    refine wpAnyH_take (i := 0) (v := ?_) rfl (by kernel_rfl) (by kernel_rfl) (by kernel_rfl) (fun _ _ _ h => h) (Or.inl ⟨by rfl, ?_⟩) (by assumption) ?_
    rotate_left
    · intro w hSw; (try dsimp only at hSw); go_simp <;> with_reducible rfl
    try simp only [Act.put, List.getElem_toArray, List.getElem_cons_succ, List.getElem_cons_zero, List.setIfInBounds_toArray, List.set_cons_zero, List.set_cons_succ]
    refine wpAnyH_take (i := 1) (v := ?_) rfl (by kernel_rfl) (by kernel_rfl) (by kernel_rfl) (fun _ _ _ h => h) (Or.inl ⟨by rfl, ?_⟩) (by assumption) ?_
    rotate_left
    · intro w hSw; (try dsimp only at hSw); go_simp <;> with_reducible rfl
    try simp only [Act.put, List.getElem_toArray, List.getElem_cons_succ, List.getElem_cons_zero, List.setIfInBounds_toArray, List.set_cons_zero, List.set_cons_succ]
    refine wpAnyH_take (i := 2) (v := ?_) rfl (by kernel_rfl) (by kernel_rfl) (by kernel_rfl) (fun _ _ _ h => h) (Or.inl ⟨by rfl, ?_⟩) (by assumption) ?_
    rotate_left
    · intro w hSw; (try dsimp only at hSw); go_simp <;> with_reducible rfl
    try simp only [Act.put, List.getElem_toArray, List.getElem_cons_succ, List.getElem_cons_zero, List.setIfInBounds_toArray, List.set_cons_zero, List.set_cons_succ]
    refine wpAnyH_take (i := 3) (v := ?_) rfl (by kernel_rfl) (by kernel_rfl) (by kernel_rfl) (fun _ _ _ h => h) (Or.inl ⟨by rfl, ?_⟩) (by assumption) ?_
    rotate_left
    · intro w hSw; (try dsimp only at hSw); go_simp <;> with_reducible rfl
    try simp only [Act.put, List.getElem_toArray, List.getElem_cons_succ, List.getElem_cons_zero, List.setIfInBounds_toArray, List.set_cons_zero, List.set_cons_succ]
    refine wpAnyH_take (i := 4) (v := ?_) rfl (by kernel_rfl) (by kernel_rfl) (by kernel_rfl) (fun _ _ _ h => h) (Or.inl ⟨by rfl, ?_⟩) (by assumption) ?_
    rotate_left
    · intro w hSw; (try dsimp only at hSw); go_simp <;> with_reducible rfl
    try simp only [Act.put, List.getElem_toArray, List.getElem_cons_succ, List.getElem_cons_zero, List.setIfInBounds_toArray, List.set_cons_zero, List.set_cons_succ]
    refine' wpAnyH_take (i := 5) (v := _) rfl (by kernel_rfl) (by kernel_rfl) (by kernel_rfl) (fun _ _ _ h => h) (yieldsIf_load_mid (by rfl) _ _ rfl _ _ rfl _ _ ?hS5_3 ?hu5_3 ?hd5_3 ?hi5_3) (by assumption) ?rest5_3
    case hS5_3 => intro w hSw; (try dsimp only at hSw); go_split_ands; assumption
    case hu5_3 => assumption
    case hd5_3 => rfl
    case hi5_3 => first | assumption | (simp only [*]; done)
    try simp only [Act.put, List.getElem_toArray, List.getElem_cons_succ, List.getElem_cons_zero, List.setIfInBounds_toArray, List.set_cons_zero, List.set_cons_succ]
    refine' wpAnyH_take (i := 6) (v := _) rfl (by kernel_rfl) (by kernel_rfl) (by kernel_rfl) (fun _ _ _ h => h) (yieldsIf_load_mid (by rfl) _ _ rfl _ _ rfl _ _ ?hS6_3 ?hu6_3 ?hd6_3 ?hi6_3) (by assumption) ?rest6_3
    case hS6_3 => intro w hSw; (try dsimp only at hSw); go_split_ands; assumption
    case hu6_3 => assumption
    case hd6_3 => rfl
    case hi6_3 => first | assumption | (simp only [*]; done)
    try simp only [Act.put, List.getElem_toArray, List.getElem_cons_succ, List.getElem_cons_zero, List.setIfInBounds_toArray, List.set_cons_zero, List.set_cons_succ]
    refine' wpAnyH_take (i := 9) (v := _) rfl (by kernel_rfl) (by kernel_rfl) (by kernel_rfl) (fun _ _ _ h => h) (yieldsIf_load_mid (by rfl) _ _ rfl _ _ rfl _ _ ?hS9_3 ?hu9_3 ?hd9_3 ?hi9_3) (by assumption) ?rest9_3
    case hS9_3 => intro w hSw; (try dsimp only at hSw); go_split_ands; assumption
    case hu9_3 => assumption
    case hd9_3 => rfl
    case hi9_3 => first | assumption | (simp only [*]; done)
    try simp only [Act.put, List.getElem_toArray, List.getElem_cons_succ, List.getElem_cons_zero, List.setIfInBounds_toArray, List.set_cons_zero, List.set_cons_succ]
    refine' wpAnyH_take (i := 10) (v := _) rfl (by kernel_rfl) (by kernel_rfl) (by kernel_rfl) (fun _ _ _ h => h) (yieldsIf_load_mid (by rfl) _ _ rfl _ _ rfl _ _ ?hS10_3 ?hu10_3 ?hd10_3 ?hi10_3) (by assumption) ?rest10_3
    case hS10_3 => intro w hSw; (try dsimp only at hSw); go_split_ands; assumption
    case hu10_3 => assumption
    case hd10_3 => rfl
    case hi10_3 => first | assumption | (simp only [*]; done)
    try simp only [Act.put, List.getElem_toArray, List.getElem_cons_succ, List.getElem_cons_zero, List.setIfInBounds_toArray, List.set_cons_zero, List.set_cons_succ]
    refine wpAnyH_take (i := 11) (v := ?_) rfl (by kernel_rfl) (by kernel_rfl) (by kernel_rfl) (fun _ _ _ h => h) (Or.inl ⟨by rfl, ?_⟩) (by assumption) ?_
    rotate_left
    · intro w hSw; (try dsimp only at hSw); go_simp <;> with_reducible rfl
    try simp only [Act.put, List.getElem_toArray, List.getElem_cons_succ, List.getElem_cons_zero, List.setIfInBounds_toArray, List.set_cons_zero, List.set_cons_succ]
    refine wpAnyH_ready (rs := [7]) (by kernel_rfl) (by simp) ?_
    refine AllReadyH.cons rfl (fun K hK => ?_) AllReadyH.nil
    simp only [List.getElem_toArray, List.getElem_cons_succ, List.getElem_cons_zero]
    go_simp
    (first | (go_at_call 20; refine (HTU.out _).mono ?_; rintro e w' ⟨rfl, hbk⟩) | (go_at_call 22; (first | refine (HAB.out _).mono ?_ | refine (HAT.out _).mono ?_ | refine (HTA.out _).mono ?_ | refine (HA0.out _).mono ?_); rintro e w' ⟨rfl, hbk⟩))
    go_wp2_with fail
    refine hK.out _ _ ?_ (fun hHeld => ?_)
    · (try dsimp only); (first | (exact ⟨hr1, hr2, hB1.drew, hlt⟩) | (go_split_ands; exact ⟨range_below ‹_› hbk (by omega), range_below ‹_› hbk (by omega), Below.trans ‹_› (hbk.mono (by omega)), Nat.lt_of_lt_of_le ‹_› hbk.size⟩))
    clear hK K
    try simp only [Act.put, List.getElem_toArray, List.getElem_cons_succ, List.getElem_cons_zero, List.setIfInBounds_toArray, List.set_cons_zero, List.set_cons_succ]
    refine wpAnyH_take (i := 8) (v := ?_) rfl (by kernel_rfl) (by kernel_rfl) (by kernel_rfl) (fun _ _ _ h => h) (Or.inl ⟨by rfl, ?_⟩) (by assumption) ?_
    rotate_left
    · intro w hSw; (try dsimp only at hSw); go_simp <;> with_reducible rfl
    try simp only [Act.put, List.getElem_toArray, List.getElem_cons_succ, List.getElem_cons_zero, List.setIfInBounds_toArray, List.set_cons_zero, List.set_cons_succ]
    refine wpAnyH_take (i := 12) (v := ?_) rfl (by kernel_rfl) (by kernel_rfl) (by kernel_rfl) (fun _ _ _ h => h) (Or.inl ⟨by rfl, ?_⟩) (by assumption) ?_
    rotate_left
    · intro w hSw; (try dsimp only at hSw); go_simp <;> with_reducible rfl
    try simp only [Act.put, List.getElem_toArray, List.getElem_cons_succ, List.getElem_cons_zero, List.setIfInBounds_toArray, List.set_cons_zero, List.set_cons_succ]
    refine wpAnyH_take (i := 13) (v := ?_) rfl (by kernel_rfl) (by kernel_rfl) (by kernel_rfl) (fun _ _ _ h => h) (Or.inl ⟨by rfl, ?_⟩) (by assumption) ?_
    rotate_left
    · intro w hSw; (try dsimp only at hSw); go_simp <;> with_reducible rfl
    try simp only [Act.put, List.getElem_toArray, List.getElem_cons_succ, List.getElem_cons_zero, List.setIfInBounds_toArray, List.set_cons_zero, List.set_cons_succ]
    refine wpAnyH_take (i := 14) (v := ?_) rfl (by kernel_rfl) (by kernel_rfl) (by kernel_rfl) (fun _ _ _ h => h) (Or.inl ⟨by rfl, ?_⟩) (by assumption) ?_
    rotate_left
    · intro w hSw; (try dsimp only at hSw); go_simp <;> with_reducible rfl
    try simp only [Act.put, List.getElem_toArray, List.getElem_cons_succ, List.getElem_cons_zero, List.setIfInBounds_toArray, List.set_cons_zero, List.set_cons_succ]
    refine' wpAnyH_take (i := 15) (v := _) rfl (by kernel_rfl) (by kernel_rfl) (by kernel_rfl) (fun _ _ _ h => h) (yieldsIf_load_mid (by rfl) _ _ rfl _ _ rfl _ _ ?hS15_3 ?hu15_3 ?hd15_3 ?hi15_3) (by assumption) ?rest15_3
    case hS15_3 => intro w hSw; (try dsimp only at hSw); go_split_ands; assumption
    case hu15_3 => assumption
    case hd15_3 => rfl
    case hi15_3 => first | assumption | (simp only [*]; done)
    try simp only [Act.put, List.getElem_toArray, List.getElem_cons_succ, List.getElem_cons_zero, List.setIfInBounds_toArray, List.set_cons_zero, List.set_cons_succ]
    refine wpAnyH_take (i := 16) (v := ?_) rfl (by kernel_rfl) (by kernel_rfl) (by kernel_rfl) (fun _ _ _ h => h) (Or.inl ⟨by rfl, ?_⟩) (by assumption) ?_
    rotate_left
    · intro w hSw; (try dsimp only at hSw); go_simp <;> with_reducible rfl
    try simp only [Act.put, List.getElem_toArray, List.getElem_cons_succ, List.getElem_cons_zero, List.setIfInBounds_toArray, List.set_cons_zero, List.set_cons_succ]
    refine wpAnyH_ready (rs := [17]) (by kernel_rfl) (by simp) ?_
    refine AllReadyH.cons rfl (fun K hK => ?_) AllReadyH.nil
    simp only [List.getElem_toArray, List.getElem_cons_succ, List.getElem_cons_zero]
    go_simp
    (first | (go_at_call 20; refine (HTU.out _).mono ?_; rintro e w' ⟨rfl, hbk⟩) | (go_at_call 22; (first | refine (HAB.out _).mono ?_ | refine (HAT.out _).mono ?_ | refine (HTA.out _).mono ?_ | refine (HA0.out _).mono ?_); rintro e w' ⟨rfl, hbk⟩))
    go_wp2_with fail
    refine hK.out _ _ ?_ (fun hHeld => ?_)
    · (try dsimp only); (first | (exact ⟨hr1, hr2, hB1.drew, hlt⟩) | (go_split_ands; exact ⟨range_below ‹_› hbk (by omega), range_below ‹_› hbk (by omega), Below.trans ‹_› (hbk.mono (by omega)), Nat.lt_of_lt_of_le ‹_› hbk.size⟩))
    clear hK K
    try simp only [Act.put, List.getElem_toArray, List.getElem_cons_succ, List.getElem_cons_zero, List.setIfInBounds_toArray, List.set_cons_zero, List.set_cons_succ]
    refine wpAnyH_take (i := 18) (v := ?_) rfl (by kernel_rfl) (by kernel_rfl) (by kernel_rfl) (fun _ _ _ h => h) (Or.inl ⟨by rfl, ?_⟩) (by assumption) ?_
    rotate_left
    · intro w hSw; (try dsimp only at hSw); go_simp <;> with_reducible rfl
    try simp only [Act.put, List.getElem_toArray, List.getElem_cons_succ, List.getElem_cons_zero, List.setIfInBounds_toArray, List.set_cons_zero, List.set_cons_succ]
    refine wpAnyH_take (i := 19) (v := ?_) rfl (by kernel_rfl) (by kernel_rfl) (by kernel_rfl) (fun _ _ _ h => h) (Or.inl ⟨by rfl, ?_⟩) (by assumption) ?_
    rotate_left
    · intro w hSw; (try dsimp only at hSw); go_simp <;> with_reducible rfl
    try simp only [Act.put, List.getElem_toArray, List.getElem_cons_succ, List.getElem_cons_zero, List.setIfInBounds_toArray, List.set_cons_zero, List.set_cons_succ]
    refine wpAnyH_take (i := 20) (v := ?_) rfl (by kernel_rfl) (by kernel_rfl) (by kernel_rfl) (fun _ _ _ h => h) (Or.inl ⟨by rfl, ?_⟩) (by assumption) ?_
    rotate_left
    · intro w hSw; (try dsimp only at hSw); go_simp <;> with_reducible rfl
    try simp only [Act.put, List.getElem_toArray, List.getElem_cons_succ, List.getElem_cons_zero, List.setIfInBounds_toArray, List.set_cons_zero, List.set_cons_succ]
    refine' wpAnyH_take (i := 21) (v := _) rfl (by kernel_rfl) (by kernel_rfl) (by kernel_rfl) (fun _ _ _ h => h) (yieldsIf_load_mid (by rfl) _ _ rfl _ _ rfl _ _ ?hS21_3 ?hu21_3 ?hd21_3 ?hi21_3) (by assumption) ?rest21_3
    case hS21_3 => intro w hSw; (try dsimp only at hSw); go_split_ands; assumption
    case hu21_3 => assumption
    case hd21_3 => rfl
    case hi21_3 => first | assumption | (simp only [*]; done)
    try simp only [Act.put, List.getElem_toArray, List.getElem_cons_succ, List.getElem_cons_zero, List.setIfInBounds_toArray, List.set_cons_zero, List.set_cons_succ]
    refine' wpAnyH_take (i := 22) (v := _) rfl (by kernel_rfl) (by kernel_rfl) (by kernel_rfl) (fun _ _ _ h => h) (yieldsIf_load_mid (by rfl) _ _ rfl _ _ rfl _ _ ?hS22_3 ?hu22_3 ?hd22_3 ?hi22_3) (by assumption) ?rest22_3
    case hS22_3 => intro w hSw; (try dsimp only at hSw); go_split_ands; assumption
    case hu22_3 => assumption
    case hd22_3 => rfl
    case hi22_3 => first | assumption | (simp only [*]; done)
    try simp only [Act.put, List.getElem_toArray, List.getElem_cons_succ, List.getElem_cons_zero, List.setIfInBounds_toArray, List.set_cons_zero, List.set_cons_succ]
    refine' wpAnyH_take (i := 25) (v := _) rfl (by kernel_rfl) (by kernel_rfl) (by kernel_rfl) (fun _ _ _ h => h) (yieldsIf_load_mid (by rfl) _ _ rfl _ _ rfl _ _ ?hS25_3 ?hu25_3 ?hd25_3 ?hi25_3) (by assumption) ?rest25_3
    case hS25_3 => intro w hSw; (try dsimp only at hSw); go_split_ands; assumption
    case hu25_3 => assumption
    case hd25_3 => rfl
    case hi25_3 => first | assumption | (simp only [*]; done)
    try simp only [Act.put, List.getElem_toArray, List.getElem_cons_succ, List.getElem_cons_zero, List.setIfInBounds_toArray, List.set_cons_zero, List.set_cons_succ]
    refine' wpAnyH_take (i := 27) (v := _) rfl (by kernel_rfl) (by kernel_rfl) (by kernel_rfl) (fun _ _ _ h => h) (yieldsIf_load_mid (by rfl) _ _ rfl _ _ rfl _ _ ?hS27_3 ?hu27_3 ?hd27_3 ?hi27_3) (by assumption) ?rest27_3
    case hS27_3 => intro w hSw; (try dsimp only at hSw); go_split_ands; assumption
    case hu27_3 => assumption
    case hd27_3 => rfl
    case hi27_3 => first | assumption | (simp only [*]; done)
    try simp only [Act.put, List.getElem_toArray, List.getElem_cons_succ, List.getElem_cons_zero, List.setIfInBounds_toArray, List.set_cons_zero, List.set_cons_succ]
    refine wpAnyH_ready (rs := [23]) (by kernel_rfl) (by simp) ?_
    refine AllReadyH.cons rfl (fun K hK => ?_) AllReadyH.nil
    simp only [List.getElem_toArray, List.getElem_cons_succ, List.getElem_cons_zero]
    go_simp
    (first | (go_at_call 20; refine (HTU.out _).mono ?_; rintro e w' ⟨rfl, hbk⟩) | (go_at_call 22; (first | refine (HAB.out _).mono ?_ | refine (HAT.out _).mono ?_ | refine (HTA.out _).mono ?_ | refine (HA0.out _).mono ?_); rintro e w' ⟨rfl, hbk⟩))
    go_wp2_with fail
    refine hK.out _ _ ?_ (fun hHeld => ?_)
    · (try dsimp only); (first | (exact ⟨hr1, hr2, hB1.drew, hlt⟩) | (go_split_ands; exact ⟨range_below ‹_› hbk (by omega), range_below ‹_› hbk (by omega), Below.trans ‹_› (hbk.mono (by omega)), Nat.lt_of_lt_of_le ‹_› hbk.size⟩))
    clear hK K
    try simp only [Act.put, List.getElem_toArray, List.getElem_cons_succ, List.getElem_cons_zero, List.setIfInBounds_toArray, List.set_cons_zero, List.set_cons_succ]
    refine wpAnyH_ready (rs := [24]) (by kernel_rfl) (by simp) ?_
    refine AllReadyH.cons rfl (fun K hK => ?_) AllReadyH.nil
    simp only [List.getElem_toArray, List.getElem_cons_succ, List.getElem_cons_zero]
    go_simp
    (first | (go_at_call 20; refine (HTU.out _).mono ?_; rintro e w' ⟨rfl, hbk⟩) | (go_at_call 22; (first | refine (HAB.out _).mono ?_ | refine (HAT.out _).mono ?_ | refine (HTA.out _).mono ?_ | refine (HA0.out _).mono ?_); rintro e w' ⟨rfl, hbk⟩))
    go_wp2_with fail
    refine hK.out _ _ ?_ (fun hHeld => ?_)
    · (try dsimp only); (first | (exact ⟨hr1, hr2, hB1.drew, hlt⟩) | (go_split_ands; exact ⟨range_below ‹_› hbk (by omega), range_below ‹_› hbk (by omega), Below.trans ‹_› (hbk.mono (by omega)), Nat.lt_of_lt_of_le ‹_› hbk.size⟩))
    clear hK K
    try simp only [Act.put, List.getElem_toArray, List.getElem_cons_succ, List.getElem_cons_zero, List.setIfInBounds_toArray, List.set_cons_zero, List.set_cons_succ]
    refine wpAnyH_ready (rs := [26]) (by kernel_rfl) (by simp) ?_
    refine AllReadyH.cons rfl (fun K hK => ?_) AllReadyH.nil
    simp only [List.getElem_toArray, List.getElem_cons_succ, List.getElem_cons_zero]
    go_simp
    (first | (go_at_call 20; refine (HTU.out _).mono ?_; rintro e w' ⟨rfl, hbk⟩) | (go_at_call 22; (first | refine (HAB.out _).mono ?_ | refine (HAT.out _).mono ?_ | refine (HTA.out _).mono ?_ | refine (HA0.out _).mono ?_); rintro e w' ⟨rfl, hbk⟩))
    go_wp2_with fail
    refine hK.out _ _ ?_ (fun hHeld => ?_)
    · (try dsimp only); (first | (exact ⟨hr1, hr2, hB1.drew, hlt⟩) | (go_split_ands; exact ⟨range_below ‹_› hbk (by omega), range_below ‹_› hbk (by omega), Below.trans ‹_› (hbk.mono (by omega)), Nat.lt_of_lt_of_le ‹_› hbk.size⟩))
    clear hK K
    try simp only [Act.put, List.getElem_toArray, List.getElem_cons_succ, List.getElem_cons_zero, List.setIfInBounds_toArray, List.set_cons_zero, List.set_cons_succ]
    refine wpAnyH_ready (rs := [28]) (by kernel_rfl) (by simp) ?_
    refine AllReadyH.cons rfl (fun K hK => ?_) AllReadyH.nil
    simp only [List.getElem_toArray, List.getElem_cons_succ, List.getElem_cons_zero]
    go_simp
    (first | (go_at_call 20; refine (HTU.out _).mono ?_; rintro e w' ⟨rfl, hbk⟩) | (go_at_call 22; (first | refine (HAB.out _).mono ?_ | refine (HAT.out _).mono ?_ | refine (HTA.out _).mono ?_ | refine (HA0.out _).mono ?_); rintro e w' ⟨rfl, hbk⟩))
    go_wp2_with fail
    refine hK.out _ _ ?_ (fun hHeld => ?_)
    · (try dsimp only); (first | (exact ⟨hr1, hr2, hB1.drew, hlt⟩) | (go_split_ands; exact ⟨range_below ‹_› hbk (by omega), range_below ‹_› hbk (by omega), Below.trans ‹_› (hbk.mono (by omega)), Nat.lt_of_lt_of_le ‹_› hbk.size⟩))
    clear hK K
    try simp only [Act.put, List.getElem_toArray, List.getElem_cons_succ, List.getElem_cons_zero, List.setIfInBounds_toArray, List.set_cons_zero, List.set_cons_succ]
    refine wpAnyH_take (i := 29) (v := ?_) rfl (by kernel_rfl) (by kernel_rfl) (by kernel_rfl) (fun _ _ _ h => h) (Or.inl ⟨by rfl, ?_⟩) (by assumption) ?_
    rotate_left
    · intro w hSw; (try dsimp only at hSw); go_simp <;> with_reducible rfl
    try simp only [Act.put, List.getElem_toArray, List.getElem_cons_succ, List.getElem_cons_zero, List.setIfInBounds_toArray, List.set_cons_zero, List.set_cons_succ]
    refine wpAnyH_take (i := 30) (v := ?_) rfl (by kernel_rfl) (by kernel_rfl) (by kernel_rfl) (fun _ _ _ h => h) (Or.inl ⟨by rfl, ?_⟩) (by assumption) ?_
    rotate_left
    · intro w hSw; (try dsimp only at hSw); go_simp <;> with_reducible rfl
    try simp only [Act.put, List.getElem_toArray, List.getElem_cons_succ, List.getElem_cons_zero, List.setIfInBounds_toArray, List.set_cons_zero, List.set_cons_succ]
    refine wpAnyH_take (i := 31) (v := ?_) rfl (by kernel_rfl) (by kernel_rfl) (by kernel_rfl) (fun _ _ _ h => h) (Or.inl ⟨by rfl, ?_⟩) (by assumption) ?_
    rotate_left
    · intro w hSw; (try dsimp only at hSw); go_simp <;> with_reducible rfl
    try simp only [Act.put, List.getElem_toArray, List.getElem_cons_succ, List.getElem_cons_zero, List.setIfInBounds_toArray, List.set_cons_zero, List.set_cons_succ]
    refine wpAnyH_take (i := 32) (v := ?_) rfl (by kernel_rfl) (by kernel_rfl) (by kernel_rfl) (fun _ _ _ h => h) (Or.inl ⟨by rfl, ?_⟩) (by assumption) ?_
    rotate_left
    · intro w hSw; (try dsimp only at hSw); go_simp <;> with_reducible rfl
    try simp only [Act.put, List.getElem_toArray, List.getElem_cons_succ, List.getElem_cons_zero, List.setIfInBounds_toArray, List.set_cons_zero, List.set_cons_succ]
    refine wpAnyH_done (by kernel_rfl) ?_ _
    refine NoPanic.normal ?_
    go_split_ands
    go_wp2
    go_ret
    exact ⟨rfl, by assumption⟩
end Go.Proofs.Ytdihimepaihnpaa
