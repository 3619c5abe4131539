/-
  OctetBits: a bit of any bytes, they with one turned, and which ones are ahead, are what the document says. For every input.
-/
import Derived.Test.YtdihimepaihnpaaAwake
import Derived.Test.YtdihimepaihnpaaRefCmp
import Derived.Test.YtdihimepaihnpaaEq
import Derived.Deep.RegionHeld3
namespace Go.Proofs.Ytdihimepaihnpaa
open Go.RowKit

theorem bits_alike (l : List UInt8) (i : Int) (hl : l.length = 32) : ∃ x : Int, (∀ W, Calls Try.prog 18 #[kv l, .int .i64 i] W (GaveInt W x)) ∧ (∀ W, Calls Try.prog 19 #[kv l, .int .i64 i] W (GaveInt W x)) := by
  by_cases h : 0 ≤ i ∧ i < 256
  · exact ⟨_, fun W => Bit_in l i W h.1 h.2 hl, fun W => RBit_in l i W h.1 h.2 hl⟩
  · exact ⟨0, fun W => Bit_out l i W (by omega), fun W => RBit_out l i W (by omega)⟩

theorem turns_alike (l : List UInt8) (i : Int) (hl : l.length = 32) : ∃ x : List UInt8, x.length = 32 ∧ (∀ W, Calls Try.prog 20 #[kv l, .int .i64 i] W (GaveKey W x)) ∧ (∀ W, Calls Try.prog 21 #[kv l, .int .i64 i] W (GaveKey W x)) := by
  by_cases h : 0 ≤ i ∧ i < 256
  · exact ⟨kturn l i.toNat, by rw [kturn_length, hl], fun W => Turn_in l i W h.1 h.2 hl, fun W => RTurn_in l i W h.1 h.2 hl⟩
  · exact ⟨l, hl, fun W => Turn_out l i W (by omega) hl, fun W => RTurn_out l i W (by omega) hl⟩

set_option maxRecDepth 100000 in
set_option maxHeartbeats 1000000 in
theorem OctetBits_any (a b : List UInt8) (i : Int) (w : World) (ha : a.length = 32) (hb : b.length = 32) :
    Calls Try.prog 4 #[kv a, kv b, .int .i64 i] w fun e w' => e = .returned (.bool true) ∧ Below w.heap.size w w' := by
  obtain ⟨x, hx1, hx2⟩ := bits_alike a i ha
  obtain ⟨l2, hl2, ht1, ht2⟩ := turns_alike a i ha
  have hc1 := fun W => Compare_any a b W ha hb
  have hc2 := fun W => RCompare_any a b W ha hb
  have heq : ∀ W, (binOp .eql 36 (kv l2) (kv l2)).run Try.prog W = .ok (.bool true) W := fun W => by
    have h := run_eql_key l2 l2 W hl2 hl2
    rwa [decide_eq_true rfl] at h
  have hgd : ∀ x y W, (eqGuard .eql 36 x y (kv l2) (kv l2)).run Try.prog W = .ok () W := fun x y W => run_guard_key x y l2 l2 W
  have hu := Try.underlying36
  have hi1 : (Try.prog.info? 36).map (·.size) = some (a.map bv).length := by rw [Try.info32, List.length_map, ha]
  have hi2 : (Try.prog.info? 36).map (·.size) = some (b.map bv).length := by rw [Try.info32, List.length_map, hb]
  have HX1 := Lib.hid hx1
  have HX2 := Lib.hid hx2
  have HT1 := Lib.hid ht1
  have HT2 := Lib.hid ht2
  have HC1 := Lib.hid hc1
  have HC2 := Lib.hid hc2
  clear hx1 hx2 ht1 ht2 hc1 hc2 ha hb hl2
  unfold kv
  go_enter Try.func4, Try.ntmps4
  go_wp2_with (go_at_call 8; refine (awake_any _).mono ?_; rintro e w1 ⟨rfl, hb1⟩)
  have hr1 : w1.rangeAt w.heap.size 0 (a.map bv) := range_below (key_range (heap_alloc2_old w _ _)) hb1 (by simp; omega)
  have hr2 : w1.rangeAt (w.heap.size + 1) 0 (b.map bv) := range_below (key_range (heap_alloc2_new w _ _)) hb1 (by simp)
  have hB1 : Below w.heap.size w w1 := (((Below.refl _ w).alloc (Nat.le_refl _) _).alloc (by simp) _).trans (hb1.mono (by simp; omega))
  have hlt : w.heap.size + 1 < w1.heap.size := by have := hb1.size; simp at this; omega
  refine wp_region_noPanic ?_
  refine wp_region_held_drew (S := (fun w' => w'.rangeAt w.heap.size 0 (a.map bv) ∧ w'.rangeAt (w.heap.size + 1) 0 (b.map bv) ∧ Below w.heap.size w w' ∧ w.heap.size + 1 < w'.heap.size)) (by kernel_rfl) (by (try dsimp only); (first | (exact ⟨hr1, hr2, hB1.drew, hlt⟩) | (go_split_ands; exact ⟨range_below ‹_› hbk (by omega), range_below ‹_› hbk (by omega), Below.trans ‹_› (hbk.mono (by omega)), Nat.lt_of_lt_of_le ‹_› hbk.size⟩))) (fun hHeld => ?_)
  refine wpAnyH_take (i := 0) (v := ?_) rfl (by kernel_rfl) (by kernel_rfl) (by kernel_rfl) (fun _ _ _ h => h) (Or.inl ⟨by rfl, ?_⟩) (by assumption) ?_
  rotate_left
  · intro w hSw; (try dsimp only at hSw); go_simp <;> with_reducible rfl
  try simp only [Act.put, List.getElem_toArray, List.getElem_cons_succ, List.getElem_cons_zero, List.setIfInBounds_toArray, List.set_cons_zero, List.set_cons_succ]
  refine wpAnyH_take (i := 1) (v := ?_) rfl (by kernel_rfl) (by kernel_rfl) (by kernel_rfl) (fun _ _ _ h => h) (Or.inl ⟨by rfl, ?_⟩) (by assumption) ?_
  rotate_left
  · intro w hSw; (try dsimp only at hSw); go_simp <;> with_reducible rfl
  try simp only [Act.put, List.getElem_toArray, List.getElem_cons_succ, List.getElem_cons_zero, List.setIfInBounds_toArray, List.set_cons_zero, List.set_cons_succ]
  refine' wpAnyH_take (i := 2) (v := _) rfl (by kernel_rfl) (by kernel_rfl) (by kernel_rfl) (fun _ _ _ h => h) (yieldsIf_load_mid (by rfl) _ _ rfl _ _ rfl _ _ ?hS2 ?hu2 ?hd2 ?hi2) (by assumption) ?rest2
  case hS2 => intro w hSw; (try dsimp only at hSw); go_split_ands; assumption
  case hu2 => assumption
  case hd2 => rfl
  case hi2 => first | assumption | (simp only [*]; done)
  try simp only [Act.put, List.getElem_toArray, List.getElem_cons_succ, List.getElem_cons_zero, List.setIfInBounds_toArray, List.set_cons_zero, List.set_cons_succ]
  refine wpAnyH_take (i := 3) (v := ?_) rfl (by kernel_rfl) (by kernel_rfl) (by kernel_rfl) (fun _ _ _ h => h) (Or.inl ⟨by rfl, ?_⟩) (by assumption) ?_
  rotate_left
  · intro w hSw; (try dsimp only at hSw); go_simp <;> with_reducible rfl
  try simp only [Act.put, List.getElem_toArray, List.getElem_cons_succ, List.getElem_cons_zero, List.setIfInBounds_toArray, List.set_cons_zero, List.set_cons_succ]
  refine' wpAnyH_take (i := 5) (v := _) rfl (by kernel_rfl) (by kernel_rfl) (by kernel_rfl) (fun _ _ _ h => h) (yieldsIf_load_mid (by rfl) _ _ rfl _ _ rfl _ _ ?hS5 ?hu5 ?hd5 ?hi5) (by assumption) ?rest5
  case hS5 => intro w hSw; (try dsimp only at hSw); go_split_ands; assumption
  case hu5 => assumption
  case hd5 => rfl
  case hi5 => first | assumption | (simp only [*]; done)
  try simp only [Act.put, List.getElem_toArray, List.getElem_cons_succ, List.getElem_cons_zero, List.setIfInBounds_toArray, List.set_cons_zero, List.set_cons_succ]
  refine wpAnyH_take (i := 6) (v := ?_) rfl (by kernel_rfl) (by kernel_rfl) (by kernel_rfl) (fun _ _ _ h => h) (Or.inl ⟨by rfl, ?_⟩) (by assumption) ?_
  rotate_left
  · intro w hSw; (try dsimp only at hSw); go_simp <;> with_reducible rfl
  try simp only [Act.put, List.getElem_toArray, List.getElem_cons_succ, List.getElem_cons_zero, List.setIfInBounds_toArray, List.set_cons_zero, List.set_cons_succ]
  refine wpAnyH_ready (rs := [4]) (by kernel_rfl) (by simp) ?_
  refine AllReadyH.cons rfl (fun K hK => ?_) AllReadyH.nil
  simp only [List.getElem_toArray, List.getElem_cons_succ, List.getElem_cons_zero]
  go_simp
  (first | (go_at_call 18; refine (HX1.out _).mono ?_; rintro e w' ⟨rfl, hbk⟩) | (go_at_call 19; refine (HX2.out _).mono ?_; rintro e w' ⟨rfl, hbk⟩) | (go_at_call 20; refine (HT1.out _).mono ?_; rintro e w' ⟨rfl, hbk⟩) | (go_at_call 21; refine (HT2.out _).mono ?_; rintro e w' ⟨rfl, hbk⟩) | (go_at_call 22; refine (HC1.out _).mono ?_; rintro e w' ⟨rfl, hbk⟩) | (go_at_call 23; refine (HC2.out _).mono ?_; rintro e w' ⟨rfl, hbk⟩))
  go_wp2_with fail
  refine hK.out _ _ ?_ (fun hHeld => ?_)
  · (try dsimp only); (first | (exact ⟨hr1, hr2, hB1.drew, hlt⟩) | (go_split_ands; exact ⟨range_below ‹_› hbk (by omega), range_below ‹_› hbk (by omega), Below.trans ‹_› (hbk.mono (by omega)), Nat.lt_of_lt_of_le ‹_› hbk.size⟩))
  clear hK K
  try simp only [Act.put, List.getElem_toArray, List.getElem_cons_succ, List.getElem_cons_zero, List.setIfInBounds_toArray, List.set_cons_zero, List.set_cons_succ]
  refine wpAnyH_ready (rs := [7]) (by kernel_rfl) (by simp) ?_
  refine AllReadyH.cons rfl (fun K hK => ?_) AllReadyH.nil
  simp only [List.getElem_toArray, List.getElem_cons_succ, List.getElem_cons_zero]
  go_simp
  (first | (go_at_call 18; refine (HX1.out _).mono ?_; rintro e w' ⟨rfl, hbk⟩) | (go_at_call 19; refine (HX2.out _).mono ?_; rintro e w' ⟨rfl, hbk⟩) | (go_at_call 20; refine (HT1.out _).mono ?_; rintro e w' ⟨rfl, hbk⟩) | (go_at_call 21; refine (HT2.out _).mono ?_; rintro e w' ⟨rfl, hbk⟩) | (go_at_call 22; refine (HC1.out _).mono ?_; rintro e w' ⟨rfl, hbk⟩) | (go_at_call 23; refine (HC2.out _).mono ?_; rintro e w' ⟨rfl, hbk⟩))
  go_wp2_with fail
  refine hK.out _ _ ?_ (fun hHeld => ?_)
  · (try dsimp only); (first | (exact ⟨hr1, hr2, hB1.drew, hlt⟩) | (go_split_ands; exact ⟨range_below ‹_› hbk (by omega), range_below ‹_› hbk (by omega), Below.trans ‹_› (hbk.mono (by omega)), Nat.lt_of_lt_of_le ‹_› hbk.size⟩))
  clear hK K
  try simp only [Act.put, List.getElem_toArray, List.getElem_cons_succ, List.getElem_cons_zero, List.setIfInBounds_toArray, List.set_cons_zero, List.set_cons_succ]
  refine wpAnyH_take (i := 8) (v := ?_) rfl (by kernel_rfl) (by kernel_rfl) (by kernel_rfl) (fun _ _ _ h => h) (Or.inl ⟨by rfl, ?_⟩) (by assumption) ?_
  rotate_left
  · intro w hSw; (try dsimp only at hSw); go_simp <;> with_reducible rfl
  try simp only [Act.put, List.getElem_toArray, List.getElem_cons_succ, List.getElem_cons_zero, List.setIfInBounds_toArray, List.set_cons_zero, List.set_cons_succ]
  refine wpAnyH_take (i := 9) (v := ?_) rfl (by kernel_rfl) (by kernel_rfl) (by kernel_rfl) (fun _ _ _ h => h) (Or.inl ⟨by rfl, ?_⟩) (by assumption) ?_
  rotate_left
  · intro w hSw; (try dsimp only at hSw); go_simp <;> with_reducible rfl
  try simp only [Act.put, List.getElem_toArray, List.getElem_cons_succ, List.getElem_cons_zero, List.setIfInBounds_toArray, List.set_cons_zero, List.set_cons_succ]
  refine wpAnyH_take (i := 10) (v := ?_) rfl (by kernel_rfl) (by kernel_rfl) (by kernel_rfl) (fun _ _ _ h => h) (Or.inl ⟨by rfl, ?_⟩) (by assumption) ?_
  rotate_left
  · intro w hSw; (try dsimp only at hSw); go_simp <;> with_reducible rfl
  try simp only [Act.put, List.getElem_toArray, List.getElem_cons_succ, List.getElem_cons_zero, List.setIfInBounds_toArray, List.set_cons_zero, List.set_cons_succ]
  refine' wpAnyH_take (i := 11) (v := _) rfl (by kernel_rfl) (by kernel_rfl) (by kernel_rfl) (fun _ _ _ h => h) (yieldsIf_load_mid (by rfl) _ _ rfl _ _ rfl _ _ ?hS11 ?hu11 ?hd11 ?hi11) (by assumption) ?rest11
  case hS11 => intro w hSw; (try dsimp only at hSw); go_split_ands; assumption
  case hu11 => assumption
  case hd11 => rfl
  case hi11 => first | assumption | (simp only [*]; done)
  try simp only [Act.put, List.getElem_toArray, List.getElem_cons_succ, List.getElem_cons_zero, List.setIfInBounds_toArray, List.set_cons_zero, List.set_cons_succ]
  refine wpAnyH_take (i := 12) (v := ?_) rfl (by kernel_rfl) (by kernel_rfl) (by kernel_rfl) (fun _ _ _ h => h) (Or.inl ⟨by rfl, ?_⟩) (by assumption) ?_
  rotate_left
  · intro w hSw; (try dsimp only at hSw); go_simp <;> with_reducible rfl
  try simp only [Act.put, List.getElem_toArray, List.getElem_cons_succ, List.getElem_cons_zero, List.setIfInBounds_toArray, List.set_cons_zero, List.set_cons_succ]
  refine' wpAnyH_take (i := 14) (v := _) rfl (by kernel_rfl) (by kernel_rfl) (by kernel_rfl) (fun _ _ _ h => h) (yieldsIf_load_mid (by rfl) _ _ rfl _ _ rfl _ _ ?hS14 ?hu14 ?hd14 ?hi14) (by assumption) ?rest14
  case hS14 => intro w hSw; (try dsimp only at hSw); go_split_ands; assumption
  case hu14 => assumption
  case hd14 => rfl
  case hi14 => first | assumption | (simp only [*]; done)
  try simp only [Act.put, List.getElem_toArray, List.getElem_cons_succ, List.getElem_cons_zero, List.setIfInBounds_toArray, List.set_cons_zero, List.set_cons_succ]
  refine wpAnyH_take (i := 15) (v := ?_) rfl (by kernel_rfl) (by kernel_rfl) (by kernel_rfl) (fun _ _ _ h => h) (Or.inl ⟨by rfl, ?_⟩) (by assumption) ?_
  rotate_left
  · intro w hSw; (try dsimp only at hSw); go_simp <;> with_reducible rfl
  try simp only [Act.put, List.getElem_toArray, List.getElem_cons_succ, List.getElem_cons_zero, List.setIfInBounds_toArray, List.set_cons_zero, List.set_cons_succ]
  refine wpAnyH_ready (rs := [13]) (by kernel_rfl) (by simp) ?_
  refine AllReadyH.cons rfl (fun K hK => ?_) AllReadyH.nil
  simp only [List.getElem_toArray, List.getElem_cons_succ, List.getElem_cons_zero]
  go_simp
  (first | (go_at_call 18; refine (HX1.out _).mono ?_; rintro e w' ⟨rfl, hbk⟩) | (go_at_call 19; refine (HX2.out _).mono ?_; rintro e w' ⟨rfl, hbk⟩) | (go_at_call 20; refine (HT1.out _).mono ?_; rintro e w' ⟨rfl, hbk⟩) | (go_at_call 21; refine (HT2.out _).mono ?_; rintro e w' ⟨rfl, hbk⟩) | (go_at_call 22; refine (HC1.out _).mono ?_; rintro e w' ⟨rfl, hbk⟩) | (go_at_call 23; refine (HC2.out _).mono ?_; rintro e w' ⟨rfl, hbk⟩))
  go_wp2_with fail
  refine hK.out _ _ ?_ (fun hHeld => ?_)
  · (try dsimp only); (first | (exact ⟨hr1, hr2, hB1.drew, hlt⟩) | (go_split_ands; exact ⟨range_below ‹_› hbk (by omega), range_below ‹_› hbk (by omega), Below.trans ‹_› (hbk.mono (by omega)), Nat.lt_of_lt_of_le ‹_› hbk.size⟩))
  clear hK K
  try simp only [Act.put, List.getElem_toArray, List.getElem_cons_succ, List.getElem_cons_zero, List.setIfInBounds_toArray, List.set_cons_zero, List.set_cons_succ]
  refine wpAnyH_ready (rs := [16]) (by kernel_rfl) (by simp) ?_
  refine AllReadyH.cons rfl (fun K hK => ?_) AllReadyH.nil
  simp only [List.getElem_toArray, List.getElem_cons_succ, List.getElem_cons_zero]
  go_simp
  (first | (go_at_call 18; refine (HX1.out _).mono ?_; rintro e w' ⟨rfl, hbk⟩) | (go_at_call 19; refine (HX2.out _).mono ?_; rintro e w' ⟨rfl, hbk⟩) | (go_at_call 20; refine (HT1.out _).mono ?_; rintro e w' ⟨rfl, hbk⟩) | (go_at_call 21; refine (HT2.out _).mono ?_; rintro e w' ⟨rfl, hbk⟩) | (go_at_call 22; refine (HC1.out _).mono ?_; rintro e w' ⟨rfl, hbk⟩) | (go_at_call 23; refine (HC2.out _).mono ?_; rintro e w' ⟨rfl, hbk⟩))
  go_wp2_with fail
  refine hK.out _ _ ?_ (fun hHeld => ?_)
  · (try dsimp only); (first | (exact ⟨hr1, hr2, hB1.drew, hlt⟩) | (go_split_ands; exact ⟨range_below ‹_› hbk (by omega), range_below ‹_› hbk (by omega), Below.trans ‹_› (hbk.mono (by omega)), Nat.lt_of_lt_of_le ‹_› hbk.size⟩))
  clear hK K
  try simp only [Act.put, List.getElem_toArray, List.getElem_cons_succ, List.getElem_cons_zero, List.setIfInBounds_toArray, List.set_cons_zero, List.set_cons_succ]
  refine wpAnyH_take (i := 17) (v := ?_) rfl (by kernel_rfl) (by kernel_rfl) (by kernel_rfl) (fun _ _ _ h => h) (Or.inl ⟨by rfl, ?_⟩) (by assumption) ?_
  rotate_left
  · intro w hSw; (try dsimp only at hSw); go_simp <;> with_reducible rfl
  try simp only [Act.put, List.getElem_toArray, List.getElem_cons_succ, List.getElem_cons_zero, List.setIfInBounds_toArray, List.set_cons_zero, List.set_cons_succ]
  refine wpAnyH_take (i := 18) (v := ?_) rfl (by kernel_rfl) (by kernel_rfl) (by kernel_rfl) (fun _ _ _ h => h) (Or.inl ⟨by rfl, ?_⟩) (by assumption) ?_
  rotate_left
  · intro w hSw; (try dsimp only at hSw); go_simp <;> with_reducible rfl
  try simp only [Act.put, List.getElem_toArray, List.getElem_cons_succ, List.getElem_cons_zero, List.setIfInBounds_toArray, List.set_cons_zero, List.set_cons_succ]
  refine wpAnyH_take (i := 19) (v := ?_) rfl (by kernel_rfl) (by kernel_rfl) (by kernel_rfl) (fun _ _ _ h => h) (Or.inl ⟨by rfl, ?_⟩) (by assumption) ?_
  rotate_left
  · intro w hSw; (try dsimp only at hSw); go_simp <;> with_reducible rfl
  try simp only [Act.put, List.getElem_toArray, List.getElem_cons_succ, List.getElem_cons_zero, List.setIfInBounds_toArray, List.set_cons_zero, List.set_cons_succ]
  refine' wpAnyH_take (i := 20) (v := _) rfl (by kernel_rfl) (by kernel_rfl) (by kernel_rfl) (fun _ _ _ h => h) (yieldsIf_load_mid (by rfl) _ _ rfl _ _ rfl _ _ ?hS20 ?hu20 ?hd20 ?hi20) (by assumption) ?rest20
  case hS20 => intro w hSw; (try dsimp only at hSw); go_split_ands; assumption
  case hu20 => assumption
  case hd20 => rfl
  case hi20 => first | assumption | (simp only [*]; done)
  try simp only [Act.put, List.getElem_toArray, List.getElem_cons_succ, List.getElem_cons_zero, List.setIfInBounds_toArray, List.set_cons_zero, List.set_cons_succ]
  refine' wpAnyH_take (i := 21) (v := _) rfl (by kernel_rfl) (by kernel_rfl) (by kernel_rfl) (fun _ _ _ h => h) (yieldsIf_load_mid (by rfl) _ _ rfl _ _ rfl _ _ ?hS21 ?hu21 ?hd21 ?hi21) (by assumption) ?rest21
  case hS21 => intro w hSw; (try dsimp only at hSw); go_split_ands; assumption
  case hu21 => assumption
  case hd21 => rfl
  case hi21 => first | assumption | (simp only [*]; done)
  try simp only [Act.put, List.getElem_toArray, List.getElem_cons_succ, List.getElem_cons_zero, List.setIfInBounds_toArray, List.set_cons_zero, List.set_cons_succ]
  refine' wpAnyH_take (i := 23) (v := _) rfl (by kernel_rfl) (by kernel_rfl) (by kernel_rfl) (fun _ _ _ h => h) (yieldsIf_load_mid (by rfl) _ _ rfl _ _ rfl _ _ ?hS23 ?hu23 ?hd23 ?hi23) (by assumption) ?rest23
  case hS23 => intro w hSw; (try dsimp only at hSw); go_split_ands; assumption
  case hu23 => assumption
  case hd23 => rfl
  case hi23 => first | assumption | (simp only [*]; done)
  try simp only [Act.put, List.getElem_toArray, List.getElem_cons_succ, List.getElem_cons_zero, List.setIfInBounds_toArray, List.set_cons_zero, List.set_cons_succ]
  refine' wpAnyH_take (i := 24) (v := _) rfl (by kernel_rfl) (by kernel_rfl) (by kernel_rfl) (fun _ _ _ h => h) (yieldsIf_load_mid (by rfl) _ _ rfl _ _ rfl _ _ ?hS24 ?hu24 ?hd24 ?hi24) (by assumption) ?rest24
  case hS24 => intro w hSw; (try dsimp only at hSw); go_split_ands; assumption
  case hu24 => assumption
  case hd24 => rfl
  case hi24 => first | assumption | (simp only [*]; done)
  try simp only [Act.put, List.getElem_toArray, List.getElem_cons_succ, List.getElem_cons_zero, List.setIfInBounds_toArray, List.set_cons_zero, List.set_cons_succ]
  refine wpAnyH_ready (rs := [22]) (by kernel_rfl) (by simp) ?_
  refine AllReadyH.cons rfl (fun K hK => ?_) AllReadyH.nil
  simp only [List.getElem_toArray, List.getElem_cons_succ, List.getElem_cons_zero]
  go_simp
  (first | (go_at_call 18; refine (HX1.out _).mono ?_; rintro e w' ⟨rfl, hbk⟩) | (go_at_call 19; refine (HX2.out _).mono ?_; rintro e w' ⟨rfl, hbk⟩) | (go_at_call 20; refine (HT1.out _).mono ?_; rintro e w' ⟨rfl, hbk⟩) | (go_at_call 21; refine (HT2.out _).mono ?_; rintro e w' ⟨rfl, hbk⟩) | (go_at_call 22; refine (HC1.out _).mono ?_; rintro e w' ⟨rfl, hbk⟩) | (go_at_call 23; refine (HC2.out _).mono ?_; rintro e w' ⟨rfl, hbk⟩))
  go_wp2_with fail
  refine hK.out _ _ ?_ (fun hHeld => ?_)
  · (try dsimp only); (first | (exact ⟨hr1, hr2, hB1.drew, hlt⟩) | (go_split_ands; exact ⟨range_below ‹_› hbk (by omega), range_below ‹_› hbk (by omega), Below.trans ‹_› (hbk.mono (by omega)), Nat.lt_of_lt_of_le ‹_› hbk.size⟩))
  clear hK K
  try simp only [Act.put, List.getElem_toArray, List.getElem_cons_succ, List.getElem_cons_zero, List.setIfInBounds_toArray, List.set_cons_zero, List.set_cons_succ]
  refine wpAnyH_ready (rs := [25]) (by kernel_rfl) (by simp) ?_
  refine AllReadyH.cons rfl (fun K hK => ?_) AllReadyH.nil
  simp only [List.getElem_toArray, List.getElem_cons_succ, List.getElem_cons_zero]
  go_simp
  (first | (go_at_call 18; refine (HX1.out _).mono ?_; rintro e w' ⟨rfl, hbk⟩) | (go_at_call 19; refine (HX2.out _).mono ?_; rintro e w' ⟨rfl, hbk⟩) | (go_at_call 20; refine (HT1.out _).mono ?_; rintro e w' ⟨rfl, hbk⟩) | (go_at_call 21; refine (HT2.out _).mono ?_; rintro e w' ⟨rfl, hbk⟩) | (go_at_call 22; refine (HC1.out _).mono ?_; rintro e w' ⟨rfl, hbk⟩) | (go_at_call 23; refine (HC2.out _).mono ?_; rintro e w' ⟨rfl, hbk⟩))
  go_wp2_with fail
  refine hK.out _ _ ?_ (fun hHeld => ?_)
  · (try dsimp only); (first | (exact ⟨hr1, hr2, hB1.drew, hlt⟩) | (go_split_ands; exact ⟨range_below ‹_› hbk (by omega), range_below ‹_› hbk (by omega), Below.trans ‹_› (hbk.mono (by omega)), Nat.lt_of_lt_of_le ‹_› hbk.size⟩))
  clear hK K
  try simp only [Act.put, List.getElem_toArray, List.getElem_cons_succ, List.getElem_cons_zero, List.setIfInBounds_toArray, List.set_cons_zero, List.set_cons_succ]
  refine wpAnyH_take (i := 26) (v := ?_) rfl (by kernel_rfl) (by kernel_rfl) (by kernel_rfl) (fun _ _ _ h => h) (Or.inl ⟨by rfl, ?_⟩) (by assumption) ?_
  rotate_left
  · intro w hSw; (try dsimp only at hSw); go_simp <;> with_reducible rfl
  try simp only [Act.put, List.getElem_toArray, List.getElem_cons_succ, List.getElem_cons_zero, List.setIfInBounds_toArray, List.set_cons_zero, List.set_cons_succ]
  refine wpAnyH_take (i := 27) (v := ?_) rfl (by kernel_rfl) (by kernel_rfl) (by kernel_rfl) (fun _ _ _ h => h) (Or.inl ⟨by rfl, ?_⟩) (by assumption) ?_
  rotate_left
  · intro w hSw; (try dsimp only at hSw); go_simp <;> with_reducible rfl
  try simp only [Act.put, List.getElem_toArray, List.getElem_cons_succ, List.getElem_cons_zero, List.setIfInBounds_toArray, List.set_cons_zero, List.set_cons_succ]
  refine wpAnyH_take (i := 28) (v := ?_) rfl (by kernel_rfl) (by kernel_rfl) (by kernel_rfl) (fun _ _ _ h => h) (Or.inl ⟨by rfl, ?_⟩) (by assumption) ?_
  rotate_left
  · intro w hSw; (try dsimp only at hSw); go_simp <;> with_reducible rfl
  try simp only [Act.put, List.getElem_toArray, List.getElem_cons_succ, List.getElem_cons_zero, List.setIfInBounds_toArray, List.set_cons_zero, List.set_cons_succ]
  refine wpAnyH_done (by kernel_rfl) ?_ _
  refine NoPanic.normal ?_
  go_split_ands
  go_wp2
  go_ret
  exact ⟨rfl, by assumption⟩
end Go.Proofs.Ytdihimepaihnpaa
