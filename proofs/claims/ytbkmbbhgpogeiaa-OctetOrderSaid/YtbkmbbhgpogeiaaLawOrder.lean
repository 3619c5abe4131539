/-
  OctetOrder: which comes first by the first bit that differs; turning twice; one that is turned differs there alone. For every input.
-/
import Derived.Test.YtbkmbbhgpogeiaaAwake
import Derived.Test.YtbkmbbhgpogeiaaEq
import Derived.Test.YtbkmbbhgpogeiaaOrder
import Derived.Deep.RegionHeld3
import Derived.Deep.QuietTactic
namespace Go.Proofs.Ytbkmbbhgpogeiaa
open Go.RowKit

attribute [local go_sem ↓] load_veil

/-- Block g holds the key l. -/
def Holds (W : World) (g : Nat) (l : List UInt8) : Prop := W.heap[g]? = some (.cells (l.map bv).toArray 36 (0, 0))
theorem Holds.lt {W : World} {g : Nat} {l : List UInt8} (h : Holds W g l) : g < W.heap.size := (Array.getElem?_eq_some_iff.1 h).1
theorem Holds.keep {W W' : World} {g : Nat} {l : List UInt8} (h : Holds W g l) (hb : Below W.heap.size W W') : Holds W' g l := (hb.block g h.lt).trans h
theorem Holds.load {W : World} {g : Nat} {l : List UInt8} (h : Holds W g l) (hl : l.length = 32) : (loadVeil 36 ⟨g, 0, none⟩).run Try.prog W = .ok (kv l) W := run_loadVeil hl h
theorem Holds.range {W : World} {g : Nat} {l : List UInt8} (h : Holds W g l) : W.rangeAt g 0 (l.map bv) := key_range h

set_option maxRecDepth 100000 in
set_option maxHeartbeats 2000000 in
theorem OctetOrder_any (a b : List UInt8) (i : Nat) (w : World) (ha : a.length = 32) (hb : b.length = 32) (hi : i < 256) :
    Calls Try.prog 6 #[kv a, kv b, .int .u8 i] w fun e w' => e = .returned (.bool true) ∧ Below w.heap.size w w' := by
  obtain ⟨c, hc⟩ : ∃ c, c = kcmp a b := ⟨_, rfl⟩
  have hab := fun W => Compare_any a b W ha hb
  rw [← hc] at hab
  have HC := Lib.hid hc
  have HBA : Hid (∀ W, Calls Try.prog 22 #[.agg (b.map bv).toArray, .agg (a.map bv).toArray] W (GaveInt W (-c))) := Lib.hid fun W => by
    have := Compare_any b a W hb ha
    rwa [show kcmp b a = -c by rw [hc]; exact cmp_anti a b] at this
  clear hc
  have heq : ∀ W, (binOp .eql 36 (kv a) (.agg (a.map bv).toArray)).run Try.prog W = .ok (.bool true) W := fun W => by
    have h := run_eql_key a a W ha ha
    rwa [decide_eq_true rfl] at h
  have hgd : ∀ x y W, (eqGuard .eql 36 x y (kv a) (.agg (a.map bv).toArray)).run Try.prog W = .ok () W := fun x y W => run_guard_key x y a a W
  have hu := Try.underlying36
  have hi1 : (Try.prog.info? 36).map (·.size) = some (a.map bv).length := by rw [Try.info32, List.length_map, ha]
  have hi2 : (Try.prog.info? 36).map (·.size) = some (b.map bv).length := by rw [Try.info32, List.length_map, hb]
  have HTU : Hid (∀ W, Calls Try.prog 20 #[kv a, .int .i64 i] W (GaveKey W (kturn a i))) := Lib.hid fun W => by have := Turn_in a i W (by omega) (by omega) ha; rwa [Int.toNat_natCast] at this
  have HAB := Lib.hid hab
  have HLa := Lib.hid ha
  obtain ⟨t, ht⟩ : ∃ t, t = kturn a i := ⟨_, rfl⟩
  have HLt : Hid (t.length = 32) := Lib.hid (by rw [ht, kturn_length, ha])
  have HT2 : Hid (kturn t i = a) := Lib.hid (by rw [ht]; exact kturn_twice ha hi)
  have HTB : Hid (∀ k, k < 256 → kbit t k = if k = i then 1 - kbit a k else kbit a k) := Lib.hid fun k hk => by rw [ht]; exact kbit_turn ha hi hk
  have HLb := Lib.hid hb
  have HI := Lib.hid hi
  have hi0 : (0 : Int) ≤ (i : Int) := by omega
  have hi255 : (i : Int) ≤ 255 := by omega
  have hwr : IntKind.i64.wrap (i : Int) = i := by simp only [IntKind.wrap, IntKind.bits, IntKind.signed]; simp; omega
  rw [← ht] at HTU
  have HTT : Hid (∀ W, Calls Try.prog 20 #[.agg (t.map bv).toArray, .int .i64 i] W (GaveKey W a)) := Lib.hid fun W => by
    have := Turn_in t i W (by omega) (by omega) HLt.out
    rwa [Int.toNat_natCast, HT2.out] at this
  have hi3 : (Try.prog.info? 36).map (·.size) = some (t.map bv).length := by rw [Try.info32, List.length_map, HLt.out]
  clear hab ha hb hi ht
  unfold kv
  go_enter Try.func6, Try.ntmps6
  go_wp2_with (first
    | (go_at_call 8; refine (awake_any _).mono ?_
       rintro e w1 ⟨rfl, hb1⟩
       have hA : Holds w1 w.heap.size a := Holds.keep (heap_alloc2_old w _ _) hb1
       have hB : Holds w1 (w.heap.size + 1) b := Holds.keep (heap_alloc2_new w _ _) hb1
       have hW1 : Below w.heap.size w w1 := (((Below.refl _ w).alloc (Nat.le_refl _) _).alloc (by simp) _).trans (hb1.mono (by simp; omega))
       have la := hA.load HLa.out
       have lb := hB.load HLb.out)
    | (go_at_call 22; refine (HAB.out _).mono ?_
       rintro e w2 ⟨rfl, hb2⟩
       have hA := hA.keep hb2
       have hB := hB.keep hb2
       have hW2 := hW1.trans (hb2.mono hW1.size))
    | fail)
  clear la lb hb1 hb2
  go_loopw [9] (fun v wr => ∃ k : Nat, k ≤ 256 ∧ v = .int .i64 k ∧ Hid (∀ j, j < k → kbit a j = kbit b j) ∧ Below w2.heap.size w2 wr)
    (fun v _ => 256 - (intOf v).toNat)
  case atStart => exact ⟨0, Nat.zero_le _, rfl, Lib.hid (fun j h => absurd h (by omega)), Below.refl _ _⟩
  case round =>
    obtain ⟨k, hk, rfl, halike, hbw⟩ := hrel
    have hAw := hA.keep hbw
    have hBw := hB.keep hbw
    have hra := hAw.range
    have hrb := hBw.range
    have hltA := hAw.lt
    have hltB := hBw.lt
    by_cases hlt : k < 256
    · have hk0 : (0 : Int) ≤ k := by omega
      have hk1 : (k : Int) < 256 := by omega
      obtain ⟨xa, hxa⟩ : ∃ x : Int, x = kbit a k := ⟨_, rfl⟩
      obtain ⟨xb, hxb⟩ : ∃ x : Int, x = kbit b k := ⟨_, rfl⟩
      have HA1 : Hid (∀ W, Calls Try.prog 18 #[.agg (a.map bv).toArray, .int .i64 k] W (GaveInt W xa)) := Lib.hid fun W => by have := Bit_in a k W hk0 hk1 HLa.out; rwa [Int.toNat_natCast, ← hxa] at this
      have HB1 : Hid (∀ W, Calls Try.prog 18 #[.agg (b.map bv).toArray, .int .i64 k] W (GaveInt W xb)) := Lib.hid fun W => by have := Bit_in b k W hk0 hk1 HLb.out; rwa [Int.toNat_natCast, ← hxb] at this
      by_cases hsame : xa = xb
      · have hal : Hid (∀ j, j < k + 1 → kbit a j = kbit b j) := Lib.hid fun j hj => by
          rcases Nat.lt_or_ge j k with h | h
          · exact halike.out j h
          · obtain rfl : j = k := by omega
            omega
        clear hxa hxb
        subst hsame
        go_wp2
        refine wp_region_noPanic ?_
        refine wp_region_held_drew (S := (fun W => W.rangeAt w.heap.size 0 (a.map bv) ∧ W.rangeAt (w.heap.size + 1) 0 (b.map bv) ∧ Below wr.heap.size wr W)) (by kernel_rfl) (by (try dsimp only); (first | (exact ⟨(World.rangeAt_drew _ _ _ _).2 hra, (World.rangeAt_drew _ _ _ _).2 hrb, (Below.refl _ _).drew⟩) | (obtain ⟨s1, s2, s3⟩ := ‹World.rangeAt _ _ _ _ ∧ World.rangeAt _ _ _ _ ∧ Below wr.heap.size wr _›; exact ⟨range_below s1 hbk (Nat.lt_of_lt_of_le hltA s3.size), range_below s2 hbk (Nat.lt_of_lt_of_le hltB s3.size), s3.trans (hbk.mono s3.size)⟩))) (fun hHeld => ?_)
        refine wpAnyH_take (i := 0) (v := ?_) rfl (by kernel_rfl) (by kernel_rfl) (by kernel_rfl) (fun _ _ _ h => h) (Or.inl ⟨by rfl, ?_⟩) (by assumption) ?_
        rotate_left
        · intro w hSw; (try dsimp only at hSw); go_simp <;> with_reducible rfl
        try simp only [Act.put, List.getElem_toArray, List.getElem_cons_succ, List.getElem_cons_zero, List.setIfInBounds_toArray, List.set_cons_zero, List.set_cons_succ]
        refine wpAnyH_take (i := 1) (v := ?_) rfl (by kernel_rfl) (by kernel_rfl) (by kernel_rfl) (fun _ _ _ h => h) (Or.inl ⟨by rfl, ?_⟩) (by assumption) ?_
        rotate_left
        · intro w hSw; (try dsimp only at hSw); go_simp <;> with_reducible rfl
        try simp only [Act.put, List.getElem_toArray, List.getElem_cons_succ, List.getElem_cons_zero, List.setIfInBounds_toArray, List.set_cons_zero, List.set_cons_succ]
        refine wpAnyH_take (i := 2) (v := ?_) rfl (by kernel_rfl) (by kernel_rfl) (by kernel_rfl) (fun _ _ _ h => h) (Or.inl ⟨by rfl, ?_⟩) (by assumption) ?_
        rotate_left
        · intro w hSw; (try dsimp only at hSw); go_simp <;> with_reducible rfl
        try simp only [Act.put, List.getElem_toArray, List.getElem_cons_succ, List.getElem_cons_zero, List.setIfInBounds_toArray, List.set_cons_zero, List.set_cons_succ]
        refine' wpAnyH_take (i := 3) (v := _) rfl (by kernel_rfl) (by kernel_rfl) (by kernel_rfl) (fun _ _ _ h => h) (yieldsIf_load_mid (by rfl) _ _ rfl _ _ rfl _ _ ?hS3_1 ?hu3_1 ?hd3_1 ?hi3_1) (by assumption) ?rest3_1
        case hS3_1 => intro w hSw; (try dsimp only at hSw); go_split_ands; assumption
        case hu3_1 => assumption
        case hd3_1 => rfl
        case hi3_1 => first | assumption | (simp only [*]; done)
        try simp only [Act.put, List.getElem_toArray, List.getElem_cons_succ, List.getElem_cons_zero, List.setIfInBounds_toArray, List.set_cons_zero, List.set_cons_succ]
        refine wpAnyH_take (i := 4) (v := ?_) rfl (by kernel_rfl) (by kernel_rfl) (by kernel_rfl) (fun _ _ _ h => h) (Or.inl ⟨by rfl, ?_⟩) (by assumption) ?_
        rotate_left
        · intro w hSw; (try dsimp only at hSw); go_simp <;> with_reducible rfl
        try simp only [Act.put, List.getElem_toArray, List.getElem_cons_succ, List.getElem_cons_zero, List.setIfInBounds_toArray, List.set_cons_zero, List.set_cons_succ]
        refine' wpAnyH_take (i := 6) (v := _) rfl (by kernel_rfl) (by kernel_rfl) (by kernel_rfl) (fun _ _ _ h => h) (yieldsIf_load_mid (by rfl) _ _ rfl _ _ rfl _ _ ?hS6_1 ?hu6_1 ?hd6_1 ?hi6_1) (by assumption) ?rest6_1
        case hS6_1 => intro w hSw; (try dsimp only at hSw); go_split_ands; assumption
        case hu6_1 => assumption
        case hd6_1 => rfl
        case hi6_1 => first | assumption | (simp only [*]; done)
        try simp only [Act.put, List.getElem_toArray, List.getElem_cons_succ, List.getElem_cons_zero, List.setIfInBounds_toArray, List.set_cons_zero, List.set_cons_succ]
        refine wpAnyH_take (i := 7) (v := ?_) rfl (by kernel_rfl) (by kernel_rfl) (by kernel_rfl) (fun _ _ _ h => h) (Or.inl ⟨by rfl, ?_⟩) (by assumption) ?_
        rotate_left
        · intro w hSw; (try dsimp only at hSw); go_simp <;> with_reducible rfl
        try simp only [Act.put, List.getElem_toArray, List.getElem_cons_succ, List.getElem_cons_zero, List.setIfInBounds_toArray, List.set_cons_zero, List.set_cons_succ]
        refine wpAnyH_ready (rs := [5]) (by kernel_rfl) (by simp) ?_
        refine AllReadyH.cons rfl (fun K hK => ?_) AllReadyH.nil
        simp only [List.getElem_toArray, List.getElem_cons_succ, List.getElem_cons_zero]
        go_simp
        (first | (go_at_call 18; (first | with_reducible refine (HA1.out _).mono ?_ | with_reducible refine (HB1.out _).mono ?_); rintro e w' ⟨rfl, hbk⟩))
        go_wp2_with fail
        refine hK.out _ _ ?_ (fun hHeld => ?_)
        · (try dsimp only); (first | (exact ⟨(World.rangeAt_drew _ _ _ _).2 hra, (World.rangeAt_drew _ _ _ _).2 hrb, (Below.refl _ _).drew⟩) | (obtain ⟨s1, s2, s3⟩ := ‹World.rangeAt _ _ _ _ ∧ World.rangeAt _ _ _ _ ∧ Below wr.heap.size wr _›; exact ⟨range_below s1 hbk (Nat.lt_of_lt_of_le hltA s3.size), range_below s2 hbk (Nat.lt_of_lt_of_le hltB s3.size), s3.trans (hbk.mono s3.size)⟩))
        clear hK K
        try simp only [Act.put, List.getElem_toArray, List.getElem_cons_succ, List.getElem_cons_zero, List.setIfInBounds_toArray, List.set_cons_zero, List.set_cons_succ]
        refine wpAnyH_ready (rs := [8]) (by kernel_rfl) (by simp) ?_
        refine AllReadyH.cons rfl (fun K hK => ?_) AllReadyH.nil
        simp only [List.getElem_toArray, List.getElem_cons_succ, List.getElem_cons_zero]
        go_simp
        (first | (go_at_call 18; (first | with_reducible refine (HA1.out _).mono ?_ | with_reducible refine (HB1.out _).mono ?_); rintro e w' ⟨rfl, hbk⟩))
        go_wp2_with fail
        refine hK.out _ _ ?_ (fun hHeld => ?_)
        · (try dsimp only); (first | (exact ⟨(World.rangeAt_drew _ _ _ _).2 hra, (World.rangeAt_drew _ _ _ _).2 hrb, (Below.refl _ _).drew⟩) | (obtain ⟨s1, s2, s3⟩ := ‹World.rangeAt _ _ _ _ ∧ World.rangeAt _ _ _ _ ∧ Below wr.heap.size wr _›; exact ⟨range_below s1 hbk (Nat.lt_of_lt_of_le hltA s3.size), range_below s2 hbk (Nat.lt_of_lt_of_le hltB s3.size), s3.trans (hbk.mono s3.size)⟩))
        clear hK K
        try simp only [Act.put, List.getElem_toArray, List.getElem_cons_succ, List.getElem_cons_zero, List.setIfInBounds_toArray, List.set_cons_zero, List.set_cons_succ]
        refine wpAnyH_take (i := 9) (v := ?_) rfl (by kernel_rfl) (by kernel_rfl) (by kernel_rfl) (fun _ _ _ h => h) (Or.inl ⟨by rfl, ?_⟩) (by assumption) ?_
        rotate_left
        · intro w hSw; (try dsimp only at hSw); go_simp <;> with_reducible rfl
        try simp only [Act.put, List.getElem_toArray, List.getElem_cons_succ, List.getElem_cons_zero, List.setIfInBounds_toArray, List.set_cons_zero, List.set_cons_succ]
        refine wpAnyH_take (i := 10) (v := ?_) rfl (by kernel_rfl) (by kernel_rfl) (by kernel_rfl) (fun _ _ _ h => h) (Or.inl ⟨by rfl, ?_⟩) (by assumption) ?_
        rotate_left
        · intro w hSw; (try dsimp only at hSw); go_simp <;> with_reducible rfl
        try simp only [Act.put, List.getElem_toArray, List.getElem_cons_succ, List.getElem_cons_zero, List.setIfInBounds_toArray, List.set_cons_zero, List.set_cons_succ]
        refine wpAnyH_done (by kernel_rfl) ?_ _
        refine NoPanic.normal ?_
        go_split_ands
        go_wp2
        go_roundw
        case rel => exact ⟨k + 1, by omega, by go_num, hal, hbw.trans (Below.mono ‹Below wr.heap.size wr _› hbw.size)⟩
        case measure => simp [intOf]; omega
      · have hdiff : Hid (kbit a k ≠ kbit b k) := Lib.hid fun e => hsame (by omega)
        have hne : (xa == xb) = false := by simpa using hsame
        have hxA := Lib.hid hxa
        have hxB := Lib.hid hxb
        clear hxa hxb
        go_wp2
        refine wp_region_noPanic ?_
        refine wp_region_held_drew (S := (fun W => W.rangeAt w.heap.size 0 (a.map bv) ∧ W.rangeAt (w.heap.size + 1) 0 (b.map bv) ∧ Below wr.heap.size wr W)) (by kernel_rfl) (by (try dsimp only); (first | (exact ⟨(World.rangeAt_drew _ _ _ _).2 hra, (World.rangeAt_drew _ _ _ _).2 hrb, (Below.refl _ _).drew⟩) | (obtain ⟨s1, s2, s3⟩ := ‹World.rangeAt _ _ _ _ ∧ World.rangeAt _ _ _ _ ∧ Below wr.heap.size wr _›; exact ⟨range_below s1 hbk (Nat.lt_of_lt_of_le hltA s3.size), range_below s2 hbk (Nat.lt_of_lt_of_le hltB s3.size), s3.trans (hbk.mono s3.size)⟩))) (fun hHeld => ?_)
        refine wpAnyH_take (i := 0) (v := ?_) rfl (by kernel_rfl) (by kernel_rfl) (by kernel_rfl) (fun _ _ _ h => h) (Or.inl ⟨by rfl, ?_⟩) (by assumption) ?_
        rotate_left
        · intro w hSw; (try dsimp only at hSw); go_simp <;> with_reducible rfl
        try simp only [Act.put, List.getElem_toArray, List.getElem_cons_succ, List.getElem_cons_zero, List.setIfInBounds_toArray, List.set_cons_zero, List.set_cons_succ]
        refine wpAnyH_take (i := 1) (v := ?_) rfl (by kernel_rfl) (by kernel_rfl) (by kernel_rfl) (fun _ _ _ h => h) (Or.inl ⟨by rfl, ?_⟩) (by assumption) ?_
        rotate_left
        · intro w hSw; (try dsimp only at hSw); go_simp <;> with_reducible rfl
        try simp only [Act.put, List.getElem_toArray, List.getElem_cons_succ, List.getElem_cons_zero, List.setIfInBounds_toArray, List.set_cons_zero, List.set_cons_succ]
        refine wpAnyH_take (i := 2) (v := ?_) rfl (by kernel_rfl) (by kernel_rfl) (by kernel_rfl) (fun _ _ _ h => h) (Or.inl ⟨by rfl, ?_⟩) (by assumption) ?_
        rotate_left
        · intro w hSw; (try dsimp only at hSw); go_simp <;> with_reducible rfl
        try simp only [Act.put, List.getElem_toArray, List.getElem_cons_succ, List.getElem_cons_zero, List.setIfInBounds_toArray, List.set_cons_zero, List.set_cons_succ]
        refine' wpAnyH_take (i := 3) (v := _) rfl (by kernel_rfl) (by kernel_rfl) (by kernel_rfl) (fun _ _ _ h => h) (yieldsIf_load_mid (by rfl) _ _ rfl _ _ rfl _ _ ?hS3_2 ?hu3_2 ?hd3_2 ?hi3_2) (by assumption) ?rest3_2
        case hS3_2 => intro w hSw; (try dsimp only at hSw); go_split_ands; assumption
        case hu3_2 => assumption
        case hd3_2 => rfl
        case hi3_2 => first | assumption | (simp only [*]; done)
        try simp only [Act.put, List.getElem_toArray, List.getElem_cons_succ, List.getElem_cons_zero, List.setIfInBounds_toArray, List.set_cons_zero, List.set_cons_succ]
        refine wpAnyH_take (i := 4) (v := ?_) rfl (by kernel_rfl) (by kernel_rfl) (by kernel_rfl) (fun _ _ _ h => h) (Or.inl ⟨by rfl, ?_⟩) (by assumption) ?_
        rotate_left
        · intro w hSw; (try dsimp only at hSw); go_simp <;> with_reducible rfl
        try simp only [Act.put, List.getElem_toArray, List.getElem_cons_succ, List.getElem_cons_zero, List.setIfInBounds_toArray, List.set_cons_zero, List.set_cons_succ]
        refine' wpAnyH_take (i := 6) (v := _) rfl (by kernel_rfl) (by kernel_rfl) (by kernel_rfl) (fun _ _ _ h => h) (yieldsIf_load_mid (by rfl) _ _ rfl _ _ rfl _ _ ?hS6_2 ?hu6_2 ?hd6_2 ?hi6_2) (by assumption) ?rest6_2
        case hS6_2 => intro w hSw; (try dsimp only at hSw); go_split_ands; assumption
        case hu6_2 => assumption
        case hd6_2 => rfl
        case hi6_2 => first | assumption | (simp only [*]; done)
        try simp only [Act.put, List.getElem_toArray, List.getElem_cons_succ, List.getElem_cons_zero, List.setIfInBounds_toArray, List.set_cons_zero, List.set_cons_succ]
        refine wpAnyH_take (i := 7) (v := ?_) rfl (by kernel_rfl) (by kernel_rfl) (by kernel_rfl) (fun _ _ _ h => h) (Or.inl ⟨by rfl, ?_⟩) (by assumption) ?_
        rotate_left
        · intro w hSw; (try dsimp only at hSw); go_simp <;> with_reducible rfl
        try simp only [Act.put, List.getElem_toArray, List.getElem_cons_succ, List.getElem_cons_zero, List.setIfInBounds_toArray, List.set_cons_zero, List.set_cons_succ]
        refine wpAnyH_ready (rs := [5]) (by kernel_rfl) (by simp) ?_
        refine AllReadyH.cons rfl (fun K hK => ?_) AllReadyH.nil
        simp only [List.getElem_toArray, List.getElem_cons_succ, List.getElem_cons_zero]
        go_simp
        (first | (go_at_call 18; (first | with_reducible refine (HA1.out _).mono ?_ | with_reducible refine (HB1.out _).mono ?_); rintro e w' ⟨rfl, hbk⟩))
        go_wp2_with fail
        refine hK.out _ _ ?_ (fun hHeld => ?_)
        · (try dsimp only); (first | (exact ⟨(World.rangeAt_drew _ _ _ _).2 hra, (World.rangeAt_drew _ _ _ _).2 hrb, (Below.refl _ _).drew⟩) | (obtain ⟨s1, s2, s3⟩ := ‹World.rangeAt _ _ _ _ ∧ World.rangeAt _ _ _ _ ∧ Below wr.heap.size wr _›; exact ⟨range_below s1 hbk (Nat.lt_of_lt_of_le hltA s3.size), range_below s2 hbk (Nat.lt_of_lt_of_le hltB s3.size), s3.trans (hbk.mono s3.size)⟩))
        clear hK K
        try simp only [Act.put, List.getElem_toArray, List.getElem_cons_succ, List.getElem_cons_zero, List.setIfInBounds_toArray, List.set_cons_zero, List.set_cons_succ]
        refine wpAnyH_ready (rs := [8]) (by kernel_rfl) (by simp) ?_
        refine AllReadyH.cons rfl (fun K hK => ?_) AllReadyH.nil
        simp only [List.getElem_toArray, List.getElem_cons_succ, List.getElem_cons_zero]
        go_simp
        (first | (go_at_call 18; (first | with_reducible refine (HA1.out _).mono ?_ | with_reducible refine (HB1.out _).mono ?_); rintro e w' ⟨rfl, hbk⟩))
        go_wp2_with fail
        refine hK.out _ _ ?_ (fun hHeld => ?_)
        · (try dsimp only); (first | (exact ⟨(World.rangeAt_drew _ _ _ _).2 hra, (World.rangeAt_drew _ _ _ _).2 hrb, (Below.refl _ _).drew⟩) | (obtain ⟨s1, s2, s3⟩ := ‹World.rangeAt _ _ _ _ ∧ World.rangeAt _ _ _ _ ∧ Below wr.heap.size wr _›; exact ⟨range_below s1 hbk (Nat.lt_of_lt_of_le hltA s3.size), range_below s2 hbk (Nat.lt_of_lt_of_le hltB s3.size), s3.trans (hbk.mono s3.size)⟩))
        clear hK K
        try simp only [Act.put, List.getElem_toArray, List.getElem_cons_succ, List.getElem_cons_zero, List.setIfInBounds_toArray, List.set_cons_zero, List.set_cons_succ]
        refine wpAnyH_take (i := 9) (v := ?_) rfl (by kernel_rfl) (by kernel_rfl) (by kernel_rfl) (fun _ _ _ h => h) (Or.inl ⟨by rfl, ?_⟩) (by assumption) ?_
        rotate_left
        · intro w hSw; (try dsimp only at hSw); go_simp <;> with_reducible rfl
        try simp only [Act.put, List.getElem_toArray, List.getElem_cons_succ, List.getElem_cons_zero, List.setIfInBounds_toArray, List.set_cons_zero, List.set_cons_succ]
        refine wpAnyH_take (i := 10) (v := ?_) rfl (by kernel_rfl) (by kernel_rfl) (by kernel_rfl) (fun _ _ _ h => h) (Or.inl ⟨by rfl, ?_⟩) (by assumption) ?_
        rotate_left
        · intro w hSw; (try dsimp only at hSw); go_simp <;> with_reducible rfl
        try simp only [Act.put, List.getElem_toArray, List.getElem_cons_succ, List.getElem_cons_zero, List.setIfInBounds_toArray, List.set_cons_zero, List.set_cons_succ]
        refine wpAnyH_done (by kernel_rfl) ?_ _
        refine NoPanic.normal ?_
        go_split_ands
        have hbD := ‹Below wr.heap.size wr _›
        have hAD := hAw.keep hbD
        have hBD := hBw.keep hbD
        have la := hAD.load HLa.out
        go_wp2_with (first
          | (go_at_call 20; with_reducible refine (HTU.out _).mono ?_
             rintro e w4 ⟨rfl, hb4⟩
             have hAT := hAD.keep hb4
             have hBT := hBD.keep hb4)
          | (with_reducible refine wpList_store_key rfl 36 (.tmp 10) (.tmp 32) rfl w4.heap.size t HLt.out rfl rfl _ (heap_alloc_new w4 _) Try.info32 rfl w4.heap.size w4 ((Below.refl _ _).alloc (Nat.le_refl _) _) (Nat.le_refl _) ?_
             intro w5 Hg5 hs5 ho5 hb5)
          | fail)
        have hA5 : Holds w5 w.heap.size a := hAT.keep hb5
        have hB5 : Holds w5 (w.heap.size + 1) b := hBT.keep hb5
        have hT5 : Holds w5 w4.heap.size t := Hg5.out
        clear Hg5 la
        go_loopw [11] (fun v wr => ∃ q : Nat, q ≤ 256 ∧ v = .int .i64 q ∧ Below w5.heap.size w5 wr)
          (fun v _ => 256 - (intOf v).toNat)
        case atStart => exact ⟨0, Nat.zero_le _, rfl, Below.refl _ _⟩
        case round =>
          obtain ⟨q, hq, rfl, hbq⟩ := hrel
          have hAq := hA5.keep hbq
          have hBq := hB5.keep hbq
          have hTq := hT5.keep hbq
          have rA := hAq.range
          have rT := hTq.range
          have ltA := hAq.lt
          have ltT := hTq.lt
          by_cases hlq : q < 256
          · have hq0 : (0 : Int) ≤ q := by omega
            have hq1 : (q : Int) < 256 := by omega
            obtain ⟨ya, hya⟩ : ∃ x : Int, x = kbit a q := ⟨_, rfl⟩
            obtain ⟨yt, hyt⟩ : ∃ x : Int, x = kbit t q := ⟨_, rfl⟩
            have HYA : Hid (∀ W, Calls Try.prog 18 #[.agg (a.map bv).toArray, .int .i64 q] W (GaveInt W ya)) := Lib.hid fun W => by have := Bit_in a q W hq0 hq1 HLa.out; rwa [Int.toNat_natCast, ← hya] at this
            have HYT : Hid (∀ W, Calls Try.prog 18 #[.agg (t.map bv).toArray, .int .i64 q] W (GaveInt W yt)) := Lib.hid fun W => by have := Bit_in t q W hq0 hq1 HLt.out; rwa [Int.toNat_natCast, ← hyt] at this
            have hboth : ((yt != ya) = true ∧ ((q : Int) == (i : Int)) = true) ∨ ((yt != ya) = false ∧ ((q : Int) == (i : Int)) = false) := by
              have h1 := HTB.out q hlq
              have h2 := kbit_lt a q
              by_cases hqi : q = i
              · rw [if_pos hqi] at h1
                exact Or.inl ⟨by rw [bne_iff_ne]; omega, by rw [beq_iff_eq]; omega⟩
              · rw [if_neg hqi] at h1
                exact Or.inr ⟨by rw [bne_eq_false_iff_eq]; omega, by rw [beq_eq_false_iff_ne]; omega⟩
            clear hya hyt
            rcases hboth with ⟨hn1, hn2⟩ | ⟨hn1, hn2⟩
            · go_wp2
              refine wp_region_noPanic ?_
              refine wp_region_held_drew (S := (fun W => W.rangeAt w.heap.size 0 (a.map bv) ∧ W.rangeAt w4.heap.size 0 (t.map bv) ∧ Below wr.heap.size wr W)) (by kernel_rfl) (by (try dsimp only); (first | (exact ⟨(World.rangeAt_drew _ _ _ _).2 rA, (World.rangeAt_drew _ _ _ _).2 rT, (Below.refl _ _).drew⟩) | (obtain ⟨s1, s2, s3⟩ := ‹World.rangeAt _ _ _ _ ∧ World.rangeAt _ _ _ _ ∧ Below wr.heap.size wr _›; exact ⟨range_below s1 hbk (Nat.lt_of_lt_of_le ltA s3.size), range_below s2 hbk (Nat.lt_of_lt_of_le ltT s3.size), s3.trans (hbk.mono s3.size)⟩))) (fun hHeld => ?_)
              refine' wpAnyH_take (i := 0) (v := _) rfl (by kernel_rfl) (by kernel_rfl) (by kernel_rfl) (fun _ _ _ h => h) (yieldsIf_load_mid (by rfl) _ _ rfl _ _ rfl _ _ ?hS0_3 ?hu0_3 ?hd0_3 ?hi0_3) (by assumption) ?rest0_3
              case hS0_3 => intro w hSw; (try dsimp only at hSw); go_split_ands; assumption
              case hu0_3 => assumption
              case hd0_3 => rfl
              case hi0_3 => first | assumption | (simp only [*]; done)
              try simp only [Act.put, List.getElem_toArray, List.getElem_cons_succ, List.getElem_cons_zero, List.setIfInBounds_toArray, List.set_cons_zero, List.set_cons_succ]
              refine wpAnyH_take (i := 1) (v := ?_) rfl (by kernel_rfl) (by kernel_rfl) (by kernel_rfl) (fun _ _ _ h => h) (Or.inl ⟨by rfl, ?_⟩) (by assumption) ?_
              rotate_left
              · intro w hSw; (try dsimp only at hSw); go_simp <;> with_reducible rfl
              try simp only [Act.put, List.getElem_toArray, List.getElem_cons_succ, List.getElem_cons_zero, List.setIfInBounds_toArray, List.set_cons_zero, List.set_cons_succ]
              refine' wpAnyH_take (i := 3) (v := _) rfl (by kernel_rfl) (by kernel_rfl) (by kernel_rfl) (fun _ _ _ h => h) (yieldsIf_load_mid (by rfl) _ _ rfl _ _ rfl _ _ ?hS3_3 ?hu3_3 ?hd3_3 ?hi3_3) (by assumption) ?rest3_3
              case hS3_3 => intro w hSw; (try dsimp only at hSw); go_split_ands; assumption
              case hu3_3 => assumption
              case hd3_3 => rfl
              case hi3_3 => first | assumption | (simp only [*]; done)
              try simp only [Act.put, List.getElem_toArray, List.getElem_cons_succ, List.getElem_cons_zero, List.setIfInBounds_toArray, List.set_cons_zero, List.set_cons_succ]
              refine wpAnyH_take (i := 4) (v := ?_) rfl (by kernel_rfl) (by kernel_rfl) (by kernel_rfl) (fun _ _ _ h => h) (Or.inl ⟨by rfl, ?_⟩) (by assumption) ?_
              rotate_left
              · intro w hSw; (try dsimp only at hSw); go_simp <;> with_reducible rfl
              try simp only [Act.put, List.getElem_toArray, List.getElem_cons_succ, List.getElem_cons_zero, List.setIfInBounds_toArray, List.set_cons_zero, List.set_cons_succ]
              refine wpAnyH_take (i := 7) (v := ?_) rfl (by kernel_rfl) (by kernel_rfl) (by kernel_rfl) (fun _ _ _ h => h) (Or.inl ⟨by rfl, ?_⟩) (by assumption) ?_
              rotate_left
              · intro w hSw; (try dsimp only at hSw); go_simp <;> with_reducible rfl
              try simp only [Act.put, List.getElem_toArray, List.getElem_cons_succ, List.getElem_cons_zero, List.setIfInBounds_toArray, List.set_cons_zero, List.set_cons_succ]
              refine wpAnyH_take (i := 8) (v := ?_) rfl (by kernel_rfl) (by kernel_rfl) (by kernel_rfl) (fun _ _ _ h => h) (Or.inl ⟨by rfl, ?_⟩) (by assumption) ?_
              rotate_left
              · intro w hSw; (try dsimp only at hSw); go_simp <;> with_reducible rfl
              try simp only [Act.put, List.getElem_toArray, List.getElem_cons_succ, List.getElem_cons_zero, List.setIfInBounds_toArray, List.set_cons_zero, List.set_cons_succ]
              refine wpAnyH_take (i := 9) (v := ?_) rfl (by kernel_rfl) (by kernel_rfl) (by kernel_rfl) (fun _ _ _ h => h) (Or.inl ⟨by rfl, ?_⟩) (by assumption) ?_
              rotate_left
              · intro w hSw; (try dsimp only at hSw); go_simp <;> with_reducible rfl
              try simp only [Act.put, List.getElem_toArray, List.getElem_cons_succ, List.getElem_cons_zero, List.setIfInBounds_toArray, List.set_cons_zero, List.set_cons_succ]
              refine wpAnyH_take (i := 10) (v := ?_) rfl (by kernel_rfl) (by kernel_rfl) (by kernel_rfl) (fun _ _ _ h => h) (Or.inl ⟨by rfl, ?_⟩) (by assumption) ?_
              rotate_left
              · intro w hSw; (try dsimp only at hSw); go_simp <;> with_reducible rfl
              try simp only [Act.put, List.getElem_toArray, List.getElem_cons_succ, List.getElem_cons_zero, List.setIfInBounds_toArray, List.set_cons_zero, List.set_cons_succ]
              refine wpAnyH_ready (rs := [2]) (by kernel_rfl) (by simp) ?_
              refine AllReadyH.cons rfl (fun K hK => ?_) AllReadyH.nil
              simp only [List.getElem_toArray, List.getElem_cons_succ, List.getElem_cons_zero]
              go_simp
              (first | (go_at_call 18; (first | with_reducible refine (HYA.out _).mono ?_ | with_reducible refine (HYT.out _).mono ?_); rintro e w' ⟨rfl, hbk⟩))
              go_wp2_with fail
              refine hK.out _ _ ?_ (fun hHeld => ?_)
              · (try dsimp only); (first | (exact ⟨(World.rangeAt_drew _ _ _ _).2 rA, (World.rangeAt_drew _ _ _ _).2 rT, (Below.refl _ _).drew⟩) | (obtain ⟨s1, s2, s3⟩ := ‹World.rangeAt _ _ _ _ ∧ World.rangeAt _ _ _ _ ∧ Below wr.heap.size wr _›; exact ⟨range_below s1 hbk (Nat.lt_of_lt_of_le ltA s3.size), range_below s2 hbk (Nat.lt_of_lt_of_le ltT s3.size), s3.trans (hbk.mono s3.size)⟩))
              clear hK K
              try simp only [Act.put, List.getElem_toArray, List.getElem_cons_succ, List.getElem_cons_zero, List.setIfInBounds_toArray, List.set_cons_zero, List.set_cons_succ]
              refine wpAnyH_ready (rs := [5]) (by kernel_rfl) (by simp) ?_
              refine AllReadyH.cons rfl (fun K hK => ?_) AllReadyH.nil
              simp only [List.getElem_toArray, List.getElem_cons_succ, List.getElem_cons_zero]
              go_simp
              (first | (go_at_call 18; (first | with_reducible refine (HYA.out _).mono ?_ | with_reducible refine (HYT.out _).mono ?_); rintro e w' ⟨rfl, hbk⟩))
              go_wp2_with fail
              refine hK.out _ _ ?_ (fun hHeld => ?_)
              · (try dsimp only); (first | (exact ⟨(World.rangeAt_drew _ _ _ _).2 rA, (World.rangeAt_drew _ _ _ _).2 rT, (Below.refl _ _).drew⟩) | (obtain ⟨s1, s2, s3⟩ := ‹World.rangeAt _ _ _ _ ∧ World.rangeAt _ _ _ _ ∧ Below wr.heap.size wr _›; exact ⟨range_below s1 hbk (Nat.lt_of_lt_of_le ltA s3.size), range_below s2 hbk (Nat.lt_of_lt_of_le ltT s3.size), s3.trans (hbk.mono s3.size)⟩))
              clear hK K
              try simp only [Act.put, List.getElem_toArray, List.getElem_cons_succ, List.getElem_cons_zero, List.setIfInBounds_toArray, List.set_cons_zero, List.set_cons_succ]
              refine wpAnyH_take (i := 6) (v := ?_) rfl (by kernel_rfl) (by kernel_rfl) (by kernel_rfl) (fun _ _ _ h => h) (Or.inl ⟨by rfl, ?_⟩) (by assumption) ?_
              rotate_left
              · intro w hSw; (try dsimp only at hSw); go_simp <;> with_reducible rfl
              try simp only [Act.put, List.getElem_toArray, List.getElem_cons_succ, List.getElem_cons_zero, List.setIfInBounds_toArray, List.set_cons_zero, List.set_cons_succ]
              refine wpAnyH_take (i := 11) (v := ?_) rfl (by kernel_rfl) (by kernel_rfl) (by kernel_rfl) (fun _ _ _ h => h) (Or.inl ⟨by rfl, ?_⟩) (by assumption) ?_
              rotate_left
              · intro w hSw; (try dsimp only at hSw); go_simp <;> with_reducible rfl
              try simp only [Act.put, List.getElem_toArray, List.getElem_cons_succ, List.getElem_cons_zero, List.setIfInBounds_toArray, List.set_cons_zero, List.set_cons_succ]
              refine wpAnyH_done (by kernel_rfl) ?_ _
              refine NoPanic.normal ?_
              go_split_ands
              have hbR := ‹Below wr.heap.size wr _›
              go_wp2
              go_roundw
              case rel => exact ⟨q + 1, by omega, by go_num, hbq.trans (hbR.mono hbq.size)⟩
              case measure => simp [intOf]; omega
            · go_wp2
              refine wp_region_noPanic ?_
              refine wp_region_held_drew (S := (fun W => W.rangeAt w.heap.size 0 (a.map bv) ∧ W.rangeAt w4.heap.size 0 (t.map bv) ∧ Below wr.heap.size wr W)) (by kernel_rfl) (by (try dsimp only); (first | (exact ⟨(World.rangeAt_drew _ _ _ _).2 rA, (World.rangeAt_drew _ _ _ _).2 rT, (Below.refl _ _).drew⟩) | (obtain ⟨s1, s2, s3⟩ := ‹World.rangeAt _ _ _ _ ∧ World.rangeAt _ _ _ _ ∧ Below wr.heap.size wr _›; exact ⟨range_below s1 hbk (Nat.lt_of_lt_of_le ltA s3.size), range_below s2 hbk (Nat.lt_of_lt_of_le ltT s3.size), s3.trans (hbk.mono s3.size)⟩))) (fun hHeld => ?_)
              refine' wpAnyH_take (i := 0) (v := _) rfl (by kernel_rfl) (by kernel_rfl) (by kernel_rfl) (fun _ _ _ h => h) (yieldsIf_load_mid (by rfl) _ _ rfl _ _ rfl _ _ ?hS0_4 ?hu0_4 ?hd0_4 ?hi0_4) (by assumption) ?rest0_4
              case hS0_4 => intro w hSw; (try dsimp only at hSw); go_split_ands; assumption
              case hu0_4 => assumption
              case hd0_4 => rfl
              case hi0_4 => first | assumption | (simp only [*]; done)
              try simp only [Act.put, List.getElem_toArray, List.getElem_cons_succ, List.getElem_cons_zero, List.setIfInBounds_toArray, List.set_cons_zero, List.set_cons_succ]
              refine wpAnyH_take (i := 1) (v := ?_) rfl (by kernel_rfl) (by kernel_rfl) (by kernel_rfl) (fun _ _ _ h => h) (Or.inl ⟨by rfl, ?_⟩) (by assumption) ?_
              rotate_left
              · intro w hSw; (try dsimp only at hSw); go_simp <;> with_reducible rfl
              try simp only [Act.put, List.getElem_toArray, List.getElem_cons_succ, List.getElem_cons_zero, List.setIfInBounds_toArray, List.set_cons_zero, List.set_cons_succ]
              refine' wpAnyH_take (i := 3) (v := _) rfl (by kernel_rfl) (by kernel_rfl) (by kernel_rfl) (fun _ _ _ h => h) (yieldsIf_load_mid (by rfl) _ _ rfl _ _ rfl _ _ ?hS3_4 ?hu3_4 ?hd3_4 ?hi3_4) (by assumption) ?rest3_4
              case hS3_4 => intro w hSw; (try dsimp only at hSw); go_split_ands; assumption
              case hu3_4 => assumption
              case hd3_4 => rfl
              case hi3_4 => first | assumption | (simp only [*]; done)
              try simp only [Act.put, List.getElem_toArray, List.getElem_cons_succ, List.getElem_cons_zero, List.setIfInBounds_toArray, List.set_cons_zero, List.set_cons_succ]
              refine wpAnyH_take (i := 4) (v := ?_) rfl (by kernel_rfl) (by kernel_rfl) (by kernel_rfl) (fun _ _ _ h => h) (Or.inl ⟨by rfl, ?_⟩) (by assumption) ?_
              rotate_left
              · intro w hSw; (try dsimp only at hSw); go_simp <;> with_reducible rfl
              try simp only [Act.put, List.getElem_toArray, List.getElem_cons_succ, List.getElem_cons_zero, List.setIfInBounds_toArray, List.set_cons_zero, List.set_cons_succ]
              refine wpAnyH_take (i := 7) (v := ?_) rfl (by kernel_rfl) (by kernel_rfl) (by kernel_rfl) (fun _ _ _ h => h) (Or.inl ⟨by rfl, ?_⟩) (by assumption) ?_
              rotate_left
              · intro w hSw; (try dsimp only at hSw); go_simp <;> with_reducible rfl
              try simp only [Act.put, List.getElem_toArray, List.getElem_cons_succ, List.getElem_cons_zero, List.setIfInBounds_toArray, List.set_cons_zero, List.set_cons_succ]
              refine wpAnyH_take (i := 8) (v := ?_) rfl (by kernel_rfl) (by kernel_rfl) (by kernel_rfl) (fun _ _ _ h => h) (Or.inl ⟨by rfl, ?_⟩) (by assumption) ?_
              rotate_left
              · intro w hSw; (try dsimp only at hSw); go_simp <;> with_reducible rfl
              try simp only [Act.put, List.getElem_toArray, List.getElem_cons_succ, List.getElem_cons_zero, List.setIfInBounds_toArray, List.set_cons_zero, List.set_cons_succ]
              refine wpAnyH_take (i := 9) (v := ?_) rfl (by kernel_rfl) (by kernel_rfl) (by kernel_rfl) (fun _ _ _ h => h) (Or.inl ⟨by rfl, ?_⟩) (by assumption) ?_
              rotate_left
              · intro w hSw; (try dsimp only at hSw); go_simp <;> with_reducible rfl
              try simp only [Act.put, List.getElem_toArray, List.getElem_cons_succ, List.getElem_cons_zero, List.setIfInBounds_toArray, List.set_cons_zero, List.set_cons_succ]
              refine wpAnyH_take (i := 10) (v := ?_) rfl (by kernel_rfl) (by kernel_rfl) (by kernel_rfl) (fun _ _ _ h => h) (Or.inl ⟨by rfl, ?_⟩) (by assumption) ?_
              rotate_left
              · intro w hSw; (try dsimp only at hSw); go_simp <;> with_reducible rfl
              try simp only [Act.put, List.getElem_toArray, List.getElem_cons_succ, List.getElem_cons_zero, List.setIfInBounds_toArray, List.set_cons_zero, List.set_cons_succ]
              refine wpAnyH_ready (rs := [2]) (by kernel_rfl) (by simp) ?_
              refine AllReadyH.cons rfl (fun K hK => ?_) AllReadyH.nil
              simp only [List.getElem_toArray, List.getElem_cons_succ, List.getElem_cons_zero]
              go_simp
              (first | (go_at_call 18; (first | with_reducible refine (HYA.out _).mono ?_ | with_reducible refine (HYT.out _).mono ?_); rintro e w' ⟨rfl, hbk⟩))
              go_wp2_with fail
              refine hK.out _ _ ?_ (fun hHeld => ?_)
              · (try dsimp only); (first | (exact ⟨(World.rangeAt_drew _ _ _ _).2 rA, (World.rangeAt_drew _ _ _ _).2 rT, (Below.refl _ _).drew⟩) | (obtain ⟨s1, s2, s3⟩ := ‹World.rangeAt _ _ _ _ ∧ World.rangeAt _ _ _ _ ∧ Below wr.heap.size wr _›; exact ⟨range_below s1 hbk (Nat.lt_of_lt_of_le ltA s3.size), range_below s2 hbk (Nat.lt_of_lt_of_le ltT s3.size), s3.trans (hbk.mono s3.size)⟩))
              clear hK K
              try simp only [Act.put, List.getElem_toArray, List.getElem_cons_succ, List.getElem_cons_zero, List.setIfInBounds_toArray, List.set_cons_zero, List.set_cons_succ]
              refine wpAnyH_ready (rs := [5]) (by kernel_rfl) (by simp) ?_
              refine AllReadyH.cons rfl (fun K hK => ?_) AllReadyH.nil
              simp only [List.getElem_toArray, List.getElem_cons_succ, List.getElem_cons_zero]
              go_simp
              (first | (go_at_call 18; (first | with_reducible refine (HYA.out _).mono ?_ | with_reducible refine (HYT.out _).mono ?_); rintro e w' ⟨rfl, hbk⟩))
              go_wp2_with fail
              refine hK.out _ _ ?_ (fun hHeld => ?_)
              · (try dsimp only); (first | (exact ⟨(World.rangeAt_drew _ _ _ _).2 rA, (World.rangeAt_drew _ _ _ _).2 rT, (Below.refl _ _).drew⟩) | (obtain ⟨s1, s2, s3⟩ := ‹World.rangeAt _ _ _ _ ∧ World.rangeAt _ _ _ _ ∧ Below wr.heap.size wr _›; exact ⟨range_below s1 hbk (Nat.lt_of_lt_of_le ltA s3.size), range_below s2 hbk (Nat.lt_of_lt_of_le ltT s3.size), s3.trans (hbk.mono s3.size)⟩))
              clear hK K
              try simp only [Act.put, List.getElem_toArray, List.getElem_cons_succ, List.getElem_cons_zero, List.setIfInBounds_toArray, List.set_cons_zero, List.set_cons_succ]
              refine wpAnyH_take (i := 6) (v := ?_) rfl (by kernel_rfl) (by kernel_rfl) (by kernel_rfl) (fun _ _ _ h => h) (Or.inl ⟨by rfl, ?_⟩) (by assumption) ?_
              rotate_left
              · intro w hSw; (try dsimp only at hSw); go_simp <;> with_reducible rfl
              try simp only [Act.put, List.getElem_toArray, List.getElem_cons_succ, List.getElem_cons_zero, List.setIfInBounds_toArray, List.set_cons_zero, List.set_cons_succ]
              refine wpAnyH_take (i := 11) (v := ?_) rfl (by kernel_rfl) (by kernel_rfl) (by kernel_rfl) (fun _ _ _ h => h) (Or.inl ⟨by rfl, ?_⟩) (by assumption) ?_
              rotate_left
              · intro w hSw; (try dsimp only at hSw); go_simp <;> with_reducible rfl
              try simp only [Act.put, List.getElem_toArray, List.getElem_cons_succ, List.getElem_cons_zero, List.setIfInBounds_toArray, List.set_cons_zero, List.set_cons_succ]
              refine wpAnyH_done (by kernel_rfl) ?_ _
              refine NoPanic.normal ?_
              go_split_ands
              have hbR := ‹Below wr.heap.size wr _›
              go_wp2
              go_roundw
              case rel => exact ⟨q + 1, by omega, by go_num, hbq.trans (hbR.mono hbq.size)⟩
              case measure => simp [intOf]; omega
          · obtain rfl : q = 256 := by omega
            have rB := hBq.range
            have ltB := hBq.lt
            have hBall := (((((hW2.trans (hbw.mono hW2.size)).trans (hbD.mono (hW2.trans (hbw.mono hW2.size)).size)).trans (hb4.mono ((hW2.trans (hbw.mono hW2.size)).trans (hbD.mono (hW2.trans (hbw.mono hW2.size)).size)).size)).trans (hb5.mono (((hW2.trans (hbw.mono hW2.size)).trans (hbD.mono (hW2.trans (hbw.mono hW2.size)).size)).trans (hb4.mono ((hW2.trans (hbw.mono hW2.size)).trans (hbD.mono (hW2.trans (hbw.mono hW2.size)).size)).size)).size)))
            have hBall := hBall.trans (hbq.mono hBall.size)
            have hcase : (c = -1 ∧ xa = 0) ∨ (c = 1 ∧ xa = 1) := by
              have ho := order_at HLa.out HLb.out hlt halike.out hdiff.out
              have h2 := kbit_lt a k
              have hcc := HC.out
              have hx := hxA.out
              by_cases h0 : kbit a k = 0
              · exact Or.inl ⟨by rw [hcc, ho.1 h0], by rw [hx, h0]; rfl⟩
              · exact Or.inr ⟨by rw [hcc, ho.2 h0], by rw [hx, show kbit a k = 1 by omega]; rfl⟩
            have hk256 : ((k : Int) == 256) = false := by rw [beq_eq_false_iff_ne]; omega
            rcases hcase with ⟨hc1, hx1⟩ | ⟨hc1, hx1⟩
            · subst hc1 hx1
              go_wp2
              refine wp_region_noPanic ?_
              refine wp_region_held_drew (S := (fun W => W.rangeAt w.heap.size 0 (a.map bv) ∧ W.rangeAt (w.heap.size + 1) 0 (b.map bv) ∧ W.rangeAt w4.heap.size 0 (t.map bv) ∧ Below wr.heap.size wr W)) (by kernel_rfl) (by (try dsimp only); (first | (exact ⟨(World.rangeAt_drew _ _ _ _).2 rA, (World.rangeAt_drew _ _ _ _).2 rB, (World.rangeAt_drew _ _ _ _).2 rT, (Below.refl _ _).drew⟩) | (obtain ⟨s1, s2, s3, s4⟩ := ‹World.rangeAt _ _ _ _ ∧ World.rangeAt _ _ _ _ ∧ World.rangeAt _ _ _ _ ∧ Below wr.heap.size wr _›; exact ⟨range_below s1 hbk (Nat.lt_of_lt_of_le ltA s4.size), range_below s2 hbk (Nat.lt_of_lt_of_le ltB s4.size), range_below s3 hbk (Nat.lt_of_lt_of_le ltT s4.size), s4.trans (hbk.mono s4.size)⟩))) (fun hHeld => ?_)
              refine wpAnyH_take (i := 0) (v := ?_) rfl (by kernel_rfl) (by kernel_rfl) (by kernel_rfl) (fun _ _ _ h => h) (Or.inl ⟨by rfl, ?_⟩) (by assumption) ?_
              rotate_left
              · intro w hSw; (try dsimp only at hSw); go_simp <;> with_reducible rfl
              try simp only [Act.put, List.getElem_toArray, List.getElem_cons_succ, List.getElem_cons_zero, List.setIfInBounds_toArray, List.set_cons_zero, List.set_cons_succ]
              refine wpAnyH_take (i := 1) (v := ?_) rfl (by kernel_rfl) (by kernel_rfl) (by kernel_rfl) (fun _ _ _ h => h) (Or.inl ⟨by rfl, ?_⟩) (by assumption) ?_
              rotate_left
              · intro w hSw; (try dsimp only at hSw); go_simp <;> with_reducible rfl
              try simp only [Act.put, List.getElem_toArray, List.getElem_cons_succ, List.getElem_cons_zero, List.setIfInBounds_toArray, List.set_cons_zero, List.set_cons_succ]
              refine wpAnyH_take (i := 2) (v := ?_) rfl (by kernel_rfl) (by kernel_rfl) (by kernel_rfl) (fun _ _ _ h => h) (Or.inl ⟨by rfl, ?_⟩) (by assumption) ?_
              rotate_left
              · intro w hSw; (try dsimp only at hSw); go_simp <;> with_reducible rfl
              try simp only [Act.put, List.getElem_toArray, List.getElem_cons_succ, List.getElem_cons_zero, List.setIfInBounds_toArray, List.set_cons_zero, List.set_cons_succ]
              refine wpAnyH_take (i := 3) (v := ?_) rfl (by kernel_rfl) (by kernel_rfl) (by kernel_rfl) (fun _ _ _ h => h) (Or.inl ⟨by rfl, ?_⟩) (by assumption) ?_
              rotate_left
              · intro w hSw; (try dsimp only at hSw); go_simp <;> with_reducible rfl
              try simp only [Act.put, List.getElem_toArray, List.getElem_cons_succ, List.getElem_cons_zero, List.setIfInBounds_toArray, List.set_cons_zero, List.set_cons_succ]
              refine wpAnyH_take (i := 4) (v := ?_) rfl (by kernel_rfl) (by kernel_rfl) (by kernel_rfl) (fun _ _ _ h => h) (Or.inl ⟨by rfl, ?_⟩) (by assumption) ?_
              rotate_left
              · intro w hSw; (try dsimp only at hSw); go_simp <;> with_reducible rfl
              try simp only [Act.put, List.getElem_toArray, List.getElem_cons_succ, List.getElem_cons_zero, List.setIfInBounds_toArray, List.set_cons_zero, List.set_cons_succ]
              refine wpAnyH_take (i := 5) (v := ?_) rfl (by kernel_rfl) (by kernel_rfl) (by kernel_rfl) (fun _ _ _ h => h) (Or.inl ⟨by rfl, ?_⟩) (by assumption) ?_
              rotate_left
              · intro w hSw; (try dsimp only at hSw); go_simp <;> with_reducible rfl
              try simp only [Act.put, List.getElem_toArray, List.getElem_cons_succ, List.getElem_cons_zero, List.setIfInBounds_toArray, List.set_cons_zero, List.set_cons_succ]
              refine wpAnyH_take (i := 6) (v := ?_) rfl (by kernel_rfl) (by kernel_rfl) (by kernel_rfl) (fun _ _ _ h => h) (Or.inl ⟨by rfl, ?_⟩) (by assumption) ?_
              rotate_left
              · intro w hSw; (try dsimp only at hSw); go_simp <;> with_reducible rfl
              try simp only [Act.put, List.getElem_toArray, List.getElem_cons_succ, List.getElem_cons_zero, List.setIfInBounds_toArray, List.set_cons_zero, List.set_cons_succ]
              refine wpAnyH_take (i := 7) (v := ?_) rfl (by kernel_rfl) (by kernel_rfl) (by kernel_rfl) (fun _ _ _ h => h) (Or.inl ⟨by rfl, ?_⟩) (by assumption) ?_
              rotate_left
              · intro w hSw; (try dsimp only at hSw); go_simp <;> with_reducible rfl
              try simp only [Act.put, List.getElem_toArray, List.getElem_cons_succ, List.getElem_cons_zero, List.setIfInBounds_toArray, List.set_cons_zero, List.set_cons_succ]
              refine wpAnyH_take (i := 8) (v := ?_) rfl (by kernel_rfl) (by kernel_rfl) (by kernel_rfl) (fun _ _ _ h => h) (Or.inl ⟨by rfl, ?_⟩) (by assumption) ?_
              rotate_left
              · intro w hSw; (try dsimp only at hSw); go_simp <;> with_reducible rfl
              try simp only [Act.put, List.getElem_toArray, List.getElem_cons_succ, List.getElem_cons_zero, List.setIfInBounds_toArray, List.set_cons_zero, List.set_cons_succ]
              refine wpAnyH_take (i := 9) (v := ?_) rfl (by kernel_rfl) (by kernel_rfl) (by kernel_rfl) (fun _ _ _ h => h) (Or.inl ⟨by rfl, ?_⟩) (by assumption) ?_
              rotate_left
              · intro w hSw; (try dsimp only at hSw); go_simp <;> with_reducible rfl
              try simp only [Act.put, List.getElem_toArray, List.getElem_cons_succ, List.getElem_cons_zero, List.setIfInBounds_toArray, List.set_cons_zero, List.set_cons_succ]
              refine wpAnyH_take (i := 10) (v := ?_) rfl (by kernel_rfl) (by kernel_rfl) (by kernel_rfl) (fun _ _ _ h => h) (Or.inl ⟨by rfl, ?_⟩) (by assumption) ?_
              rotate_left
              · intro w hSw; (try dsimp only at hSw); go_simp <;> with_reducible rfl
              try simp only [Act.put, List.getElem_toArray, List.getElem_cons_succ, List.getElem_cons_zero, List.setIfInBounds_toArray, List.set_cons_zero, List.set_cons_succ]
              refine wpAnyH_take (i := 11) (v := ?_) rfl (by kernel_rfl) (by kernel_rfl) (by kernel_rfl) (fun _ _ _ h => h) (Or.inl ⟨by rfl, ?_⟩) (by assumption) ?_
              rotate_left
              · intro w hSw; (try dsimp only at hSw); go_simp <;> with_reducible rfl
              try simp only [Act.put, List.getElem_toArray, List.getElem_cons_succ, List.getElem_cons_zero, List.setIfInBounds_toArray, List.set_cons_zero, List.set_cons_succ]
              refine wpAnyH_take (i := 12) (v := ?_) rfl (by kernel_rfl) (by kernel_rfl) (by kernel_rfl) (fun _ _ _ h => h) (Or.inl ⟨by rfl, ?_⟩) (by assumption) ?_
              rotate_left
              · intro w hSw; (try dsimp only at hSw); go_simp <;> with_reducible rfl
              try simp only [Act.put, List.getElem_toArray, List.getElem_cons_succ, List.getElem_cons_zero, List.setIfInBounds_toArray, List.set_cons_zero, List.set_cons_succ]
              refine wpAnyH_take (i := 13) (v := ?_) rfl (by kernel_rfl) (by kernel_rfl) (by kernel_rfl) (fun _ _ _ h => h) (Or.inl ⟨by rfl, ?_⟩) (by assumption) ?_
              rotate_left
              · intro w hSw; (try dsimp only at hSw); go_simp <;> with_reducible rfl
              try simp only [Act.put, List.getElem_toArray, List.getElem_cons_succ, List.getElem_cons_zero, List.setIfInBounds_toArray, List.set_cons_zero, List.set_cons_succ]
              refine' wpAnyH_take (i := 14) (v := _) rfl (by kernel_rfl) (by kernel_rfl) (by kernel_rfl) (fun _ _ _ h => h) (yieldsIf_load_mid (by rfl) _ _ rfl _ _ rfl _ _ ?hS14_5 ?hu14_5 ?hd14_5 ?hi14_5) (by assumption) ?rest14_5
              case hS14_5 => intro w hSw; (try dsimp only at hSw); go_split_ands; assumption
              case hu14_5 => assumption
              case hd14_5 => rfl
              case hi14_5 => first | assumption | (simp only [*]; done)
              try simp only [Act.put, List.getElem_toArray, List.getElem_cons_succ, List.getElem_cons_zero, List.setIfInBounds_toArray, List.set_cons_zero, List.set_cons_succ]
              refine wpAnyH_take (i := 15) (v := ?_) rfl (by kernel_rfl) (by kernel_rfl) (by kernel_rfl) (fun _ _ _ h => h) (Or.inl ⟨by rfl, ?_⟩) (by assumption) ?_
              rotate_left
              · intro w hSw; (try dsimp only at hSw); go_simp <;> with_reducible rfl
              try simp only [Act.put, List.getElem_toArray, List.getElem_cons_succ, List.getElem_cons_zero, List.setIfInBounds_toArray, List.set_cons_zero, List.set_cons_succ]
              refine wpAnyH_ready (rs := [16]) (by kernel_rfl) (by simp) ?_
              refine AllReadyH.cons rfl (fun K hK => ?_) AllReadyH.nil
              simp only [List.getElem_toArray, List.getElem_cons_succ, List.getElem_cons_zero]
              go_simp
              (first | (go_at_call 18; refine (HA1.out _).mono ?_; rintro e w' ⟨rfl, hbk⟩) | (go_at_call 20; refine (HTT.out _).mono ?_; rintro e w' ⟨rfl, hbk⟩) | (go_at_call 22; refine (HBA.out _).mono ?_; rintro e w' ⟨rfl, hbk⟩))
              go_wp2_with fail
              refine hK.out _ _ ?_ (fun hHeld => ?_)
              · (try dsimp only); (first | (exact ⟨(World.rangeAt_drew _ _ _ _).2 rA, (World.rangeAt_drew _ _ _ _).2 rB, (World.rangeAt_drew _ _ _ _).2 rT, (Below.refl _ _).drew⟩) | (obtain ⟨s1, s2, s3, s4⟩ := ‹World.rangeAt _ _ _ _ ∧ World.rangeAt _ _ _ _ ∧ World.rangeAt _ _ _ _ ∧ Below wr.heap.size wr _›; exact ⟨range_below s1 hbk (Nat.lt_of_lt_of_le ltA s4.size), range_below s2 hbk (Nat.lt_of_lt_of_le ltB s4.size), range_below s3 hbk (Nat.lt_of_lt_of_le ltT s4.size), s4.trans (hbk.mono s4.size)⟩))
              clear hK K
              try simp only [Act.put, List.getElem_toArray, List.getElem_cons_succ, List.getElem_cons_zero, List.setIfInBounds_toArray, List.set_cons_zero, List.set_cons_succ]
              refine wpAnyH_take (i := 17) (v := ?_) rfl (by kernel_rfl) (by kernel_rfl) (by kernel_rfl) (fun _ _ _ h => h) (Or.inl ⟨by rfl, ?_⟩) (by assumption) ?_
              rotate_left
              · intro w hSw; (try dsimp only at hSw); go_simp <;> with_reducible rfl
              try simp only [Act.put, List.getElem_toArray, List.getElem_cons_succ, List.getElem_cons_zero, List.setIfInBounds_toArray, List.set_cons_zero, List.set_cons_succ]
              refine wpAnyH_take (i := 18) (v := ?_) rfl (by kernel_rfl) (by kernel_rfl) (by kernel_rfl) (fun _ _ _ h => h) (Or.inl ⟨by rfl, ?_⟩) (by assumption) ?_
              rotate_left
              · intro w hSw; (try dsimp only at hSw); go_simp <;> with_reducible rfl
              try simp only [Act.put, List.getElem_toArray, List.getElem_cons_succ, List.getElem_cons_zero, List.setIfInBounds_toArray, List.set_cons_zero, List.set_cons_succ]
              refine wpAnyH_take (i := 19) (v := ?_) rfl (by kernel_rfl) (by kernel_rfl) (by kernel_rfl) (fun _ _ _ h => h) (Or.inl ⟨by rfl, ?_⟩) (by assumption) ?_
              rotate_left
              · intro w hSw; (try dsimp only at hSw); go_simp <;> with_reducible rfl
              try simp only [Act.put, List.getElem_toArray, List.getElem_cons_succ, List.getElem_cons_zero, List.setIfInBounds_toArray, List.set_cons_zero, List.set_cons_succ]
              refine wpAnyH_take (i := 20) (v := ?_) rfl (by kernel_rfl) (by kernel_rfl) (by kernel_rfl) (fun _ _ _ h => h) (Or.inl ⟨by rfl, ?_⟩) (by assumption) ?_
              rotate_left
              · intro w hSw; (try dsimp only at hSw); go_simp <;> with_reducible rfl
              try simp only [Act.put, List.getElem_toArray, List.getElem_cons_succ, List.getElem_cons_zero, List.setIfInBounds_toArray, List.set_cons_zero, List.set_cons_succ]
              refine wpAnyH_take (i := 21) (v := ?_) rfl (by kernel_rfl) (by kernel_rfl) (by kernel_rfl) (fun _ _ _ h => h) (Or.inl ⟨by rfl, ?_⟩) (by assumption) ?_
              rotate_left
              · intro w hSw; (try dsimp only at hSw); go_simp <;> with_reducible rfl
              try simp only [Act.put, List.getElem_toArray, List.getElem_cons_succ, List.getElem_cons_zero, List.setIfInBounds_toArray, List.set_cons_zero, List.set_cons_succ]
              refine' wpAnyH_take (i := 22) (v := _) rfl (by kernel_rfl) (by kernel_rfl) (by kernel_rfl) (fun _ _ _ h => h) (yieldsIf_load_mid (by rfl) _ _ rfl _ _ rfl _ _ ?hS22_5 ?hu22_5 ?hd22_5 ?hi22_5) (by assumption) ?rest22_5
              case hS22_5 => intro w hSw; (try dsimp only at hSw); go_split_ands; assumption
              case hu22_5 => assumption
              case hd22_5 => rfl
              case hi22_5 => first | assumption | (simp only [*]; done)
              try simp only [Act.put, List.getElem_toArray, List.getElem_cons_succ, List.getElem_cons_zero, List.setIfInBounds_toArray, List.set_cons_zero, List.set_cons_succ]
              refine wpAnyH_take (i := 23) (v := ?_) rfl (by kernel_rfl) (by kernel_rfl) (by kernel_rfl) (fun _ _ _ h => h) (Or.inl ⟨by rfl, ?_⟩) (by assumption) ?_
              rotate_left
              · intro w hSw; (try dsimp only at hSw); go_simp <;> with_reducible rfl
              try simp only [Act.put, List.getElem_toArray, List.getElem_cons_succ, List.getElem_cons_zero, List.setIfInBounds_toArray, List.set_cons_zero, List.set_cons_succ]
              refine wpAnyH_take (i := 24) (v := ?_) rfl (by kernel_rfl) (by kernel_rfl) (by kernel_rfl) (fun _ _ _ h => h) (Or.inl ⟨by rfl, ?_⟩) (by assumption) ?_
              rotate_left
              · intro w hSw; (try dsimp only at hSw); go_simp <;> with_reducible rfl
              try simp only [Act.put, List.getElem_toArray, List.getElem_cons_succ, List.getElem_cons_zero, List.setIfInBounds_toArray, List.set_cons_zero, List.set_cons_succ]
              refine' wpAnyH_take (i := 26) (v := _) rfl (by kernel_rfl) (by kernel_rfl) (by kernel_rfl) (fun _ _ _ h => h) (yieldsIf_load_mid (by rfl) _ _ rfl _ _ rfl _ _ ?hS26_5 ?hu26_5 ?hd26_5 ?hi26_5) (by assumption) ?rest26_5
              case hS26_5 => intro w hSw; (try dsimp only at hSw); go_split_ands; assumption
              case hu26_5 => assumption
              case hd26_5 => rfl
              case hi26_5 => first | assumption | (simp only [*]; done)
              try simp only [Act.put, List.getElem_toArray, List.getElem_cons_succ, List.getElem_cons_zero, List.setIfInBounds_toArray, List.set_cons_zero, List.set_cons_succ]
              refine wpAnyH_ready (rs := [25]) (by kernel_rfl) (by simp) ?_
              refine AllReadyH.cons rfl (fun K hK => ?_) AllReadyH.nil
              simp only [List.getElem_toArray, List.getElem_cons_succ, List.getElem_cons_zero]
              go_simp
              (first | (go_at_call 18; refine (HA1.out _).mono ?_; rintro e w' ⟨rfl, hbk⟩) | (go_at_call 20; refine (HTT.out _).mono ?_; rintro e w' ⟨rfl, hbk⟩) | (go_at_call 22; refine (HBA.out _).mono ?_; rintro e w' ⟨rfl, hbk⟩))
              go_wp2_with fail
              refine hK.out _ _ ?_ (fun hHeld => ?_)
              · (try dsimp only); (first | (exact ⟨(World.rangeAt_drew _ _ _ _).2 rA, (World.rangeAt_drew _ _ _ _).2 rB, (World.rangeAt_drew _ _ _ _).2 rT, (Below.refl _ _).drew⟩) | (obtain ⟨s1, s2, s3, s4⟩ := ‹World.rangeAt _ _ _ _ ∧ World.rangeAt _ _ _ _ ∧ World.rangeAt _ _ _ _ ∧ Below wr.heap.size wr _›; exact ⟨range_below s1 hbk (Nat.lt_of_lt_of_le ltA s4.size), range_below s2 hbk (Nat.lt_of_lt_of_le ltB s4.size), range_below s3 hbk (Nat.lt_of_lt_of_le ltT s4.size), s4.trans (hbk.mono s4.size)⟩))
              clear hK K
              try simp only [Act.put, List.getElem_toArray, List.getElem_cons_succ, List.getElem_cons_zero, List.setIfInBounds_toArray, List.set_cons_zero, List.set_cons_succ]
              refine wpAnyH_take (i := 27) (v := ?_) rfl (by kernel_rfl) (by kernel_rfl) (by kernel_rfl) (fun _ _ _ h => h) (Or.inl ⟨by rfl, ?_⟩) (by assumption) ?_
              rotate_left
              · intro w hSw; (try dsimp only at hSw); go_simp <;> with_reducible rfl
              try simp only [Act.put, List.getElem_toArray, List.getElem_cons_succ, List.getElem_cons_zero, List.setIfInBounds_toArray, List.set_cons_zero, List.set_cons_succ]
              refine wpAnyH_take (i := 28) (v := ?_) rfl (by kernel_rfl) (by kernel_rfl) (by kernel_rfl) (fun _ _ _ h => h) (Or.inl ⟨by rfl, ?_⟩) (by assumption) ?_
              rotate_left
              · intro w hSw; (try dsimp only at hSw); go_simp <;> with_reducible rfl
              try simp only [Act.put, List.getElem_toArray, List.getElem_cons_succ, List.getElem_cons_zero, List.setIfInBounds_toArray, List.set_cons_zero, List.set_cons_succ]
              refine wpAnyH_take (i := 29) (v := ?_) rfl (by kernel_rfl) (by kernel_rfl) (by kernel_rfl) (fun _ _ _ h => h) (Or.inl ⟨by rfl, ?_⟩) (by assumption) ?_
              rotate_left
              · intro w hSw; (try dsimp only at hSw); go_simp <;> with_reducible rfl
              try simp only [Act.put, List.getElem_toArray, List.getElem_cons_succ, List.getElem_cons_zero, List.setIfInBounds_toArray, List.set_cons_zero, List.set_cons_succ]
              refine' wpAnyH_take (i := 30) (v := _) rfl (by kernel_rfl) (by kernel_rfl) (by kernel_rfl) (fun _ _ _ h => h) (yieldsIf_load_mid (by rfl) _ _ rfl _ _ rfl _ _ ?hS30_5 ?hu30_5 ?hd30_5 ?hi30_5) (by assumption) ?rest30_5
              case hS30_5 => intro w hSw; (try dsimp only at hSw); go_split_ands; assumption
              case hu30_5 => assumption
              case hd30_5 => rfl
              case hi30_5 => first | assumption | (simp only [*]; done)
              try simp only [Act.put, List.getElem_toArray, List.getElem_cons_succ, List.getElem_cons_zero, List.setIfInBounds_toArray, List.set_cons_zero, List.set_cons_succ]
              refine' wpAnyH_take (i := 31) (v := _) rfl (by kernel_rfl) (by kernel_rfl) (by kernel_rfl) (fun _ _ _ h => h) (yieldsIf_load_mid (by rfl) _ _ rfl _ _ rfl _ _ ?hS31_5 ?hu31_5 ?hd31_5 ?hi31_5) (by assumption) ?rest31_5
              case hS31_5 => intro w hSw; (try dsimp only at hSw); go_split_ands; assumption
              case hu31_5 => assumption
              case hd31_5 => rfl
              case hi31_5 => first | assumption | (simp only [*]; done)
              try simp only [Act.put, List.getElem_toArray, List.getElem_cons_succ, List.getElem_cons_zero, List.setIfInBounds_toArray, List.set_cons_zero, List.set_cons_succ]
              refine wpAnyH_take (i := 33) (v := ?_) rfl (by kernel_rfl) (by kernel_rfl) (by kernel_rfl) (fun _ _ _ h => h) (Or.inl ⟨by rfl, ?_⟩) (by assumption) ?_
              rotate_left
              · intro w hSw; (try dsimp only at hSw); go_simp <;> with_reducible rfl
              try simp only [Act.put, List.getElem_toArray, List.getElem_cons_succ, List.getElem_cons_zero, List.setIfInBounds_toArray, List.set_cons_zero, List.set_cons_succ]
              refine wpAnyH_take (i := 34) (v := ?_) rfl (by kernel_rfl) (by kernel_rfl) (by kernel_rfl) (fun _ _ _ h => h) (Or.inl ⟨by rfl, ?_⟩) (by assumption) ?_
              rotate_left
              · intro w hSw; (try dsimp only at hSw); go_simp <;> with_reducible rfl
              try simp only [Act.put, List.getElem_toArray, List.getElem_cons_succ, List.getElem_cons_zero, List.setIfInBounds_toArray, List.set_cons_zero, List.set_cons_succ]
              refine wpAnyH_ready (rs := [32]) (by kernel_rfl) (by simp) ?_
              refine AllReadyH.cons rfl (fun K hK => ?_) AllReadyH.nil
              simp only [List.getElem_toArray, List.getElem_cons_succ, List.getElem_cons_zero]
              go_simp
              (first | (go_at_call 18; refine (HA1.out _).mono ?_; rintro e w' ⟨rfl, hbk⟩) | (go_at_call 20; refine (HTT.out _).mono ?_; rintro e w' ⟨rfl, hbk⟩) | (go_at_call 22; refine (HBA.out _).mono ?_; rintro e w' ⟨rfl, hbk⟩))
              go_wp2_with fail
              refine hK.out _ _ ?_ (fun hHeld => ?_)
              · (try dsimp only); (first | (exact ⟨(World.rangeAt_drew _ _ _ _).2 rA, (World.rangeAt_drew _ _ _ _).2 rB, (World.rangeAt_drew _ _ _ _).2 rT, (Below.refl _ _).drew⟩) | (obtain ⟨s1, s2, s3, s4⟩ := ‹World.rangeAt _ _ _ _ ∧ World.rangeAt _ _ _ _ ∧ World.rangeAt _ _ _ _ ∧ Below wr.heap.size wr _›; exact ⟨range_below s1 hbk (Nat.lt_of_lt_of_le ltA s4.size), range_below s2 hbk (Nat.lt_of_lt_of_le ltB s4.size), range_below s3 hbk (Nat.lt_of_lt_of_le ltT s4.size), s4.trans (hbk.mono s4.size)⟩))
              clear hK K
              try simp only [Act.put, List.getElem_toArray, List.getElem_cons_succ, List.getElem_cons_zero, List.setIfInBounds_toArray, List.set_cons_zero, List.set_cons_succ]
              refine wpAnyH_take (i := 35) (v := ?_) rfl (by kernel_rfl) (by kernel_rfl) (by kernel_rfl) (fun _ _ _ h => h) (Or.inl ⟨by rfl, ?_⟩) (by assumption) ?_
              rotate_left
              · intro w hSw; (try dsimp only at hSw); go_simp <;> with_reducible rfl
              try simp only [Act.put, List.getElem_toArray, List.getElem_cons_succ, List.getElem_cons_zero, List.setIfInBounds_toArray, List.set_cons_zero, List.set_cons_succ]
              refine wpAnyH_take (i := 36) (v := ?_) rfl (by kernel_rfl) (by kernel_rfl) (by kernel_rfl) (fun _ _ _ h => h) (Or.inl ⟨by rfl, ?_⟩) (by assumption) ?_
              rotate_left
              · intro w hSw; (try dsimp only at hSw); go_simp <;> with_reducible rfl
              try simp only [Act.put, List.getElem_toArray, List.getElem_cons_succ, List.getElem_cons_zero, List.setIfInBounds_toArray, List.set_cons_zero, List.set_cons_succ]
              refine wpAnyH_take (i := 37) (v := ?_) rfl (by kernel_rfl) (by kernel_rfl) (by kernel_rfl) (fun _ _ _ h => h) (Or.inl ⟨by rfl, ?_⟩) (by assumption) ?_
              rotate_left
              · intro w hSw; (try dsimp only at hSw); go_simp <;> with_reducible rfl
              try simp only [Act.put, List.getElem_toArray, List.getElem_cons_succ, List.getElem_cons_zero, List.setIfInBounds_toArray, List.set_cons_zero, List.set_cons_succ]
              refine wpAnyH_done (by kernel_rfl) ?_ _
              refine NoPanic.normal ?_
              go_split_ands
              have hbR := ‹Below wr.heap.size wr _›
              go_wp2
              go_ret
              exact ⟨rfl, hBall.trans (hbR.mono hBall.size)⟩
            · subst hc1 hx1
              go_wp2
              refine wp_region_noPanic ?_
              refine wp_region_held_drew (S := (fun W => W.rangeAt w.heap.size 0 (a.map bv) ∧ W.rangeAt (w.heap.size + 1) 0 (b.map bv) ∧ W.rangeAt w4.heap.size 0 (t.map bv) ∧ Below wr.heap.size wr W)) (by kernel_rfl) (by (try dsimp only); (first | (exact ⟨(World.rangeAt_drew _ _ _ _).2 rA, (World.rangeAt_drew _ _ _ _).2 rB, (World.rangeAt_drew _ _ _ _).2 rT, (Below.refl _ _).drew⟩) | (obtain ⟨s1, s2, s3, s4⟩ := ‹World.rangeAt _ _ _ _ ∧ World.rangeAt _ _ _ _ ∧ World.rangeAt _ _ _ _ ∧ Below wr.heap.size wr _›; exact ⟨range_below s1 hbk (Nat.lt_of_lt_of_le ltA s4.size), range_below s2 hbk (Nat.lt_of_lt_of_le ltB s4.size), range_below s3 hbk (Nat.lt_of_lt_of_le ltT s4.size), s4.trans (hbk.mono s4.size)⟩))) (fun hHeld => ?_)
              refine wpAnyH_take (i := 0) (v := ?_) rfl (by kernel_rfl) (by kernel_rfl) (by kernel_rfl) (fun _ _ _ h => h) (Or.inl ⟨by rfl, ?_⟩) (by assumption) ?_
              rotate_left
              · intro w hSw; (try dsimp only at hSw); go_simp <;> with_reducible rfl
              try simp only [Act.put, List.getElem_toArray, List.getElem_cons_succ, List.getElem_cons_zero, List.setIfInBounds_toArray, List.set_cons_zero, List.set_cons_succ]
              refine wpAnyH_take (i := 1) (v := ?_) rfl (by kernel_rfl) (by kernel_rfl) (by kernel_rfl) (fun _ _ _ h => h) (Or.inl ⟨by rfl, ?_⟩) (by assumption) ?_
              rotate_left
              · intro w hSw; (try dsimp only at hSw); go_simp <;> with_reducible rfl
              try simp only [Act.put, List.getElem_toArray, List.getElem_cons_succ, List.getElem_cons_zero, List.setIfInBounds_toArray, List.set_cons_zero, List.set_cons_succ]
              refine wpAnyH_take (i := 2) (v := ?_) rfl (by kernel_rfl) (by kernel_rfl) (by kernel_rfl) (fun _ _ _ h => h) (Or.inl ⟨by rfl, ?_⟩) (by assumption) ?_
              rotate_left
              · intro w hSw; (try dsimp only at hSw); go_simp <;> with_reducible rfl
              try simp only [Act.put, List.getElem_toArray, List.getElem_cons_succ, List.getElem_cons_zero, List.setIfInBounds_toArray, List.set_cons_zero, List.set_cons_succ]
              refine wpAnyH_take (i := 3) (v := ?_) rfl (by kernel_rfl) (by kernel_rfl) (by kernel_rfl) (fun _ _ _ h => h) (Or.inl ⟨by rfl, ?_⟩) (by assumption) ?_
              rotate_left
              · intro w hSw; (try dsimp only at hSw); go_simp <;> with_reducible rfl
              try simp only [Act.put, List.getElem_toArray, List.getElem_cons_succ, List.getElem_cons_zero, List.setIfInBounds_toArray, List.set_cons_zero, List.set_cons_succ]
              refine wpAnyH_take (i := 4) (v := ?_) rfl (by kernel_rfl) (by kernel_rfl) (by kernel_rfl) (fun _ _ _ h => h) (Or.inl ⟨by rfl, ?_⟩) (by assumption) ?_
              rotate_left
              · intro w hSw; (try dsimp only at hSw); go_simp <;> with_reducible rfl
              try simp only [Act.put, List.getElem_toArray, List.getElem_cons_succ, List.getElem_cons_zero, List.setIfInBounds_toArray, List.set_cons_zero, List.set_cons_succ]
              refine wpAnyH_take (i := 5) (v := ?_) rfl (by kernel_rfl) (by kernel_rfl) (by kernel_rfl) (fun _ _ _ h => h) (Or.inl ⟨by rfl, ?_⟩) (by assumption) ?_
              rotate_left
              · intro w hSw; (try dsimp only at hSw); go_simp <;> with_reducible rfl
              try simp only [Act.put, List.getElem_toArray, List.getElem_cons_succ, List.getElem_cons_zero, List.setIfInBounds_toArray, List.set_cons_zero, List.set_cons_succ]
              refine wpAnyH_take (i := 6) (v := ?_) rfl (by kernel_rfl) (by kernel_rfl) (by kernel_rfl) (fun _ _ _ h => h) (Or.inl ⟨by rfl, ?_⟩) (by assumption) ?_
              rotate_left
              · intro w hSw; (try dsimp only at hSw); go_simp <;> with_reducible rfl
              try simp only [Act.put, List.getElem_toArray, List.getElem_cons_succ, List.getElem_cons_zero, List.setIfInBounds_toArray, List.set_cons_zero, List.set_cons_succ]
              refine wpAnyH_take (i := 7) (v := ?_) rfl (by kernel_rfl) (by kernel_rfl) (by kernel_rfl) (fun _ _ _ h => h) (Or.inl ⟨by rfl, ?_⟩) (by assumption) ?_
              rotate_left
              · intro w hSw; (try dsimp only at hSw); go_simp <;> with_reducible rfl
              try simp only [Act.put, List.getElem_toArray, List.getElem_cons_succ, List.getElem_cons_zero, List.setIfInBounds_toArray, List.set_cons_zero, List.set_cons_succ]
              refine wpAnyH_take (i := 8) (v := ?_) rfl (by kernel_rfl) (by kernel_rfl) (by kernel_rfl) (fun _ _ _ h => h) (Or.inl ⟨by rfl, ?_⟩) (by assumption) ?_
              rotate_left
              · intro w hSw; (try dsimp only at hSw); go_simp <;> with_reducible rfl
              try simp only [Act.put, List.getElem_toArray, List.getElem_cons_succ, List.getElem_cons_zero, List.setIfInBounds_toArray, List.set_cons_zero, List.set_cons_succ]
              refine wpAnyH_take (i := 9) (v := ?_) rfl (by kernel_rfl) (by kernel_rfl) (by kernel_rfl) (fun _ _ _ h => h) (Or.inl ⟨by rfl, ?_⟩) (by assumption) ?_
              rotate_left
              · intro w hSw; (try dsimp only at hSw); go_simp <;> with_reducible rfl
              try simp only [Act.put, List.getElem_toArray, List.getElem_cons_succ, List.getElem_cons_zero, List.setIfInBounds_toArray, List.set_cons_zero, List.set_cons_succ]
              refine wpAnyH_take (i := 10) (v := ?_) rfl (by kernel_rfl) (by kernel_rfl) (by kernel_rfl) (fun _ _ _ h => h) (Or.inl ⟨by rfl, ?_⟩) (by assumption) ?_
              rotate_left
              · intro w hSw; (try dsimp only at hSw); go_simp <;> with_reducible rfl
              try simp only [Act.put, List.getElem_toArray, List.getElem_cons_succ, List.getElem_cons_zero, List.setIfInBounds_toArray, List.set_cons_zero, List.set_cons_succ]
              refine wpAnyH_take (i := 11) (v := ?_) rfl (by kernel_rfl) (by kernel_rfl) (by kernel_rfl) (fun _ _ _ h => h) (Or.inl ⟨by rfl, ?_⟩) (by assumption) ?_
              rotate_left
              · intro w hSw; (try dsimp only at hSw); go_simp <;> with_reducible rfl
              try simp only [Act.put, List.getElem_toArray, List.getElem_cons_succ, List.getElem_cons_zero, List.setIfInBounds_toArray, List.set_cons_zero, List.set_cons_succ]
              refine wpAnyH_take (i := 12) (v := ?_) rfl (by kernel_rfl) (by kernel_rfl) (by kernel_rfl) (fun _ _ _ h => h) (Or.inl ⟨by rfl, ?_⟩) (by assumption) ?_
              rotate_left
              · intro w hSw; (try dsimp only at hSw); go_simp <;> with_reducible rfl
              try simp only [Act.put, List.getElem_toArray, List.getElem_cons_succ, List.getElem_cons_zero, List.setIfInBounds_toArray, List.set_cons_zero, List.set_cons_succ]
              refine wpAnyH_take (i := 13) (v := ?_) rfl (by kernel_rfl) (by kernel_rfl) (by kernel_rfl) (fun _ _ _ h => h) (Or.inl ⟨by rfl, ?_⟩) (by assumption) ?_
              rotate_left
              · intro w hSw; (try dsimp only at hSw); go_simp <;> with_reducible rfl
              try simp only [Act.put, List.getElem_toArray, List.getElem_cons_succ, List.getElem_cons_zero, List.setIfInBounds_toArray, List.set_cons_zero, List.set_cons_succ]
              refine' wpAnyH_take (i := 14) (v := _) rfl (by kernel_rfl) (by kernel_rfl) (by kernel_rfl) (fun _ _ _ h => h) (yieldsIf_load_mid (by rfl) _ _ rfl _ _ rfl _ _ ?hS14_6 ?hu14_6 ?hd14_6 ?hi14_6) (by assumption) ?rest14_6
              case hS14_6 => intro w hSw; (try dsimp only at hSw); go_split_ands; assumption
              case hu14_6 => assumption
              case hd14_6 => rfl
              case hi14_6 => first | assumption | (simp only [*]; done)
              try simp only [Act.put, List.getElem_toArray, List.getElem_cons_succ, List.getElem_cons_zero, List.setIfInBounds_toArray, List.set_cons_zero, List.set_cons_succ]
              refine wpAnyH_take (i := 15) (v := ?_) rfl (by kernel_rfl) (by kernel_rfl) (by kernel_rfl) (fun _ _ _ h => h) (Or.inl ⟨by rfl, ?_⟩) (by assumption) ?_
              rotate_left
              · intro w hSw; (try dsimp only at hSw); go_simp <;> with_reducible rfl
              try simp only [Act.put, List.getElem_toArray, List.getElem_cons_succ, List.getElem_cons_zero, List.setIfInBounds_toArray, List.set_cons_zero, List.set_cons_succ]
              refine wpAnyH_ready (rs := [16]) (by kernel_rfl) (by simp) ?_
              refine AllReadyH.cons rfl (fun K hK => ?_) AllReadyH.nil
              simp only [List.getElem_toArray, List.getElem_cons_succ, List.getElem_cons_zero]
              go_simp
              (first | (go_at_call 18; refine (HA1.out _).mono ?_; rintro e w' ⟨rfl, hbk⟩) | (go_at_call 20; refine (HTT.out _).mono ?_; rintro e w' ⟨rfl, hbk⟩) | (go_at_call 22; refine (HBA.out _).mono ?_; rintro e w' ⟨rfl, hbk⟩))
              go_wp2_with fail
              refine hK.out _ _ ?_ (fun hHeld => ?_)
              · (try dsimp only); (first | (exact ⟨(World.rangeAt_drew _ _ _ _).2 rA, (World.rangeAt_drew _ _ _ _).2 rB, (World.rangeAt_drew _ _ _ _).2 rT, (Below.refl _ _).drew⟩) | (obtain ⟨s1, s2, s3, s4⟩ := ‹World.rangeAt _ _ _ _ ∧ World.rangeAt _ _ _ _ ∧ World.rangeAt _ _ _ _ ∧ Below wr.heap.size wr _›; exact ⟨range_below s1 hbk (Nat.lt_of_lt_of_le ltA s4.size), range_below s2 hbk (Nat.lt_of_lt_of_le ltB s4.size), range_below s3 hbk (Nat.lt_of_lt_of_le ltT s4.size), s4.trans (hbk.mono s4.size)⟩))
              clear hK K
              try simp only [Act.put, List.getElem_toArray, List.getElem_cons_succ, List.getElem_cons_zero, List.setIfInBounds_toArray, List.set_cons_zero, List.set_cons_succ]
              refine wpAnyH_take (i := 17) (v := ?_) rfl (by kernel_rfl) (by kernel_rfl) (by kernel_rfl) (fun _ _ _ h => h) (Or.inl ⟨by rfl, ?_⟩) (by assumption) ?_
              rotate_left
              · intro w hSw; (try dsimp only at hSw); go_simp <;> with_reducible rfl
              try simp only [Act.put, List.getElem_toArray, List.getElem_cons_succ, List.getElem_cons_zero, List.setIfInBounds_toArray, List.set_cons_zero, List.set_cons_succ]
              refine wpAnyH_take (i := 18) (v := ?_) rfl (by kernel_rfl) (by kernel_rfl) (by kernel_rfl) (fun _ _ _ h => h) (Or.inl ⟨by rfl, ?_⟩) (by assumption) ?_
              rotate_left
              · intro w hSw; (try dsimp only at hSw); go_simp <;> with_reducible rfl
              try simp only [Act.put, List.getElem_toArray, List.getElem_cons_succ, List.getElem_cons_zero, List.setIfInBounds_toArray, List.set_cons_zero, List.set_cons_succ]
              refine wpAnyH_take (i := 19) (v := ?_) rfl (by kernel_rfl) (by kernel_rfl) (by kernel_rfl) (fun _ _ _ h => h) (Or.inl ⟨by rfl, ?_⟩) (by assumption) ?_
              rotate_left
              · intro w hSw; (try dsimp only at hSw); go_simp <;> with_reducible rfl
              try simp only [Act.put, List.getElem_toArray, List.getElem_cons_succ, List.getElem_cons_zero, List.setIfInBounds_toArray, List.set_cons_zero, List.set_cons_succ]
              refine wpAnyH_take (i := 20) (v := ?_) rfl (by kernel_rfl) (by kernel_rfl) (by kernel_rfl) (fun _ _ _ h => h) (Or.inl ⟨by rfl, ?_⟩) (by assumption) ?_
              rotate_left
              · intro w hSw; (try dsimp only at hSw); go_simp <;> with_reducible rfl
              try simp only [Act.put, List.getElem_toArray, List.getElem_cons_succ, List.getElem_cons_zero, List.setIfInBounds_toArray, List.set_cons_zero, List.set_cons_succ]
              refine wpAnyH_take (i := 21) (v := ?_) rfl (by kernel_rfl) (by kernel_rfl) (by kernel_rfl) (fun _ _ _ h => h) (Or.inl ⟨by rfl, ?_⟩) (by assumption) ?_
              rotate_left
              · intro w hSw; (try dsimp only at hSw); go_simp <;> with_reducible rfl
              try simp only [Act.put, List.getElem_toArray, List.getElem_cons_succ, List.getElem_cons_zero, List.setIfInBounds_toArray, List.set_cons_zero, List.set_cons_succ]
              refine' wpAnyH_take (i := 22) (v := _) rfl (by kernel_rfl) (by kernel_rfl) (by kernel_rfl) (fun _ _ _ h => h) (yieldsIf_load_mid (by rfl) _ _ rfl _ _ rfl _ _ ?hS22_6 ?hu22_6 ?hd22_6 ?hi22_6) (by assumption) ?rest22_6
              case hS22_6 => intro w hSw; (try dsimp only at hSw); go_split_ands; assumption
              case hu22_6 => assumption
              case hd22_6 => rfl
              case hi22_6 => first | assumption | (simp only [*]; done)
              try simp only [Act.put, List.getElem_toArray, List.getElem_cons_succ, List.getElem_cons_zero, List.setIfInBounds_toArray, List.set_cons_zero, List.set_cons_succ]
              refine wpAnyH_take (i := 23) (v := ?_) rfl (by kernel_rfl) (by kernel_rfl) (by kernel_rfl) (fun _ _ _ h => h) (Or.inl ⟨by rfl, ?_⟩) (by assumption) ?_
              rotate_left
              · intro w hSw; (try dsimp only at hSw); go_simp <;> with_reducible rfl
              try simp only [Act.put, List.getElem_toArray, List.getElem_cons_succ, List.getElem_cons_zero, List.setIfInBounds_toArray, List.set_cons_zero, List.set_cons_succ]
              refine wpAnyH_take (i := 24) (v := ?_) rfl (by kernel_rfl) (by kernel_rfl) (by kernel_rfl) (fun _ _ _ h => h) (Or.inl ⟨by rfl, ?_⟩) (by assumption) ?_
              rotate_left
              · intro w hSw; (try dsimp only at hSw); go_simp <;> with_reducible rfl
              try simp only [Act.put, List.getElem_toArray, List.getElem_cons_succ, List.getElem_cons_zero, List.setIfInBounds_toArray, List.set_cons_zero, List.set_cons_succ]
              refine' wpAnyH_take (i := 26) (v := _) rfl (by kernel_rfl) (by kernel_rfl) (by kernel_rfl) (fun _ _ _ h => h) (yieldsIf_load_mid (by rfl) _ _ rfl _ _ rfl _ _ ?hS26_6 ?hu26_6 ?hd26_6 ?hi26_6) (by assumption) ?rest26_6
              case hS26_6 => intro w hSw; (try dsimp only at hSw); go_split_ands; assumption
              case hu26_6 => assumption
              case hd26_6 => rfl
              case hi26_6 => first | assumption | (simp only [*]; done)
              try simp only [Act.put, List.getElem_toArray, List.getElem_cons_succ, List.getElem_cons_zero, List.setIfInBounds_toArray, List.set_cons_zero, List.set_cons_succ]
              refine wpAnyH_ready (rs := [25]) (by kernel_rfl) (by simp) ?_
              refine AllReadyH.cons rfl (fun K hK => ?_) AllReadyH.nil
              simp only [List.getElem_toArray, List.getElem_cons_succ, List.getElem_cons_zero]
              go_simp
              (first | (go_at_call 18; refine (HA1.out _).mono ?_; rintro e w' ⟨rfl, hbk⟩) | (go_at_call 20; refine (HTT.out _).mono ?_; rintro e w' ⟨rfl, hbk⟩) | (go_at_call 22; refine (HBA.out _).mono ?_; rintro e w' ⟨rfl, hbk⟩))
              go_wp2_with fail
              refine hK.out _ _ ?_ (fun hHeld => ?_)
              · (try dsimp only); (first | (exact ⟨(World.rangeAt_drew _ _ _ _).2 rA, (World.rangeAt_drew _ _ _ _).2 rB, (World.rangeAt_drew _ _ _ _).2 rT, (Below.refl _ _).drew⟩) | (obtain ⟨s1, s2, s3, s4⟩ := ‹World.rangeAt _ _ _ _ ∧ World.rangeAt _ _ _ _ ∧ World.rangeAt _ _ _ _ ∧ Below wr.heap.size wr _›; exact ⟨range_below s1 hbk (Nat.lt_of_lt_of_le ltA s4.size), range_below s2 hbk (Nat.lt_of_lt_of_le ltB s4.size), range_below s3 hbk (Nat.lt_of_lt_of_le ltT s4.size), s4.trans (hbk.mono s4.size)⟩))
              clear hK K
              try simp only [Act.put, List.getElem_toArray, List.getElem_cons_succ, List.getElem_cons_zero, List.setIfInBounds_toArray, List.set_cons_zero, List.set_cons_succ]
              refine wpAnyH_take (i := 27) (v := ?_) rfl (by kernel_rfl) (by kernel_rfl) (by kernel_rfl) (fun _ _ _ h => h) (Or.inl ⟨by rfl, ?_⟩) (by assumption) ?_
              rotate_left
              · intro w hSw; (try dsimp only at hSw); go_simp <;> with_reducible rfl
              try simp only [Act.put, List.getElem_toArray, List.getElem_cons_succ, List.getElem_cons_zero, List.setIfInBounds_toArray, List.set_cons_zero, List.set_cons_succ]
              refine wpAnyH_take (i := 28) (v := ?_) rfl (by kernel_rfl) (by kernel_rfl) (by kernel_rfl) (fun _ _ _ h => h) (Or.inl ⟨by rfl, ?_⟩) (by assumption) ?_
              rotate_left
              · intro w hSw; (try dsimp only at hSw); go_simp <;> with_reducible rfl
              try simp only [Act.put, List.getElem_toArray, List.getElem_cons_succ, List.getElem_cons_zero, List.setIfInBounds_toArray, List.set_cons_zero, List.set_cons_succ]
              refine wpAnyH_take (i := 29) (v := ?_) rfl (by kernel_rfl) (by kernel_rfl) (by kernel_rfl) (fun _ _ _ h => h) (Or.inl ⟨by rfl, ?_⟩) (by assumption) ?_
              rotate_left
              · intro w hSw; (try dsimp only at hSw); go_simp <;> with_reducible rfl
              try simp only [Act.put, List.getElem_toArray, List.getElem_cons_succ, List.getElem_cons_zero, List.setIfInBounds_toArray, List.set_cons_zero, List.set_cons_succ]
              refine' wpAnyH_take (i := 30) (v := _) rfl (by kernel_rfl) (by kernel_rfl) (by kernel_rfl) (fun _ _ _ h => h) (yieldsIf_load_mid (by rfl) _ _ rfl _ _ rfl _ _ ?hS30_6 ?hu30_6 ?hd30_6 ?hi30_6) (by assumption) ?rest30_6
              case hS30_6 => intro w hSw; (try dsimp only at hSw); go_split_ands; assumption
              case hu30_6 => assumption
              case hd30_6 => rfl
              case hi30_6 => first | assumption | (simp only [*]; done)
              try simp only [Act.put, List.getElem_toArray, List.getElem_cons_succ, List.getElem_cons_zero, List.setIfInBounds_toArray, List.set_cons_zero, List.set_cons_succ]
              refine' wpAnyH_take (i := 31) (v := _) rfl (by kernel_rfl) (by kernel_rfl) (by kernel_rfl) (fun _ _ _ h => h) (yieldsIf_load_mid (by rfl) _ _ rfl _ _ rfl _ _ ?hS31_6 ?hu31_6 ?hd31_6 ?hi31_6) (by assumption) ?rest31_6
              case hS31_6 => intro w hSw; (try dsimp only at hSw); go_split_ands; assumption
              case hu31_6 => assumption
              case hd31_6 => rfl
              case hi31_6 => first | assumption | (simp only [*]; done)
              try simp only [Act.put, List.getElem_toArray, List.getElem_cons_succ, List.getElem_cons_zero, List.setIfInBounds_toArray, List.set_cons_zero, List.set_cons_succ]
              refine wpAnyH_take (i := 33) (v := ?_) rfl (by kernel_rfl) (by kernel_rfl) (by kernel_rfl) (fun _ _ _ h => h) (Or.inl ⟨by rfl, ?_⟩) (by assumption) ?_
              rotate_left
              · intro w hSw; (try dsimp only at hSw); go_simp <;> with_reducible rfl
              try simp only [Act.put, List.getElem_toArray, List.getElem_cons_succ, List.getElem_cons_zero, List.setIfInBounds_toArray, List.set_cons_zero, List.set_cons_succ]
              refine wpAnyH_take (i := 34) (v := ?_) rfl (by kernel_rfl) (by kernel_rfl) (by kernel_rfl) (fun _ _ _ h => h) (Or.inl ⟨by rfl, ?_⟩) (by assumption) ?_
              rotate_left
              · intro w hSw; (try dsimp only at hSw); go_simp <;> with_reducible rfl
              try simp only [Act.put, List.getElem_toArray, List.getElem_cons_succ, List.getElem_cons_zero, List.setIfInBounds_toArray, List.set_cons_zero, List.set_cons_succ]
              refine wpAnyH_ready (rs := [32]) (by kernel_rfl) (by simp) ?_
              refine AllReadyH.cons rfl (fun K hK => ?_) AllReadyH.nil
              simp only [List.getElem_toArray, List.getElem_cons_succ, List.getElem_cons_zero]
              go_simp
              (first | (go_at_call 18; refine (HA1.out _).mono ?_; rintro e w' ⟨rfl, hbk⟩) | (go_at_call 20; refine (HTT.out _).mono ?_; rintro e w' ⟨rfl, hbk⟩) | (go_at_call 22; refine (HBA.out _).mono ?_; rintro e w' ⟨rfl, hbk⟩))
              go_wp2_with fail
              refine hK.out _ _ ?_ (fun hHeld => ?_)
              · (try dsimp only); (first | (exact ⟨(World.rangeAt_drew _ _ _ _).2 rA, (World.rangeAt_drew _ _ _ _).2 rB, (World.rangeAt_drew _ _ _ _).2 rT, (Below.refl _ _).drew⟩) | (obtain ⟨s1, s2, s3, s4⟩ := ‹World.rangeAt _ _ _ _ ∧ World.rangeAt _ _ _ _ ∧ World.rangeAt _ _ _ _ ∧ Below wr.heap.size wr _›; exact ⟨range_below s1 hbk (Nat.lt_of_lt_of_le ltA s4.size), range_below s2 hbk (Nat.lt_of_lt_of_le ltB s4.size), range_below s3 hbk (Nat.lt_of_lt_of_le ltT s4.size), s4.trans (hbk.mono s4.size)⟩))
              clear hK K
              try simp only [Act.put, List.getElem_toArray, List.getElem_cons_succ, List.getElem_cons_zero, List.setIfInBounds_toArray, List.set_cons_zero, List.set_cons_succ]
              refine wpAnyH_take (i := 35) (v := ?_) rfl (by kernel_rfl) (by kernel_rfl) (by kernel_rfl) (fun _ _ _ h => h) (Or.inl ⟨by rfl, ?_⟩) (by assumption) ?_
              rotate_left
              · intro w hSw; (try dsimp only at hSw); go_simp <;> with_reducible rfl
              try simp only [Act.put, List.getElem_toArray, List.getElem_cons_succ, List.getElem_cons_zero, List.setIfInBounds_toArray, List.set_cons_zero, List.set_cons_succ]
              refine wpAnyH_take (i := 36) (v := ?_) rfl (by kernel_rfl) (by kernel_rfl) (by kernel_rfl) (fun _ _ _ h => h) (Or.inl ⟨by rfl, ?_⟩) (by assumption) ?_
              rotate_left
              · intro w hSw; (try dsimp only at hSw); go_simp <;> with_reducible rfl
              try simp only [Act.put, List.getElem_toArray, List.getElem_cons_succ, List.getElem_cons_zero, List.setIfInBounds_toArray, List.set_cons_zero, List.set_cons_succ]
              refine wpAnyH_take (i := 37) (v := ?_) rfl (by kernel_rfl) (by kernel_rfl) (by kernel_rfl) (fun _ _ _ h => h) (Or.inl ⟨by rfl, ?_⟩) (by assumption) ?_
              rotate_left
              · intro w hSw; (try dsimp only at hSw); go_simp <;> with_reducible rfl
              try simp only [Act.put, List.getElem_toArray, List.getElem_cons_succ, List.getElem_cons_zero, List.setIfInBounds_toArray, List.set_cons_zero, List.set_cons_succ]
              refine wpAnyH_done (by kernel_rfl) ?_ _
              refine NoPanic.normal ?_
              go_split_ands
              have hbR := ‹Below wr.heap.size wr _›
              go_wp2
              go_ret
              exact ⟨rfl, hBall.trans (hbR.mono hBall.size)⟩
    · obtain rfl : k = 256 := by omega
      go_wp2
      go_quiet (fail)
      generalize hwd : wr.drewN _ = wd
      have hbD : Below wr.heap.size wr wd := hwd ▸ below_drewN (Below.refl _ wr) _
      have hAD := hAw.keep hbD
      have hBD := hBw.keep hbD
      have la := hAD.load HLa.out
      go_wp2_with (first
        | (go_at_call 20; with_reducible refine (HTU.out _).mono ?_
           rintro e w4 ⟨rfl, hb4⟩
           have hAT := hAD.keep hb4
           have hBT := hBD.keep hb4)
        | (with_reducible refine wpList_store_key rfl 36 (.tmp 10) (.tmp 32) rfl w4.heap.size t HLt.out rfl rfl _ (heap_alloc_new w4 _) Try.info32 rfl w4.heap.size w4 ((Below.refl _ _).alloc (Nat.le_refl _) _) (Nat.le_refl _) ?_
           intro w5 Hg5 hs5 ho5 hb5)
        | fail)
      have hA5 : Holds w5 w.heap.size a := hAT.keep hb5
      have hB5 : Holds w5 (w.heap.size + 1) b := hBT.keep hb5
      have hT5 : Holds w5 w4.heap.size t := Hg5.out
      clear Hg5 la
      go_loopw [11] (fun v wr => ∃ q : Nat, q ≤ 256 ∧ v = .int .i64 q ∧ Below w5.heap.size w5 wr)
        (fun v _ => 256 - (intOf v).toNat)
      case atStart => exact ⟨0, Nat.zero_le _, rfl, Below.refl _ _⟩
      case round =>
        obtain ⟨q, hq, rfl, hbq⟩ := hrel
        have hAq := hA5.keep hbq
        have hBq := hB5.keep hbq
        have hTq := hT5.keep hbq
        have rA := hAq.range
        have rT := hTq.range
        have ltA := hAq.lt
        have ltT := hTq.lt
        by_cases hlq : q < 256
        · have hq0 : (0 : Int) ≤ q := by omega
          have hq1 : (q : Int) < 256 := by omega
          obtain ⟨ya, hya⟩ : ∃ x : Int, x = kbit a q := ⟨_, rfl⟩
          obtain ⟨yt, hyt⟩ : ∃ x : Int, x = kbit t q := ⟨_, rfl⟩
          have HYA : Hid (∀ W, Calls Try.prog 18 #[.agg (a.map bv).toArray, .int .i64 q] W (GaveInt W ya)) := Lib.hid fun W => by have := Bit_in a q W hq0 hq1 HLa.out; rwa [Int.toNat_natCast, ← hya] at this
          have HYT : Hid (∀ W, Calls Try.prog 18 #[.agg (t.map bv).toArray, .int .i64 q] W (GaveInt W yt)) := Lib.hid fun W => by have := Bit_in t q W hq0 hq1 HLt.out; rwa [Int.toNat_natCast, ← hyt] at this
          have hboth : ((yt != ya) = true ∧ ((q : Int) == (i : Int)) = true) ∨ ((yt != ya) = false ∧ ((q : Int) == (i : Int)) = false) := by
            have h1 := HTB.out q hlq
            have h2 := kbit_lt a q
            by_cases hqi : q = i
            · rw [if_pos hqi] at h1
              exact Or.inl ⟨by rw [bne_iff_ne]; omega, by rw [beq_iff_eq]; omega⟩
            · rw [if_neg hqi] at h1
              exact Or.inr ⟨by rw [bne_eq_false_iff_eq]; omega, by rw [beq_eq_false_iff_ne]; omega⟩
          clear hya hyt
          rcases hboth with ⟨hn1, hn2⟩ | ⟨hn1, hn2⟩
          · go_wp2
            refine wp_region_noPanic ?_
            refine wp_region_held_drew (S := (fun W => W.rangeAt w.heap.size 0 (a.map bv) ∧ W.rangeAt w4.heap.size 0 (t.map bv) ∧ Below wr.heap.size wr W)) (by kernel_rfl) (by (try dsimp only); (first | (exact ⟨(World.rangeAt_drew _ _ _ _).2 rA, (World.rangeAt_drew _ _ _ _).2 rT, (Below.refl _ _).drew⟩) | (obtain ⟨s1, s2, s3⟩ := ‹World.rangeAt _ _ _ _ ∧ World.rangeAt _ _ _ _ ∧ Below wr.heap.size wr _›; exact ⟨range_below s1 hbk (Nat.lt_of_lt_of_le ltA s3.size), range_below s2 hbk (Nat.lt_of_lt_of_le ltT s3.size), s3.trans (hbk.mono s3.size)⟩))) (fun hHeld => ?_)
            refine' wpAnyH_take (i := 0) (v := _) rfl (by kernel_rfl) (by kernel_rfl) (by kernel_rfl) (fun _ _ _ h => h) (yieldsIf_load_mid (by rfl) _ _ rfl _ _ rfl _ _ ?hS0_7 ?hu0_7 ?hd0_7 ?hi0_7) (by assumption) ?rest0_7
            case hS0_7 => intro w hSw; (try dsimp only at hSw); go_split_ands; assumption
            case hu0_7 => assumption
            case hd0_7 => rfl
            case hi0_7 => first | assumption | (simp only [*]; done)
            try simp only [Act.put, List.getElem_toArray, List.getElem_cons_succ, List.getElem_cons_zero, List.setIfInBounds_toArray, List.set_cons_zero, List.set_cons_succ]
            refine wpAnyH_take (i := 1) (v := ?_) rfl (by kernel_rfl) (by kernel_rfl) (by kernel_rfl) (fun _ _ _ h => h) (Or.inl ⟨by rfl, ?_⟩) (by assumption) ?_
            rotate_left
            · intro w hSw; (try dsimp only at hSw); go_simp <;> with_reducible rfl
            try simp only [Act.put, List.getElem_toArray, List.getElem_cons_succ, List.getElem_cons_zero, List.setIfInBounds_toArray, List.set_cons_zero, List.set_cons_succ]
            refine' wpAnyH_take (i := 3) (v := _) rfl (by kernel_rfl) (by kernel_rfl) (by kernel_rfl) (fun _ _ _ h => h) (yieldsIf_load_mid (by rfl) _ _ rfl _ _ rfl _ _ ?hS3_7 ?hu3_7 ?hd3_7 ?hi3_7) (by assumption) ?rest3_7
            case hS3_7 => intro w hSw; (try dsimp only at hSw); go_split_ands; assumption
            case hu3_7 => assumption
            case hd3_7 => rfl
            case hi3_7 => first | assumption | (simp only [*]; done)
            try simp only [Act.put, List.getElem_toArray, List.getElem_cons_succ, List.getElem_cons_zero, List.setIfInBounds_toArray, List.set_cons_zero, List.set_cons_succ]
            refine wpAnyH_take (i := 4) (v := ?_) rfl (by kernel_rfl) (by kernel_rfl) (by kernel_rfl) (fun _ _ _ h => h) (Or.inl ⟨by rfl, ?_⟩) (by assumption) ?_
            rotate_left
            · intro w hSw; (try dsimp only at hSw); go_simp <;> with_reducible rfl
            try simp only [Act.put, List.getElem_toArray, List.getElem_cons_succ, List.getElem_cons_zero, List.setIfInBounds_toArray, List.set_cons_zero, List.set_cons_succ]
            refine wpAnyH_take (i := 7) (v := ?_) rfl (by kernel_rfl) (by kernel_rfl) (by kernel_rfl) (fun _ _ _ h => h) (Or.inl ⟨by rfl, ?_⟩) (by assumption) ?_
            rotate_left
            · intro w hSw; (try dsimp only at hSw); go_simp <;> with_reducible rfl
            try simp only [Act.put, List.getElem_toArray, List.getElem_cons_succ, List.getElem_cons_zero, List.setIfInBounds_toArray, List.set_cons_zero, List.set_cons_succ]
            refine wpAnyH_take (i := 8) (v := ?_) rfl (by kernel_rfl) (by kernel_rfl) (by kernel_rfl) (fun _ _ _ h => h) (Or.inl ⟨by rfl, ?_⟩) (by assumption) ?_
            rotate_left
            · intro w hSw; (try dsimp only at hSw); go_simp <;> with_reducible rfl
            try simp only [Act.put, List.getElem_toArray, List.getElem_cons_succ, List.getElem_cons_zero, List.setIfInBounds_toArray, List.set_cons_zero, List.set_cons_succ]
            refine wpAnyH_take (i := 9) (v := ?_) rfl (by kernel_rfl) (by kernel_rfl) (by kernel_rfl) (fun _ _ _ h => h) (Or.inl ⟨by rfl, ?_⟩) (by assumption) ?_
            rotate_left
            · intro w hSw; (try dsimp only at hSw); go_simp <;> with_reducible rfl
            try simp only [Act.put, List.getElem_toArray, List.getElem_cons_succ, List.getElem_cons_zero, List.setIfInBounds_toArray, List.set_cons_zero, List.set_cons_succ]
            refine wpAnyH_take (i := 10) (v := ?_) rfl (by kernel_rfl) (by kernel_rfl) (by kernel_rfl) (fun _ _ _ h => h) (Or.inl ⟨by rfl, ?_⟩) (by assumption) ?_
            rotate_left
            · intro w hSw; (try dsimp only at hSw); go_simp <;> with_reducible rfl
            try simp only [Act.put, List.getElem_toArray, List.getElem_cons_succ, List.getElem_cons_zero, List.setIfInBounds_toArray, List.set_cons_zero, List.set_cons_succ]
            refine wpAnyH_ready (rs := [2]) (by kernel_rfl) (by simp) ?_
            refine AllReadyH.cons rfl (fun K hK => ?_) AllReadyH.nil
            simp only [List.getElem_toArray, List.getElem_cons_succ, List.getElem_cons_zero]
            go_simp
            (first | (go_at_call 18; (first | with_reducible refine (HYA.out _).mono ?_ | with_reducible refine (HYT.out _).mono ?_); rintro e w' ⟨rfl, hbk⟩))
            go_wp2_with fail
            refine hK.out _ _ ?_ (fun hHeld => ?_)
            · (try dsimp only); (first | (exact ⟨(World.rangeAt_drew _ _ _ _).2 rA, (World.rangeAt_drew _ _ _ _).2 rT, (Below.refl _ _).drew⟩) | (obtain ⟨s1, s2, s3⟩ := ‹World.rangeAt _ _ _ _ ∧ World.rangeAt _ _ _ _ ∧ Below wr.heap.size wr _›; exact ⟨range_below s1 hbk (Nat.lt_of_lt_of_le ltA s3.size), range_below s2 hbk (Nat.lt_of_lt_of_le ltT s3.size), s3.trans (hbk.mono s3.size)⟩))
            clear hK K
            try simp only [Act.put, List.getElem_toArray, List.getElem_cons_succ, List.getElem_cons_zero, List.setIfInBounds_toArray, List.set_cons_zero, List.set_cons_succ]
            refine wpAnyH_ready (rs := [5]) (by kernel_rfl) (by simp) ?_
            refine AllReadyH.cons rfl (fun K hK => ?_) AllReadyH.nil
            simp only [List.getElem_toArray, List.getElem_cons_succ, List.getElem_cons_zero]
            go_simp
            (first | (go_at_call 18; (first | with_reducible refine (HYA.out _).mono ?_ | with_reducible refine (HYT.out _).mono ?_); rintro e w' ⟨rfl, hbk⟩))
            go_wp2_with fail
            refine hK.out _ _ ?_ (fun hHeld => ?_)
            · (try dsimp only); (first | (exact ⟨(World.rangeAt_drew _ _ _ _).2 rA, (World.rangeAt_drew _ _ _ _).2 rT, (Below.refl _ _).drew⟩) | (obtain ⟨s1, s2, s3⟩ := ‹World.rangeAt _ _ _ _ ∧ World.rangeAt _ _ _ _ ∧ Below wr.heap.size wr _›; exact ⟨range_below s1 hbk (Nat.lt_of_lt_of_le ltA s3.size), range_below s2 hbk (Nat.lt_of_lt_of_le ltT s3.size), s3.trans (hbk.mono s3.size)⟩))
            clear hK K
            try simp only [Act.put, List.getElem_toArray, List.getElem_cons_succ, List.getElem_cons_zero, List.setIfInBounds_toArray, List.set_cons_zero, List.set_cons_succ]
            refine wpAnyH_take (i := 6) (v := ?_) rfl (by kernel_rfl) (by kernel_rfl) (by kernel_rfl) (fun _ _ _ h => h) (Or.inl ⟨by rfl, ?_⟩) (by assumption) ?_
            rotate_left
            · intro w hSw; (try dsimp only at hSw); go_simp <;> with_reducible rfl
            try simp only [Act.put, List.getElem_toArray, List.getElem_cons_succ, List.getElem_cons_zero, List.setIfInBounds_toArray, List.set_cons_zero, List.set_cons_succ]
            refine wpAnyH_take (i := 11) (v := ?_) rfl (by kernel_rfl) (by kernel_rfl) (by kernel_rfl) (fun _ _ _ h => h) (Or.inl ⟨by rfl, ?_⟩) (by assumption) ?_
            rotate_left
            · intro w hSw; (try dsimp only at hSw); go_simp <;> with_reducible rfl
            try simp only [Act.put, List.getElem_toArray, List.getElem_cons_succ, List.getElem_cons_zero, List.setIfInBounds_toArray, List.set_cons_zero, List.set_cons_succ]
            refine wpAnyH_done (by kernel_rfl) ?_ _
            refine NoPanic.normal ?_
            go_split_ands
            have hbR := ‹Below wr.heap.size wr _›
            go_wp2
            go_roundw
            case rel => exact ⟨q + 1, by omega, by go_num, hbq.trans (hbR.mono hbq.size)⟩
            case measure => simp [intOf]; omega
          · go_wp2
            refine wp_region_noPanic ?_
            refine wp_region_held_drew (S := (fun W => W.rangeAt w.heap.size 0 (a.map bv) ∧ W.rangeAt w4.heap.size 0 (t.map bv) ∧ Below wr.heap.size wr W)) (by kernel_rfl) (by (try dsimp only); (first | (exact ⟨(World.rangeAt_drew _ _ _ _).2 rA, (World.rangeAt_drew _ _ _ _).2 rT, (Below.refl _ _).drew⟩) | (obtain ⟨s1, s2, s3⟩ := ‹World.rangeAt _ _ _ _ ∧ World.rangeAt _ _ _ _ ∧ Below wr.heap.size wr _›; exact ⟨range_below s1 hbk (Nat.lt_of_lt_of_le ltA s3.size), range_below s2 hbk (Nat.lt_of_lt_of_le ltT s3.size), s3.trans (hbk.mono s3.size)⟩))) (fun hHeld => ?_)
            refine' wpAnyH_take (i := 0) (v := _) rfl (by kernel_rfl) (by kernel_rfl) (by kernel_rfl) (fun _ _ _ h => h) (yieldsIf_load_mid (by rfl) _ _ rfl _ _ rfl _ _ ?hS0_8 ?hu0_8 ?hd0_8 ?hi0_8) (by assumption) ?rest0_8
            case hS0_8 => intro w hSw; (try dsimp only at hSw); go_split_ands; assumption
            case hu0_8 => assumption
            case hd0_8 => rfl
            case hi0_8 => first | assumption | (simp only [*]; done)
            try simp only [Act.put, List.getElem_toArray, List.getElem_cons_succ, List.getElem_cons_zero, List.setIfInBounds_toArray, List.set_cons_zero, List.set_cons_succ]
            refine wpAnyH_take (i := 1) (v := ?_) rfl (by kernel_rfl) (by kernel_rfl) (by kernel_rfl) (fun _ _ _ h => h) (Or.inl ⟨by rfl, ?_⟩) (by assumption) ?_
            rotate_left
            · intro w hSw; (try dsimp only at hSw); go_simp <;> with_reducible rfl
            try simp only [Act.put, List.getElem_toArray, List.getElem_cons_succ, List.getElem_cons_zero, List.setIfInBounds_toArray, List.set_cons_zero, List.set_cons_succ]
            refine' wpAnyH_take (i := 3) (v := _) rfl (by kernel_rfl) (by kernel_rfl) (by kernel_rfl) (fun _ _ _ h => h) (yieldsIf_load_mid (by rfl) _ _ rfl _ _ rfl _ _ ?hS3_8 ?hu3_8 ?hd3_8 ?hi3_8) (by assumption) ?rest3_8
            case hS3_8 => intro w hSw; (try dsimp only at hSw); go_split_ands; assumption
            case hu3_8 => assumption
            case hd3_8 => rfl
            case hi3_8 => first | assumption | (simp only [*]; done)
            try simp only [Act.put, List.getElem_toArray, List.getElem_cons_succ, List.getElem_cons_zero, List.setIfInBounds_toArray, List.set_cons_zero, List.set_cons_succ]
            refine wpAnyH_take (i := 4) (v := ?_) rfl (by kernel_rfl) (by kernel_rfl) (by kernel_rfl) (fun _ _ _ h => h) (Or.inl ⟨by rfl, ?_⟩) (by assumption) ?_
            rotate_left
            · intro w hSw; (try dsimp only at hSw); go_simp <;> with_reducible rfl
            try simp only [Act.put, List.getElem_toArray, List.getElem_cons_succ, List.getElem_cons_zero, List.setIfInBounds_toArray, List.set_cons_zero, List.set_cons_succ]
            refine wpAnyH_take (i := 7) (v := ?_) rfl (by kernel_rfl) (by kernel_rfl) (by kernel_rfl) (fun _ _ _ h => h) (Or.inl ⟨by rfl, ?_⟩) (by assumption) ?_
            rotate_left
            · intro w hSw; (try dsimp only at hSw); go_simp <;> with_reducible rfl
            try simp only [Act.put, List.getElem_toArray, List.getElem_cons_succ, List.getElem_cons_zero, List.setIfInBounds_toArray, List.set_cons_zero, List.set_cons_succ]
            refine wpAnyH_take (i := 8) (v := ?_) rfl (by kernel_rfl) (by kernel_rfl) (by kernel_rfl) (fun _ _ _ h => h) (Or.inl ⟨by rfl, ?_⟩) (by assumption) ?_
            rotate_left
            · intro w hSw; (try dsimp only at hSw); go_simp <;> with_reducible rfl
            try simp only [Act.put, List.getElem_toArray, List.getElem_cons_succ, List.getElem_cons_zero, List.setIfInBounds_toArray, List.set_cons_zero, List.set_cons_succ]
            refine wpAnyH_take (i := 9) (v := ?_) rfl (by kernel_rfl) (by kernel_rfl) (by kernel_rfl) (fun _ _ _ h => h) (Or.inl ⟨by rfl, ?_⟩) (by assumption) ?_
            rotate_left
            · intro w hSw; (try dsimp only at hSw); go_simp <;> with_reducible rfl
            try simp only [Act.put, List.getElem_toArray, List.getElem_cons_succ, List.getElem_cons_zero, List.setIfInBounds_toArray, List.set_cons_zero, List.set_cons_succ]
            refine wpAnyH_take (i := 10) (v := ?_) rfl (by kernel_rfl) (by kernel_rfl) (by kernel_rfl) (fun _ _ _ h => h) (Or.inl ⟨by rfl, ?_⟩) (by assumption) ?_
            rotate_left
            · intro w hSw; (try dsimp only at hSw); go_simp <;> with_reducible rfl
            try simp only [Act.put, List.getElem_toArray, List.getElem_cons_succ, List.getElem_cons_zero, List.setIfInBounds_toArray, List.set_cons_zero, List.set_cons_succ]
            refine wpAnyH_ready (rs := [2]) (by kernel_rfl) (by simp) ?_
            refine AllReadyH.cons rfl (fun K hK => ?_) AllReadyH.nil
            simp only [List.getElem_toArray, List.getElem_cons_succ, List.getElem_cons_zero]
            go_simp
            (first | (go_at_call 18; (first | with_reducible refine (HYA.out _).mono ?_ | with_reducible refine (HYT.out _).mono ?_); rintro e w' ⟨rfl, hbk⟩))
            go_wp2_with fail
            refine hK.out _ _ ?_ (fun hHeld => ?_)
            · (try dsimp only); (first | (exact ⟨(World.rangeAt_drew _ _ _ _).2 rA, (World.rangeAt_drew _ _ _ _).2 rT, (Below.refl _ _).drew⟩) | (obtain ⟨s1, s2, s3⟩ := ‹World.rangeAt _ _ _ _ ∧ World.rangeAt _ _ _ _ ∧ Below wr.heap.size wr _›; exact ⟨range_below s1 hbk (Nat.lt_of_lt_of_le ltA s3.size), range_below s2 hbk (Nat.lt_of_lt_of_le ltT s3.size), s3.trans (hbk.mono s3.size)⟩))
            clear hK K
            try simp only [Act.put, List.getElem_toArray, List.getElem_cons_succ, List.getElem_cons_zero, List.setIfInBounds_toArray, List.set_cons_zero, List.set_cons_succ]
            refine wpAnyH_ready (rs := [5]) (by kernel_rfl) (by simp) ?_
            refine AllReadyH.cons rfl (fun K hK => ?_) AllReadyH.nil
            simp only [List.getElem_toArray, List.getElem_cons_succ, List.getElem_cons_zero]
            go_simp
            (first | (go_at_call 18; (first | with_reducible refine (HYA.out _).mono ?_ | with_reducible refine (HYT.out _).mono ?_); rintro e w' ⟨rfl, hbk⟩))
            go_wp2_with fail
            refine hK.out _ _ ?_ (fun hHeld => ?_)
            · (try dsimp only); (first | (exact ⟨(World.rangeAt_drew _ _ _ _).2 rA, (World.rangeAt_drew _ _ _ _).2 rT, (Below.refl _ _).drew⟩) | (obtain ⟨s1, s2, s3⟩ := ‹World.rangeAt _ _ _ _ ∧ World.rangeAt _ _ _ _ ∧ Below wr.heap.size wr _›; exact ⟨range_below s1 hbk (Nat.lt_of_lt_of_le ltA s3.size), range_below s2 hbk (Nat.lt_of_lt_of_le ltT s3.size), s3.trans (hbk.mono s3.size)⟩))
            clear hK K
            try simp only [Act.put, List.getElem_toArray, List.getElem_cons_succ, List.getElem_cons_zero, List.setIfInBounds_toArray, List.set_cons_zero, List.set_cons_succ]
            refine wpAnyH_take (i := 6) (v := ?_) rfl (by kernel_rfl) (by kernel_rfl) (by kernel_rfl) (fun _ _ _ h => h) (Or.inl ⟨by rfl, ?_⟩) (by assumption) ?_
            rotate_left
            · intro w hSw; (try dsimp only at hSw); go_simp <;> with_reducible rfl
            try simp only [Act.put, List.getElem_toArray, List.getElem_cons_succ, List.getElem_cons_zero, List.setIfInBounds_toArray, List.set_cons_zero, List.set_cons_succ]
            refine wpAnyH_take (i := 11) (v := ?_) rfl (by kernel_rfl) (by kernel_rfl) (by kernel_rfl) (fun _ _ _ h => h) (Or.inl ⟨by rfl, ?_⟩) (by assumption) ?_
            rotate_left
            · intro w hSw; (try dsimp only at hSw); go_simp <;> with_reducible rfl
            try simp only [Act.put, List.getElem_toArray, List.getElem_cons_succ, List.getElem_cons_zero, List.setIfInBounds_toArray, List.set_cons_zero, List.set_cons_succ]
            refine wpAnyH_done (by kernel_rfl) ?_ _
            refine NoPanic.normal ?_
            go_split_ands
            have hbR := ‹Below wr.heap.size wr _›
            go_wp2
            go_roundw
            case rel => exact ⟨q + 1, by omega, by go_num, hbq.trans (hbR.mono hbq.size)⟩
            case measure => simp [intOf]; omega
        · obtain rfl : q = 256 := by omega
          have rB := hBq.range
          have ltB := hBq.lt
          have hBall := (((((hW2.trans (hbw.mono hW2.size)).trans (hbD.mono (hW2.trans (hbw.mono hW2.size)).size)).trans (hb4.mono ((hW2.trans (hbw.mono hW2.size)).trans (hbD.mono (hW2.trans (hbw.mono hW2.size)).size)).size)).trans (hb5.mono (((hW2.trans (hbw.mono hW2.size)).trans (hbD.mono (hW2.trans (hbw.mono hW2.size)).size)).trans (hb4.mono ((hW2.trans (hbw.mono hW2.size)).trans (hbD.mono (hW2.trans (hbw.mono hW2.size)).size)).size)).size)))
          have hBall := hBall.trans (hbq.mono hBall.size)
          have hc1 : c = 0 := by rw [HC.out]; exact order_same HLa.out HLb.out halike.out
          subst hc1
          go_wp2
          refine wp_region_noPanic ?_
          refine wp_region_held_drew (S := (fun W => W.rangeAt w.heap.size 0 (a.map bv) ∧ W.rangeAt (w.heap.size + 1) 0 (b.map bv) ∧ W.rangeAt w4.heap.size 0 (t.map bv) ∧ Below wr.heap.size wr W)) (by kernel_rfl) (by (try dsimp only); (first | (exact ⟨(World.rangeAt_drew _ _ _ _).2 rA, (World.rangeAt_drew _ _ _ _).2 rB, (World.rangeAt_drew _ _ _ _).2 rT, (Below.refl _ _).drew⟩) | (obtain ⟨s1, s2, s3, s4⟩ := ‹World.rangeAt _ _ _ _ ∧ World.rangeAt _ _ _ _ ∧ World.rangeAt _ _ _ _ ∧ Below wr.heap.size wr _›; exact ⟨range_below s1 hbk (Nat.lt_of_lt_of_le ltA s4.size), range_below s2 hbk (Nat.lt_of_lt_of_le ltB s4.size), range_below s3 hbk (Nat.lt_of_lt_of_le ltT s4.size), s4.trans (hbk.mono s4.size)⟩))) (fun hHeld => ?_)
          refine wpAnyH_take (i := 0) (v := ?_) rfl (by kernel_rfl) (by kernel_rfl) (by kernel_rfl) (fun _ _ _ h => h) (Or.inl ⟨by rfl, ?_⟩) (by assumption) ?_
          rotate_left
          · intro w hSw; (try dsimp only at hSw); go_simp <;> with_reducible rfl
          try simp only [Act.put, List.getElem_toArray, List.getElem_cons_succ, List.getElem_cons_zero, List.setIfInBounds_toArray, List.set_cons_zero, List.set_cons_succ]
          refine wpAnyH_take (i := 1) (v := ?_) rfl (by kernel_rfl) (by kernel_rfl) (by kernel_rfl) (fun _ _ _ h => h) (Or.inl ⟨by rfl, ?_⟩) (by assumption) ?_
          rotate_left
          · intro w hSw; (try dsimp only at hSw); go_simp <;> with_reducible rfl
          try simp only [Act.put, List.getElem_toArray, List.getElem_cons_succ, List.getElem_cons_zero, List.setIfInBounds_toArray, List.set_cons_zero, List.set_cons_succ]
          refine wpAnyH_take (i := 2) (v := ?_) rfl (by kernel_rfl) (by kernel_rfl) (by kernel_rfl) (fun _ _ _ h => h) (Or.inl ⟨by rfl, ?_⟩) (by assumption) ?_
          rotate_left
          · intro w hSw; (try dsimp only at hSw); go_simp <;> with_reducible rfl
          try simp only [Act.put, List.getElem_toArray, List.getElem_cons_succ, List.getElem_cons_zero, List.setIfInBounds_toArray, List.set_cons_zero, List.set_cons_succ]
          refine wpAnyH_take (i := 3) (v := ?_) rfl (by kernel_rfl) (by kernel_rfl) (by kernel_rfl) (fun _ _ _ h => h) (Or.inl ⟨by rfl, ?_⟩) (by assumption) ?_
          rotate_left
          · intro w hSw; (try dsimp only at hSw); go_simp <;> with_reducible rfl
          try simp only [Act.put, List.getElem_toArray, List.getElem_cons_succ, List.getElem_cons_zero, List.setIfInBounds_toArray, List.set_cons_zero, List.set_cons_succ]
          refine wpAnyH_take (i := 4) (v := ?_) rfl (by kernel_rfl) (by kernel_rfl) (by kernel_rfl) (fun _ _ _ h => h) (Or.inl ⟨by rfl, ?_⟩) (by assumption) ?_
          rotate_left
          · intro w hSw; (try dsimp only at hSw); go_simp <;> with_reducible rfl
          try simp only [Act.put, List.getElem_toArray, List.getElem_cons_succ, List.getElem_cons_zero, List.setIfInBounds_toArray, List.set_cons_zero, List.set_cons_succ]
          refine wpAnyH_take (i := 5) (v := ?_) rfl (by kernel_rfl) (by kernel_rfl) (by kernel_rfl) (fun _ _ _ h => h) (Or.inl ⟨by rfl, ?_⟩) (by assumption) ?_
          rotate_left
          · intro w hSw; (try dsimp only at hSw); go_simp <;> with_reducible rfl
          try simp only [Act.put, List.getElem_toArray, List.getElem_cons_succ, List.getElem_cons_zero, List.setIfInBounds_toArray, List.set_cons_zero, List.set_cons_succ]
          refine wpAnyH_take (i := 6) (v := ?_) rfl (by kernel_rfl) (by kernel_rfl) (by kernel_rfl) (fun _ _ _ h => h) (Or.inl ⟨by rfl, ?_⟩) (by assumption) ?_
          rotate_left
          · intro w hSw; (try dsimp only at hSw); go_simp <;> with_reducible rfl
          try simp only [Act.put, List.getElem_toArray, List.getElem_cons_succ, List.getElem_cons_zero, List.setIfInBounds_toArray, List.set_cons_zero, List.set_cons_succ]
          refine wpAnyH_take (i := 7) (v := ?_) rfl (by kernel_rfl) (by kernel_rfl) (by kernel_rfl) (fun _ _ _ h => h) (Or.inl ⟨by rfl, ?_⟩) (by assumption) ?_
          rotate_left
          · intro w hSw; (try dsimp only at hSw); go_simp <;> with_reducible rfl
          try simp only [Act.put, List.getElem_toArray, List.getElem_cons_succ, List.getElem_cons_zero, List.setIfInBounds_toArray, List.set_cons_zero, List.set_cons_succ]
          refine wpAnyH_take (i := 8) (v := ?_) rfl (by kernel_rfl) (by kernel_rfl) (by kernel_rfl) (fun _ _ _ h => h) (Or.inl ⟨by rfl, ?_⟩) (by assumption) ?_
          rotate_left
          · intro w hSw; (try dsimp only at hSw); go_simp <;> with_reducible rfl
          try simp only [Act.put, List.getElem_toArray, List.getElem_cons_succ, List.getElem_cons_zero, List.setIfInBounds_toArray, List.set_cons_zero, List.set_cons_succ]
          refine wpAnyH_take (i := 9) (v := ?_) rfl (by kernel_rfl) (by kernel_rfl) (by kernel_rfl) (fun _ _ _ h => h) (Or.inl ⟨by rfl, ?_⟩) (by assumption) ?_
          rotate_left
          · intro w hSw; (try dsimp only at hSw); go_simp <;> with_reducible rfl
          try simp only [Act.put, List.getElem_toArray, List.getElem_cons_succ, List.getElem_cons_zero, List.setIfInBounds_toArray, List.set_cons_zero, List.set_cons_succ]
          refine wpAnyH_take (i := 10) (v := ?_) rfl (by kernel_rfl) (by kernel_rfl) (by kernel_rfl) (fun _ _ _ h => h) (Or.inl ⟨by rfl, ?_⟩) (by assumption) ?_
          rotate_left
          · intro w hSw; (try dsimp only at hSw); go_simp <;> with_reducible rfl
          try simp only [Act.put, List.getElem_toArray, List.getElem_cons_succ, List.getElem_cons_zero, List.setIfInBounds_toArray, List.set_cons_zero, List.set_cons_succ]
          refine wpAnyH_take (i := 11) (v := ?_) rfl (by kernel_rfl) (by kernel_rfl) (by kernel_rfl) (fun _ _ _ h => h) (Or.inl ⟨by rfl, ?_⟩) (by assumption) ?_
          rotate_left
          · intro w hSw; (try dsimp only at hSw); go_simp <;> with_reducible rfl
          try simp only [Act.put, List.getElem_toArray, List.getElem_cons_succ, List.getElem_cons_zero, List.setIfInBounds_toArray, List.set_cons_zero, List.set_cons_succ]
          refine wpAnyH_take (i := 12) (v := undef) rfl (by kernel_rfl) (by kernel_rfl) (by kernel_rfl) (fun _ _ _ h => h) (Or.inr ⟨by rfl, rfl⟩) (by assumption) ?_
          try simp only [Act.put, List.getElem_toArray, List.getElem_cons_succ, List.getElem_cons_zero, List.setIfInBounds_toArray, List.set_cons_zero, List.set_cons_succ]
          refine wpAnyH_take (i := 13) (v := undef) rfl (by kernel_rfl) (by kernel_rfl) (by kernel_rfl) (fun _ _ _ h => h) (Or.inr ⟨by rfl, rfl⟩) (by assumption) ?_
          try simp only [Act.put, List.getElem_toArray, List.getElem_cons_succ, List.getElem_cons_zero, List.setIfInBounds_toArray, List.set_cons_zero, List.set_cons_succ]
          refine wpAnyH_take (i := 14) (v := undef) rfl (by kernel_rfl) (by kernel_rfl) (by kernel_rfl) (fun _ _ _ h => h) (Or.inr ⟨by rfl, rfl⟩) (by assumption) ?_
          try simp only [Act.put, List.getElem_toArray, List.getElem_cons_succ, List.getElem_cons_zero, List.setIfInBounds_toArray, List.set_cons_zero, List.set_cons_succ]
          refine wpAnyH_take (i := 15) (v := undef) rfl (by kernel_rfl) (by kernel_rfl) (by kernel_rfl) (fun _ _ _ h => h) (Or.inr ⟨by rfl, rfl⟩) (by assumption) ?_
          try simp only [Act.put, List.getElem_toArray, List.getElem_cons_succ, List.getElem_cons_zero, List.setIfInBounds_toArray, List.set_cons_zero, List.set_cons_succ]
          refine wpAnyH_take (i := 16) (v := undef) rfl (by kernel_rfl) (by kernel_rfl) (by kernel_rfl) (fun _ _ _ h => h) (Or.inr ⟨by rfl, rfl⟩) (by assumption) ?_
          try simp only [Act.put, List.getElem_toArray, List.getElem_cons_succ, List.getElem_cons_zero, List.setIfInBounds_toArray, List.set_cons_zero, List.set_cons_succ]
          refine wpAnyH_take (i := 17) (v := undef) rfl (by kernel_rfl) (by kernel_rfl) (by kernel_rfl) (fun _ _ _ h => h) (Or.inr ⟨by rfl, rfl⟩) (by assumption) ?_
          try simp only [Act.put, List.getElem_toArray, List.getElem_cons_succ, List.getElem_cons_zero, List.setIfInBounds_toArray, List.set_cons_zero, List.set_cons_succ]
          refine wpAnyH_take (i := 18) (v := undef) rfl (by kernel_rfl) (by kernel_rfl) (by kernel_rfl) (fun _ _ _ h => h) (Or.inr ⟨by rfl, rfl⟩) (by assumption) ?_
          try simp only [Act.put, List.getElem_toArray, List.getElem_cons_succ, List.getElem_cons_zero, List.setIfInBounds_toArray, List.set_cons_zero, List.set_cons_succ]
          refine wpAnyH_take (i := 19) (v := ?_) rfl (by kernel_rfl) (by kernel_rfl) (by kernel_rfl) (fun _ _ _ h => h) (Or.inl ⟨by rfl, ?_⟩) (by assumption) ?_
          rotate_left
          · intro w hSw; (try dsimp only at hSw); go_simp <;> with_reducible rfl
          try simp only [Act.put, List.getElem_toArray, List.getElem_cons_succ, List.getElem_cons_zero, List.setIfInBounds_toArray, List.set_cons_zero, List.set_cons_succ]
          refine wpAnyH_take (i := 20) (v := ?_) rfl (by kernel_rfl) (by kernel_rfl) (by kernel_rfl) (fun _ _ _ h => h) (Or.inl ⟨by rfl, ?_⟩) (by assumption) ?_
          rotate_left
          · intro w hSw; (try dsimp only at hSw); go_simp <;> with_reducible rfl
          try simp only [Act.put, List.getElem_toArray, List.getElem_cons_succ, List.getElem_cons_zero, List.setIfInBounds_toArray, List.set_cons_zero, List.set_cons_succ]
          refine wpAnyH_take (i := 21) (v := ?_) rfl (by kernel_rfl) (by kernel_rfl) (by kernel_rfl) (fun _ _ _ h => h) (Or.inl ⟨by rfl, ?_⟩) (by assumption) ?_
          rotate_left
          · intro w hSw; (try dsimp only at hSw); go_simp <;> with_reducible rfl
          try simp only [Act.put, List.getElem_toArray, List.getElem_cons_succ, List.getElem_cons_zero, List.setIfInBounds_toArray, List.set_cons_zero, List.set_cons_succ]
          refine' wpAnyH_take (i := 22) (v := _) rfl (by kernel_rfl) (by kernel_rfl) (by kernel_rfl) (fun _ _ _ h => h) (yieldsIf_load_mid (by rfl) _ _ rfl _ _ rfl _ _ ?hS22_9 ?hu22_9 ?hd22_9 ?hi22_9) (by assumption) ?rest22_9
          case hS22_9 => intro w hSw; (try dsimp only at hSw); go_split_ands; assumption
          case hu22_9 => assumption
          case hd22_9 => rfl
          case hi22_9 => first | assumption | (simp only [*]; done)
          try simp only [Act.put, List.getElem_toArray, List.getElem_cons_succ, List.getElem_cons_zero, List.setIfInBounds_toArray, List.set_cons_zero, List.set_cons_succ]
          refine wpAnyH_take (i := 23) (v := ?_) rfl (by kernel_rfl) (by kernel_rfl) (by kernel_rfl) (fun _ _ _ h => h) (Or.inl ⟨by rfl, ?_⟩) (by assumption) ?_
          rotate_left
          · intro w hSw; (try dsimp only at hSw); go_simp <;> with_reducible rfl
          try simp only [Act.put, List.getElem_toArray, List.getElem_cons_succ, List.getElem_cons_zero, List.setIfInBounds_toArray, List.set_cons_zero, List.set_cons_succ]
          refine wpAnyH_take (i := 24) (v := ?_) rfl (by kernel_rfl) (by kernel_rfl) (by kernel_rfl) (fun _ _ _ h => h) (Or.inl ⟨by rfl, ?_⟩) (by assumption) ?_
          rotate_left
          · intro w hSw; (try dsimp only at hSw); go_simp <;> with_reducible rfl
          try simp only [Act.put, List.getElem_toArray, List.getElem_cons_succ, List.getElem_cons_zero, List.setIfInBounds_toArray, List.set_cons_zero, List.set_cons_succ]
          refine' wpAnyH_take (i := 26) (v := _) rfl (by kernel_rfl) (by kernel_rfl) (by kernel_rfl) (fun _ _ _ h => h) (yieldsIf_load_mid (by rfl) _ _ rfl _ _ rfl _ _ ?hS26_9 ?hu26_9 ?hd26_9 ?hi26_9) (by assumption) ?rest26_9
          case hS26_9 => intro w hSw; (try dsimp only at hSw); go_split_ands; assumption
          case hu26_9 => assumption
          case hd26_9 => rfl
          case hi26_9 => first | assumption | (simp only [*]; done)
          try simp only [Act.put, List.getElem_toArray, List.getElem_cons_succ, List.getElem_cons_zero, List.setIfInBounds_toArray, List.set_cons_zero, List.set_cons_succ]
          refine wpAnyH_ready (rs := [25]) (by kernel_rfl) (by simp) ?_
          refine AllReadyH.cons rfl (fun K hK => ?_) AllReadyH.nil
          simp only [List.getElem_toArray, List.getElem_cons_succ, List.getElem_cons_zero]
          go_simp
          (first | (go_at_call 20; refine (HTT.out _).mono ?_; rintro e w' ⟨rfl, hbk⟩) | (go_at_call 22; refine (HBA.out _).mono ?_; rintro e w' ⟨rfl, hbk⟩))
          go_wp2_with fail
          refine hK.out _ _ ?_ (fun hHeld => ?_)
          · (try dsimp only); (first | (exact ⟨(World.rangeAt_drew _ _ _ _).2 rA, (World.rangeAt_drew _ _ _ _).2 rB, (World.rangeAt_drew _ _ _ _).2 rT, (Below.refl _ _).drew⟩) | (obtain ⟨s1, s2, s3, s4⟩ := ‹World.rangeAt _ _ _ _ ∧ World.rangeAt _ _ _ _ ∧ World.rangeAt _ _ _ _ ∧ Below wr.heap.size wr _›; exact ⟨range_below s1 hbk (Nat.lt_of_lt_of_le ltA s4.size), range_below s2 hbk (Nat.lt_of_lt_of_le ltB s4.size), range_below s3 hbk (Nat.lt_of_lt_of_le ltT s4.size), s4.trans (hbk.mono s4.size)⟩))
          clear hK K
          try simp only [Act.put, List.getElem_toArray, List.getElem_cons_succ, List.getElem_cons_zero, List.setIfInBounds_toArray, List.set_cons_zero, List.set_cons_succ]
          refine wpAnyH_take (i := 27) (v := ?_) rfl (by kernel_rfl) (by kernel_rfl) (by kernel_rfl) (fun _ _ _ h => h) (Or.inl ⟨by rfl, ?_⟩) (by assumption) ?_
          rotate_left
          · intro w hSw; (try dsimp only at hSw); go_simp <;> with_reducible rfl
          try simp only [Act.put, List.getElem_toArray, List.getElem_cons_succ, List.getElem_cons_zero, List.setIfInBounds_toArray, List.set_cons_zero, List.set_cons_succ]
          refine wpAnyH_take (i := 28) (v := ?_) rfl (by kernel_rfl) (by kernel_rfl) (by kernel_rfl) (fun _ _ _ h => h) (Or.inl ⟨by rfl, ?_⟩) (by assumption) ?_
          rotate_left
          · intro w hSw; (try dsimp only at hSw); go_simp <;> with_reducible rfl
          try simp only [Act.put, List.getElem_toArray, List.getElem_cons_succ, List.getElem_cons_zero, List.setIfInBounds_toArray, List.set_cons_zero, List.set_cons_succ]
          refine wpAnyH_take (i := 29) (v := ?_) rfl (by kernel_rfl) (by kernel_rfl) (by kernel_rfl) (fun _ _ _ h => h) (Or.inl ⟨by rfl, ?_⟩) (by assumption) ?_
          rotate_left
          · intro w hSw; (try dsimp only at hSw); go_simp <;> with_reducible rfl
          try simp only [Act.put, List.getElem_toArray, List.getElem_cons_succ, List.getElem_cons_zero, List.setIfInBounds_toArray, List.set_cons_zero, List.set_cons_succ]
          refine' wpAnyH_take (i := 30) (v := _) rfl (by kernel_rfl) (by kernel_rfl) (by kernel_rfl) (fun _ _ _ h => h) (yieldsIf_load_mid (by rfl) _ _ rfl _ _ rfl _ _ ?hS30_9 ?hu30_9 ?hd30_9 ?hi30_9) (by assumption) ?rest30_9
          case hS30_9 => intro w hSw; (try dsimp only at hSw); go_split_ands; assumption
          case hu30_9 => assumption
          case hd30_9 => rfl
          case hi30_9 => first | assumption | (simp only [*]; done)
          try simp only [Act.put, List.getElem_toArray, List.getElem_cons_succ, List.getElem_cons_zero, List.setIfInBounds_toArray, List.set_cons_zero, List.set_cons_succ]
          refine' wpAnyH_take (i := 31) (v := _) rfl (by kernel_rfl) (by kernel_rfl) (by kernel_rfl) (fun _ _ _ h => h) (yieldsIf_load_mid (by rfl) _ _ rfl _ _ rfl _ _ ?hS31_9 ?hu31_9 ?hd31_9 ?hi31_9) (by assumption) ?rest31_9
          case hS31_9 => intro w hSw; (try dsimp only at hSw); go_split_ands; assumption
          case hu31_9 => assumption
          case hd31_9 => rfl
          case hi31_9 => first | assumption | (simp only [*]; done)
          try simp only [Act.put, List.getElem_toArray, List.getElem_cons_succ, List.getElem_cons_zero, List.setIfInBounds_toArray, List.set_cons_zero, List.set_cons_succ]
          refine wpAnyH_take (i := 33) (v := ?_) rfl (by kernel_rfl) (by kernel_rfl) (by kernel_rfl) (fun _ _ _ h => h) (Or.inl ⟨by rfl, ?_⟩) (by assumption) ?_
          rotate_left
          · intro w hSw; (try dsimp only at hSw); go_simp <;> with_reducible rfl
          try simp only [Act.put, List.getElem_toArray, List.getElem_cons_succ, List.getElem_cons_zero, List.setIfInBounds_toArray, List.set_cons_zero, List.set_cons_succ]
          refine wpAnyH_take (i := 34) (v := ?_) rfl (by kernel_rfl) (by kernel_rfl) (by kernel_rfl) (fun _ _ _ h => h) (Or.inl ⟨by rfl, ?_⟩) (by assumption) ?_
          rotate_left
          · intro w hSw; (try dsimp only at hSw); go_simp <;> with_reducible rfl
          try simp only [Act.put, List.getElem_toArray, List.getElem_cons_succ, List.getElem_cons_zero, List.setIfInBounds_toArray, List.set_cons_zero, List.set_cons_succ]
          refine wpAnyH_ready (rs := [32]) (by kernel_rfl) (by simp) ?_
          refine AllReadyH.cons rfl (fun K hK => ?_) AllReadyH.nil
          simp only [List.getElem_toArray, List.getElem_cons_succ, List.getElem_cons_zero]
          go_simp
          (first | (go_at_call 20; refine (HTT.out _).mono ?_; rintro e w' ⟨rfl, hbk⟩) | (go_at_call 22; refine (HBA.out _).mono ?_; rintro e w' ⟨rfl, hbk⟩))
          go_wp2_with fail
          refine hK.out _ _ ?_ (fun hHeld => ?_)
          · (try dsimp only); (first | (exact ⟨(World.rangeAt_drew _ _ _ _).2 rA, (World.rangeAt_drew _ _ _ _).2 rB, (World.rangeAt_drew _ _ _ _).2 rT, (Below.refl _ _).drew⟩) | (obtain ⟨s1, s2, s3, s4⟩ := ‹World.rangeAt _ _ _ _ ∧ World.rangeAt _ _ _ _ ∧ World.rangeAt _ _ _ _ ∧ Below wr.heap.size wr _›; exact ⟨range_below s1 hbk (Nat.lt_of_lt_of_le ltA s4.size), range_below s2 hbk (Nat.lt_of_lt_of_le ltB s4.size), range_below s3 hbk (Nat.lt_of_lt_of_le ltT s4.size), s4.trans (hbk.mono s4.size)⟩))
          clear hK K
          try simp only [Act.put, List.getElem_toArray, List.getElem_cons_succ, List.getElem_cons_zero, List.setIfInBounds_toArray, List.set_cons_zero, List.set_cons_succ]
          refine wpAnyH_take (i := 35) (v := ?_) rfl (by kernel_rfl) (by kernel_rfl) (by kernel_rfl) (fun _ _ _ h => h) (Or.inl ⟨by rfl, ?_⟩) (by assumption) ?_
          rotate_left
          · intro w hSw; (try dsimp only at hSw); go_simp <;> with_reducible rfl
          try simp only [Act.put, List.getElem_toArray, List.getElem_cons_succ, List.getElem_cons_zero, List.setIfInBounds_toArray, List.set_cons_zero, List.set_cons_succ]
          refine wpAnyH_take (i := 36) (v := ?_) rfl (by kernel_rfl) (by kernel_rfl) (by kernel_rfl) (fun _ _ _ h => h) (Or.inl ⟨by rfl, ?_⟩) (by assumption) ?_
          rotate_left
          · intro w hSw; (try dsimp only at hSw); go_simp <;> with_reducible rfl
          try simp only [Act.put, List.getElem_toArray, List.getElem_cons_succ, List.getElem_cons_zero, List.setIfInBounds_toArray, List.set_cons_zero, List.set_cons_succ]
          refine wpAnyH_take (i := 37) (v := ?_) rfl (by kernel_rfl) (by kernel_rfl) (by kernel_rfl) (fun _ _ _ h => h) (Or.inl ⟨by rfl, ?_⟩) (by assumption) ?_
          rotate_left
          · intro w hSw; (try dsimp only at hSw); go_simp <;> with_reducible rfl
          try simp only [Act.put, List.getElem_toArray, List.getElem_cons_succ, List.getElem_cons_zero, List.setIfInBounds_toArray, List.set_cons_zero, List.set_cons_succ]
          refine wpAnyH_done (by kernel_rfl) ?_ _
          refine NoPanic.normal ?_
          go_split_ands
          have hbR := ‹Below wr.heap.size wr _›
          go_wp2
          go_ret
          exact ⟨rfl, hBall.trans (hbR.mono hBall.size)⟩
end Go.Proofs.Ytbkmbbhgpogeiaa
