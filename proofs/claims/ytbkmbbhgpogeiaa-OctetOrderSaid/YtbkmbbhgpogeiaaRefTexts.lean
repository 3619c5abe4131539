/-
  The document's Texts.
-/
import Derived.Test.YtbkmbbhgpogeiaaParse
import Derived.Test.YtbkmbbhgpogeiaaRows3
import Derived.Test.YtbkmbbhgpogeiaaRefTake
import Derived.Outline
namespace Go.Proofs.Ytbkmbbhgpogeiaa
open Go.RowKit

theorem Try.infoSl : (Try.prog.info? 22).map (fun i => (i.zero, i.size, i.bytes)) = some (some (.slice none 0 0), 1, 24) := by kernel_rfl

theorem RTake_two (A : Option Addr) (n c B : Nat) (l : List UInt8) (q : Nat) (t2 : List UInt8) (w : World) (hq : Hid (beNum (l.take 2) = q)) (ht : Hid (l.drop 2 = t2)) (h : Sees w B A n c (l.map bv)) (hB : B ≤ w.heap.size) (hm : n ≤ 2147483647) (hn : 2 ≤ n) :
    Calls Try.prog 12 #[.slice A n c, .int .i64 2] w (GaveTake w q (n - 2) t2) := by
  have h1 := RTake_ok A n c B l 2 w h hB hm (by omega) (by omega) (by omega)
  have e : (2 : Int).toNat = 2 := rfl
  rw [e, hq.out, ht.out] at h1
  exact h1

/-- What Texts answers: the texts, or the error. -/
def GaveTexts (w : World) (r : Option (List (List UInt8))) (e : Ending) (w' : World) : Prop :=
  (r = none ∧ e = .returned (.tuple #[.slice none 0 0, .int .i64 10]) ∧ Below w.heap.size w w') ∨
  (∃ ls A n c, r = some ls ∧ e = .returned (.tuple #[.slice A n c, .int .i64 0]) ∧ SeesL w' w'.heap.size A n c ls ∧ Below w.heap.size w w')

set_option maxHeartbeats 1000000 in
theorem RTexts_any (A : Option Addr) (n c B : Nat) (b : List UInt8) (w : World) (h : Sees w B A n c (b.map bv)) (hB : B ≤ w.heap.size) (hn : n ≤ 2000000000) :
    Calls Try.prog 16 #[.slice A n c] w (GaveTexts w (textsOf b)) := by
  obtain ⟨i0, hi0, hz0, hz1, hz2⟩ := info_parts Try.infoU8
  have Hz2 := Lib.hid hz2
  clear hz2
  obtain ⟨i1, hi1, hy0, hy1, hy2⟩ := info_parts Try.infoSl
  have Hy2 := Lib.hid hy2
  clear hy2
  go_enter Try.func16, Try.ntmps16
  go_wp2
  go_loopw [0, 4] (fun vb vo wr => ∃ (A1 : Option Addr) (n1 c1 : Nat) (r : List UInt8) (A2 : Option Addr) (n2 c2 : Nat) (ls : List (List UInt8)), vb = .slice A1 n1 c1 ∧ vo = .slice A2 n2 c2 ∧ SeesT 5 w.heap.size wr A1 n1 c1 (r.map bv) ∧
      OwnsL 22 5 wr w.heap.size A2 n2 c2 ls ∧ Hid (textsOf b = (textsOf r).map (ls ++ ·)) ∧ n1 + n2 ≤ n ∧ Below w.heap.size w wr)
    (fun vb _ _ => match vb with | .slice _ m _ => m | _ => 0)
  case atStart =>
    exact ⟨A, n, c, b, none, 0, 0, [], rfl, rfl, SeesT.of_arg h hB (Nat.le_refl _), OwnsL.nil _ _, (by show _ = _; cases textsOf b <;> simp), by omega, Below.refl _ _⟩
  case round =>
    obtain ⟨A1, n1, c1, r, A2, n2, c2, ls, rfl, rfl, hsT, ho, ht, hnn, hbw⟩ := hrel
    have hs := hsT.1
    have hl := hs.len
    rw [List.length_map] at hl
    have HL := Lib.hid hl
    clear hl
    rcases Nat.eq_zero_or_pos n1 with h0 | h0
    · subst h0
      go_wp2
      go_ret2
      have er : r = [] := List.eq_nil_of_length_eq_zero HL.out
      subst er
      refine .inr ⟨ls, A2, n2, c2, ?_, rfl, ho.sees, hbw⟩
      rw [ht.out, textsOf_nil]; simp
    · have hpos : (0 : Int) < n1 := by omega
      by_cases h2 : n1 < 2
      · go_wp2_with (first
          | (go_at_call 12; refine (RTake_short _ _ _ _ _ (by omega) (by omega) (by omega)).mono ?_; rintro e w1 ⟨rfl, rfl⟩))
        go_ret2
        refine .inl ⟨?_, rfl, hbw⟩
        rw [ht.out, textsOf_none (by rw [HL.out]; exact h0) (cutText_short (by rw [HL.out]; exact h2))]; rfl
      · have hq := beNum_two r
        obtain ⟨q, hqq⟩ : ∃ q, beNum (r.take 2) = q := ⟨_, rfl⟩
        obtain ⟨t2, ht2⟩ : ∃ t2, r.drop 2 = t2 := ⟨_, rfl⟩
        rw [hqq] at hq
        have HQ := Lib.hid hqq
        have HT2 := Lib.hid ht2
        clear hqq ht2
        have hnle : n1 - 2 ≤ n1 := by omega
        by_cases h3 : n1 < 2 + q
        · have h4 : n1 - 2 < q := by omega
          go_wp2_with (first
            | (go_at_call 12; refine (RTake_two _ _ _ _ r q t2 _ HQ HT2 hs (Nat.le_refl _) (by omega) (by omega)).mono ?_; rintro e w1 ⟨A3, c3, rfl, hs3, hb3⟩))
          go_ret2
          refine .inl ⟨?_, rfl, hbw.trans (hb3.mono hbw.size)⟩
          rw [ht.out, textsOf_none (by rw [HL.out]; exact h0) (cutText_cut (by rw [HL.out]; omega) (by rw [HL.out, HQ.out]; exact h3))]; rfl
        · have h4 : ¬ n1 - 2 < q := by omega
          have htl : Hid ((t2.take q).length = q) := by
            have : t2.length = n1 - 2 := by rw [← HT2.out, List.length_drop, HL.out]
            exact (show _ = _ by rw [List.length_take, this]; omega)
          have hcut : Hid (textsOf r = (textsOf (t2.drop q)).map (t2.take q :: ·)) := by
            have := cutText_whole (b := r) (by rw [HL.out]; omega) (by rw [HL.out, HQ.out]; omega)
            rw [HQ.out] at this
            have e := textsOf_some this
            rw [HT2.out, ← List.drop_drop, HT2.out] at e
            exact e
          go_wp2_with (first
            | (go_at_call 12; refine (RTake_two _ _ _ _ r q t2 _ HQ HT2 hs (Nat.le_refl _) (by omega) (by omega)).mono ?_; rintro e w1 ⟨A3, c3, rfl, hown3, hb3⟩; have hs3 := Sees.of_own hown3; have hle3 := hs3.le)
            | (at_builtin; refine wpList_append_sees _ rfl (.tmp 27) (.tmp 30) _ rfl w1.heap.size 5 i0 _ 1 Try.underlying22 hi0 hz0 hz1 Hz2.out rfl (.slice (some ⟨w1.heap.size, 0, none⟩) 0 0) 0 [] rfl (World.ownsRow_lit w1 #[] 0 (Nat.le_refl _) (by simp [maxLen]) rfl) w1.heap.size A3 q c3 ((t2.take q).map bv) rfl (by rw [List.map_take]; exact (hs3.take (by omega)).alloc (Nat.le_refl _) _) (bv_one _) (by simp only [maxLen]; omega) (by omega) (by simp) w1.heap.size w1 ((Below.refl _ _).alloc (Nat.le_refl _) _) (Nat.le_refl _) ?_; intro A5 c5 w5 hown5 hb5)
            | (at_builtin; refine wpList_append_ownL _ rfl (.tmp 26) (.tmp 32) _ rfl w.heap.size 22 5 i1 _ 24 Try.underlying31 hi1 hy0 hy1 Hy2.out rfl (by decide) A2 n2 c2 ls rfl (((ho.below hb3 (Nat.le_refl _)).below hb5 (Nat.le_refl _)).alloc _) A5 q c5 (t2.take q) htl.out (by have := ownsRow_weaken (base' := w.heap.size) hown5 (Nat.le_trans hbw.size hb3.size); simpa using this.alloc _) w5.heap.size 1 rfl (by rw [cell_of_row _ _ 0 _ _ _ (heap_alloc_new w5 _)]; simp) (by simp only [maxLen]; omega) (by omega) (by have := hbw.size; have := hb3.size; have := hb5.size; simp; omega) w.heap.size w (((hbw.trans (hb3.mono hbw.size)).trans (hb5.mono (Nat.le_trans hbw.size hb3.size))).alloc (by have := hbw.size; have := hb3.size; have := hb5.size; omega) _) (Nat.le_refl _) ?_; intro A6 c6 w6 hown6 hb6 hg6))
          have hfin : SeesT 5 w.heap.size w6 (if c3 = q then A3 else A3.map (·.add q)) (n1 - 2 - q) (c3 - q) ((t2.drop q).map bv) := by
            have h1 := (SeesT.of_own (base := w.heap.size) hown3).drop (k := q) (by omega)
            rw [← List.map_drop] at h1
            refine ((h1.below hb5 (Nat.le_refl _)).below ((Below.refl _ w5).alloc (Nat.le_refl _) _) (Nat.le_refl _)).kept hg6 (ts := 22) (by decide) ?_
            exact (((ho.below hb3 (Nat.le_refl _)).below hb5 (Nat.le_refl _)).alloc _).rows
          go_roundw
          case rel =>
            refine ⟨_, _, _, t2.drop q, A6, n2 + 1, c6, ls ++ [t2.take q], rfl, rfl, hfin, hown6, ?_, by omega, hb6⟩
            show _ = _
            rw [ht.out, hcut.out]
            cases textsOf (t2.drop q) <;> simp
          case measure => show n1 - 2 - q < n1; omega
end Go.Proofs.Ytbkmbbhgpogeiaa
