/-
  OctetBack: numbers and texts are read as they were written. For every input.
-/
import Derived.Test.YtdihimepaihnpaaAwake
import Derived.Test.YtdihimepaihnpaaLawPuts
import Derived.Test.YtdihimepaihnpaaEnc
import Derived.Deep.MidRow
namespace Go.Proofs.Ytdihimepaihnpaa
open Go.RowKit

theorem got_drop {W : World} {A : Option Addr} {n c : Nat} {X Y : List UInt8} (h : Got W A (n + 8) c X) (hY : X.drop n = Y) : c ≠ n ∧ Got W (A.map (·.add n)) 8 (c - n) Y := by
  have hle := Sees.le h
  have hne : c ≠ n := by omega
  have h1 := Sees.drop h (k := n) (by omega)
  rw [if_neg hne, ← List.map_drop, hY, show n + 8 - n = 8 by omega] at h1
  exact ⟨hne, h1⟩

theorem got_at {W : World} {A : Option Addr} {n c : Nat} {X : List UInt8} (h : Got W A (n + 8) c X) : ∃ b o, A = some ⟨b, o, none⟩ := by
  obtain ⟨b, o, e, _⟩ := Sees.at_ h (by omega)
  exact ⟨b, o, e⟩

theorem got_owned {W : World} {base : Nat} {A : Option Addr} {n c : Nat} {be ahead : List UInt8} (h : W.ownsRow base 5 1 (.slice A (8 + n) c) (8 + n) (([] ++ be.map bv) ++ ahead.map bv)) : Got W A (8 + n) c (be ++ ahead) := by
  have h1 := Sees.of_own h
  rwa [List.nil_append, ← List.map_append] at h1

theorem put8 (ahead : List UInt8) (n : Nat) (N : Int) (hn : n ≤ 300) (h0 : 0 ≤ N) (h64 : N < 18446744073709551616) :
    ∃ X, (ahead.length = n → X.drop n = beBytes 8 N.toNat) ∧ ∀ W A c, Got W A n c ahead → Calls Try.prog 9 #[.slice A n c, .int .u64 N, .int .i64 8] W fun e w' => ∃ A1 c1, e = .returned (.tuple #[.slice A1 (n + 8) c1, .int .i64 0]) ∧ Got w' A1 (n + 8) c1 X ∧ Below W.heap.size W w' := by
  refine ⟨ahead ++ beBytes 8 N.toNat, fun hl => ?_, fun W A c h => ?_⟩
  · rw [← hl, List.drop_left]
  · have hb : (N / 2 ^ (8 * (8 : Int)).toNat != 0) = false := by
      have e : (8 * (8 : Int)).toNat = 64 := rfl
      have e2 : N / 2 ^ 64 = 0 := by
        have : (2 : Int) ^ 64 = 18446744073709551616 := by decide
        rw [this]; omega
      rw [e, e2]; rfl
    refine (Put_ok A n c _ ahead N 8 W h (Nat.le_refl _) (by omega) (by omega) (by omega) h0 h64 hb).mono fun e w' h => ?_
    obtain ⟨A1, c1, rfl, ho, hB⟩ := h
    exact ⟨A1, c1, rfl, Sees.of_own ho, hB⟩

theorem take8 (ahead : List UInt8) (n : Nat) (N : Int) (hn : n ≤ 300) (h0 : 0 ≤ N) (h64 : N < 18446744073709551616) :
    ∀ W A c, Got W A (8 + n) c (beBytes 8 N.toNat ++ ahead) → Calls Try.prog 11 #[.slice A (8 + n) c, .int .i64 8] W fun e w' => ∃ A1 c1, e = .returned (.tuple #[.int .u64 N, .slice A1 n c1, .int .i64 0]) ∧ Got w' A1 n c1 ahead ∧ Below W.heap.size W w' := fun W A c h => by
  have hl : (beBytes 8 N.toNat).length = 8 := beTo_length _ _ _
  have ht := Take_ok A (8 + n) c _ (beBytes 8 N.toNat ++ ahead) 8 W h (Nat.le_refl _) (by omega) (by omega) (by omega) (by omega)
  have e0 : (8 : Int).toNat = 8 := rfl
  have e1 : (beBytes 8 N.toNat ++ ahead).take 8 = beBytes 8 N.toNat := List.take_left' hl
  have e2 : (beBytes 8 N.toNat ++ ahead).drop 8 = ahead := List.drop_left' hl
  have e3 : beNum (beBytes 8 N.toNat) = N.toNat := beNum_beBytes 8 _ (by
    have : 256 ^ 8 = 18446744073709551616 := by decide
    omega)
  rw [e0, e1, e2, e3, show 8 + n - 8 = n by omega] at ht
  refine ht.mono fun e w' h => ?_
  obtain ⟨A1, c1, rfl, ho, hB⟩ := h
  exact ⟨A1, c1, by rw [Int.toNat_of_nonneg h0], Sees.of_own ho, hB⟩

theorem texts_back (ls : List (List UInt8)) (hs : ∀ t ∈ ls, t.length ≤ 300) (hn : ls.length ≤ 30) :
    ∀ W A c, Got W A (allOf ls).length c (allOf ls) → Calls Try.prog 15 #[.slice A (allOf ls).length c] W (GaveAll W ls 0) := fun W A c h => by
  have hle := allOf_length_le ls hs
  have ht := (Texts_any A (allOf ls).length c _ (allOf ls) W h (Nat.le_refl _) (by omega)).mono fun _ _ h => texts_all h
  rw [textsOf_all ls (fun t h => Nat.le_trans (hs t h) (by omega))] at ht
  exact ht

/-- How long the first k texts are, written. -/
def upTo (ls : List (List UInt8)) (k : Nat) : Nat := (allOf (ls.take k)).length

theorem small_take {ls : List (List UInt8)} {k : Nat} {l : List UInt8} (hk : ls[k]? = some l) (hs : ∀ t ∈ ls.take k, t.length ≤ 300) (hl : l.length ≤ 300) : ∀ t ∈ ls.take (k + 1), t.length ≤ 300 := fun t ht => by
  obtain ⟨h1, h2⟩ := List.getElem?_eq_some_iff.1 hk
  rw [List.take_succ_eq_append_getElem h1, List.mem_append] at ht
  rcases ht with ht | ht
  · exact hs t ht
  · rw [List.mem_singleton] at ht
    rw [ht, h2]; exact hl

theorem upTo_le {ls : List (List UInt8)} {k : Nat} (hs : ∀ t ∈ ls.take k, t.length ≤ 300) : upTo ls k ≤ 302 * k := by
  have h1 := allOf_length_le (ls.take k) hs
  have h2 : (ls.take k).length ≤ k := by rw [List.length_take]; omega
  unfold upTo
  exact Nat.le_trans h1 (Nat.mul_le_mul_left _ h2)

theorem text_step {ls : List (List UInt8)} {k : Nat} {l : List UInt8} (hk : ls[k]? = some l) (hs : ∀ t ∈ ls.take k, t.length ≤ 300) (hl : l.length ≤ 300) (hk30 : k ≤ 30) (W : World) (A A' : Option Addr) (c c' : Nat)
    (h : Got W A (upTo ls k) c (allOf (ls.take k))) (h' : Got W A' l.length c' l) :
    Calls Try.prog 13 #[.slice A (upTo ls k) c, .slice A' l.length c'] W fun e w' => ∃ A1 c1, e = .returned (.tuple #[.slice A1 (upTo ls (k + 1)) c1, .int .i64 0]) ∧ Got w' A1 (upTo ls (k + 1)) c1 (allOf (ls.take (k + 1))) ∧ Below W.heap.size W w' := by
  have hle := upTo_le hs
  obtain ⟨l2, hl2, hT, _⟩ := text_alike (allOf (ls.take k)) l (upTo ls k) l.length (by omega) (by omega)
  rw [← allOf_take hk] at hl2
  have e : l2.length = upTo ls (k + 1) := by rw [hl2]; rfl
  refine (hT W A A' c c' h h').mono fun e' w' hg => ?_
  obtain ⟨A1, c1, rfl, hg, hB⟩ := hg
  rw [e] at hg ⊢
  rw [hl2] at hg
  exact ⟨A1, c1, rfl, hg, hB⟩

theorem texts_end {ls : List (List UInt8)} {m : Nat} (hm : ls.length = m) (hs : ∀ t ∈ ls.take m, t.length ≤ 300) (hm30 : m ≤ 30) (W : World) (A : Option Addr) (c : Nat) (h : Got W A (upTo ls m) c (allOf (ls.take m))) :
    Calls Try.prog 15 #[.slice A (upTo ls m) c] W fun e w' => ∃ A1 c1, e = .returned (.tuple #[.slice A1 m c1, .int .i64 0]) ∧ GotL w' A1 m c1 ls ∧ Below W.heap.size W w' := by
  have e : ls.take m = ls := List.take_of_length_le (by omega)
  unfold upTo at h ⊢
  rw [e] at hs h ⊢
  subst hm
  exact texts_back ls hs hm30 W A c h

set_option maxRecDepth 100000 in
set_option maxHeartbeats 2000000 in
theorem OctetBack_any (A A' : Option Addr) (n c c' : Nat) (ahead : List UInt8) (ls : List (List UInt8)) (N : Int) (w : World) (ha : Got w A n c ahead) (hl : GotL w A' ls.length c' ls) (h0 : 0 ≤ N) (h64 : N < 18446744073709551616) :
    Calls Try.prog 5 #[.int .u64 N, .slice A n c, .slice A' ls.length c'] w fun e w' => e = .returned (.bool true) ∧ Below w.heap.size w w' := by
  generalize hm : ls.length = m at hl ⊢
  by_cases hn : (300 : Int) < n
  · go_enter Try.func5, Try.ntmps5
    go_wp2_with (go_at_call 8; refine (awake_any _).mono ?_; rintro e w1 ⟨rfl, hb1⟩)
    go_ret
    exact ⟨rfl, hb1⟩
  have hn1 : (n : Int) ≤ 300 := by omega
  by_cases hm0 : (30 : Int) < m
  · go_enter Try.func5, Try.ntmps5
    go_wp2_with (go_at_call 8; refine (awake_any _).mono ?_; rintro e w1 ⟨rfl, hb1⟩)
    go_ret
    exact ⟨rfl, hb1⟩
  have hm1 : (m : Int) ≤ 30 := by omega
  have hal : ahead.length = n := by have := Sees.len ha; rwa [List.length_map] at this
  obtain ⟨X, hX, hp⟩ := put8 ahead n N (by omega) h0 h64
  have ht := take8 ahead n N (by omega) h0 h64
  have hbe : (beBytes 8 N.toNat).length = 8 := beTo_length _ _ _
  have hX' := hX hal
  generalize beBytes 8 N.toNat = be at *
  obtain ⟨i0, hi0, hz0, hz1, hz2⟩ := info_parts Try.infoU8
  have Hz2 := Lib.hid hz2
  have HP := Lib.hid hp
  have HT := Lib.hid ht
  have HX := Lib.hid hX'
  have HM := Lib.hid hm
  have HBE := Lib.hid hbe
  clear hp ht hX hX' hz2 hm hbe hal
  have hd1 : decide ((300 : Int) < n) = false := by simp; omega
  have hd2 : decide ((30 : Int) < m) = false := by simp; omega
  have q1 : (((n + 8 : Nat) : Int) != (n : Int) + 8) = false := by simp
  go_enter Try.func5, Try.ntmps5
  go_wp2_with (first
    | (go_at_call 8; refine (awake_any _).mono ?_
       rintro e w1 ⟨rfl, hB1⟩
       have ha := ha.keep hB1
       have hl := hl.keep hB1)
    | (go_at_call 9; refine (HP.out _ _ _ ha).mono ?_
       rintro e w2 ⟨A1, c1, rfl, g1, hB2⟩
       have ha := ha.keep hB2
       have hl := hl.keep hB2
       obtain ⟨hc1, hd⟩ := got_drop g1 HX.out
       obtain ⟨bk, of, rfl⟩ := got_at g1
       rw [Option.map_some, Addr.add_mid] at hd
       have q2 : n + 8 ≤ c1 := Sees.le g1
       have hC2 := hB1.trans (hB2.mono hB1.size))
    | (at_builtin; refine wpList_append_sees _ rfl (.tmp 42) (.tmp 46) _ rfl w2.heap.size 5 i0 _ 1 Try.underlying22 hi0 hz0 hz1 Hz2.out rfl (.slice (some ⟨w2.heap.size, 0, none⟩) 0 0) 0 [] rfl (World.ownsRow_lit w2 #[] 0 (Nat.le_refl _) (by simp [maxLen]) rfl) w2.heap.size (some ⟨bk, of + n, none⟩) 8 (c1 - n) (be.map bv) rfl (Sees.alloc hd (Nat.le_refl _) _) (bv_one _) (by simp only [maxLen]; omega) (by omega) (by simp) w2.heap.size w2 ((Below.refl _ _).alloc (Nat.le_refl _) _) (Nat.le_refl _) ?_; intro A4 c4 w4 hown4 hb4)
    | (at_builtin; refine wpList_append_sees _ rfl (.tmp 47) (.tmp 48) _ rfl w2.heap.size 5 i0 _ 1 Try.underlying22 hi0 hz0 hz1 Hz2.out rfl (.slice A4 8 c4) 8 _ rfl hown4 w2.heap.size A n c (ahead.map bv) rfl (Sees.below ha hb4) (bv_one _) (by simp only [maxLen]; omega) (by omega) hb4.size w2.heap.size w2 hb4 (Nat.le_refl _) ?_
       intro A5 c5 w5 hown5 hb5
       have g5 := got_owned hown5
       have ha := ha.keep hb5
       have hl := hl.keep hb5
       have hC5 := hC2.trans (hb5.mono hC2.size))
    | (go_at_call 11; refine (HT.out _ _ _ g5).mono ?_
       rintro e w6 ⟨A6, c6, rfl, g6, hB6⟩
       have ha := ha.keep hB6
       have hl := hl.keep hB6
       have hC6 := hC5.trans (hB6.mono hC5.size))
    | fail)
  clear hown4 hown5 hb4 hb5 g5 hd
  clear HP HT HX HBE
  go_loopw [13, 14] (fun v i wr => ∃ (k : Nat) (Ab : Option Addr) (cb : Nat), k ≤ m ∧ i = .int .i64 k ∧ v = .slice Ab (upTo ls k) cb ∧ Got wr Ab (upTo ls k) cb (allOf (ls.take k)) ∧ Hid (∀ t ∈ ls.take k, t.length ≤ 300) ∧ Below w6.heap.size w6 wr)
    (fun _ i _ => m - (intOf i).toNat)
  case atStart => exact ⟨0, none, 0, Nat.zero_le _, rfl, rfl, Sees.none_, Lib.hid (fun t h => by simp at h), Below.refl _ _⟩
  case round =>
    obtain ⟨k, Ab, cb, hk, rfl, rfl, hgot, hsm, hbw⟩ := hrel
    have hlw := hl.keep hbw
    by_cases hlt : k < m
    · obtain ⟨b, o, Ak, ck, l, rfl, hb1, hlk, hc, hsk⟩ := SeesL.at_ hlw hlt
      have hi : (k : Int) < m := by omega
      have hi0' : (0 : Int) ≤ k := by omega
      have Hlk := Lib.hid hlk
      clear hlk
      by_cases hbig : (300 : Int) < l.length
      · go_wp2
        go_ret
        exact ⟨rfl, hC6.trans (hbw.mono hC6.size)⟩
      · have hsmall : (l.length : Int) ≤ 300 := by omega
        have Hs := Lib.hid hsmall
        clear hsmall
        go_wp2_with (go_at_call 13; refine (text_step Hlk.out hsm.out (by have := Hs.out; omega) (by omega) _ _ _ _ _ hgot hsk).mono ?_; rintro e w7 ⟨A7, c7, rfl, g7, hB7⟩)
        go_roundw
        case rel => exact ⟨k + 1, A7, c7, by omega, by go_num, rfl, g7, Lib.hid (small_take Hlk.out hsm.out (by have := Hs.out; omega)), hbw.trans (hB7.mono hbw.size)⟩
        case measure => simp [intOf]; omega
    · obtain rfl : k = m := by omega
      have haw := ha.keep hbw
      have g6w := g6.keep hbw
      go_wp2_with (first
        | (go_at_call 15; refine (texts_end HM.out hsm.out (by omega) _ _ _ hgot).mono ?_
           rintro e w7 ⟨A7, c7, rfl, g7, hB7⟩
           have v1 := conv_got (haw.keep hB7)
           have v2 := conv_got (g6w.keep hB7)
           have hlw := hlw.keep hB7)
        | (go_at_call 17; refine (Same_true _ _ _ _ _ _ _ _ _ g7 hlw (by omega)).mono ?_
           rintro e w8 ⟨rfl, hB8⟩)
        | fail)
      go_ret
      exact ⟨rfl, hC6.trans (((hbw.trans (hB7.mono hbw.size)).trans (hB8.mono (Nat.le_trans hbw.size hB7.size))).mono hC6.size)⟩
end Go.Proofs.Ytdihimepaihnpaa
