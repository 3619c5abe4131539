/-
  octet.Text, and the document's.
-/
import Derived.Test.YtbkmbbhgpogeiaaConcat
namespace Go.Proofs.Ytbkmbbhgpogeiaa
open Go.RowKit

/-- What Text makes. -/
def textOf (l t : List UInt8) : List UInt8 := l ++ beBytes 2 t.length ++ t

theorem textOf_length (l t : List UInt8) : (textOf l t).length = l.length + 2 + t.length := by simp [textOf, beBytes, beTo_length]; omega

def GaveSeen (w : World) (n : Nat) (l : List UInt8) (e : Ending) (w' : World) : Prop :=
  ∃ A c, e = .returned (.tuple #[.slice A n c, .int .i64 0]) ∧ Sees w' w'.heap.size A n c (l.map bv) ∧ Below w.heap.size w w'

theorem small16 (n : Nat) (hn : n ≤ 65535) : ((n : Int) / 2 ^ (8 * (2 : Int)).toNat != 0) = false := by
  have e : (8 * (2 : Int)).toNat = 16 := rfl
  have e2 : (n : Int) / 2 ^ 16 = 0 := by
    have : (2 : Int) ^ 16 = 65536 := by decide
    rw [this]; omega
  rw [e, e2]
  rfl

theorem RText_long (A A' : Option Addr) (n c n' c' : Nat) (w : World) (hn' : 65535 < n') :
    Calls Try.prog 14 #[.slice A n c, .slice A' n' c'] w (FailBytes w) := by
  have h1 : (65535 : Int) < n' := by omega
  go_enter Try.func14, Try.ntmps14
  go_wp2
  go_ret2
  exact ⟨rfl, rfl⟩

set_option maxHeartbeats 400000 in
theorem RText_ok (A A' : Option Addr) (n c n' c' B B' : Nat) (l t : List UInt8) (w : World) (h : Sees w B A n c (l.map bv)) (h' : Sees w B' A' n' c' (t.map bv)) (hB : B ≤ w.heap.size) (hB' : B' ≤ w.heap.size) (hn : n ≤ 2000000000) (hn' : n' ≤ 65535) :
    Calls Try.prog 14 #[.slice A n c, .slice A' n' c'] w (GaveSeen w (n + 2 + n') (textOf l t)) := by
  obtain ⟨i0, hi0, hz0, hz1, hz2⟩ := info_parts Try.infoU8
  have Hz2 := Lib.hid hz2
  have hl' := h'.len
  rw [List.length_map] at hl'
  have HL' := Lib.hid hl'
  clear hz2 hl'
  have hq := Lib.hid (small16 n' hn')
  go_enter Try.func14, Try.ntmps14
  go_wp2_with (first
    | (go_at_call 10; refine (RPut_ok _ _ _ _ _ _ _ _ h hB (by omega) (by omega) (by omega) (by omega) (by omega) (fun _ => hq.out)).mono ?_; rintro e w1 ⟨A1, c1, rfl, hown1, hb1⟩)
    | (at_builtin; refine wpList_append_sees _ rfl (.tmp 19) (.tmp 20) _ rfl w.heap.size 5 i0 _ 1 Try.underlying22 hi0 hz0 hz1 Hz2.out rfl (.slice A1 (n + 2) c1) (n + 2) _ rfl hown1 B' A' n' c' (t.map bv) rfl (h'.upTo hb1 hB') (bv_one _) (by simp only [maxLen]; omega) (by omega) (by exact hb1.size) w.heap.size w hb1 (Nat.le_refl _) ?_; intro A3 c3 w3 hown3 hb3))
  go_ret2
  refine ⟨A3, c3, rfl, ?_, hb3⟩
  have hs := Sees.of_own hown3
  rw [textOf, HL'.out, List.map_append]
  exact hs

theorem Text_long (A A' : Option Addr) (n c n' c' : Nat) (w : World) (hn' : 65535 < n') (hm : n' ≤ 2147483647) :
    Calls Try.prog 13 #[.slice A n c, .slice A' n' c'] w (FailBytes w) := by
  have e2 : (n' : Int) / 2 ^ (8 * (2 : Int)).toNat ≠ 0 := by
    have e : (8 * (2 : Int)).toNat = 16 := rfl
    have : (2 : Int) ^ 16 = 65536 := by decide
    rw [e, this]; omega
  have hq : ((n' : Int) / 2 ^ (8 * (2 : Int)).toNat != 0) = true := by simpa using e2
  have Hq := Lib.hid hq
  clear hq e2
  go_enter Try.func13, Try.ntmps13
  go_wp2_with (first
    | (go_at_call 9; refine (Put_big _ _ _ _ _ _ (by omega) (by omega) Hq.out).mono ?_; rintro e w1 ⟨rfl, rfl⟩))
  go_ret2
  exact ⟨rfl, rfl⟩

set_option maxHeartbeats 400000 in
theorem Text_ok (A A' : Option Addr) (n c n' c' B B' : Nat) (l t : List UInt8) (w : World) (h : Sees w B A n c (l.map bv)) (h' : Sees w B' A' n' c' (t.map bv)) (hB : B ≤ w.heap.size) (hB' : B' ≤ w.heap.size) (hn : n ≤ 2000000000) (hn' : n' ≤ 65535) :
    Calls Try.prog 13 #[.slice A n c, .slice A' n' c'] w (GaveSeen w (n + 2 + n') (textOf l t)) := by
  have hl' := h'.len
  rw [List.length_map] at hl'
  have HL' := Lib.hid hl'
  clear hl'
  have hq := Lib.hid (small16 n' hn')
  have hfl : ([l, beBytes 2 t.length, t] : List (List UInt8)).flatten = textOf l t := by simp [textOf]
  have HF := Lib.hid hfl
  have hlen : (textOf l t).length = n + 2 + n' := by rw [textOf_length, HL'.out, show l.length = n by have := h.len; simpa using this]
  have HN := Lib.hid hlen
  clear hfl hlen
  go_enter Try.func13, Try.ntmps13
  go_wp2_with (first
    | (go_at_call 9; refine (Put_ok _ _ _ 0 [] _ _ _ Sees.none_ (by omega) (by omega) (by omega) (by omega) (by omega) (by omega) hq.out).mono ?_; rintro e w1 ⟨A1, c1, rfl, hown1, hb1⟩)
    | (go_at_call 27; refine (Concat_as _ 3 3 (w1.heap.size + 1) [l, beBytes 2 t.length, t] (textOf l t) (n + 2 + n') _ HF.out HN.out (SeesL.three w1 _ ((h.upTo hb1 hB).more (Nat.le_trans hB hb1.size)) (by have hs := Sees.of_own hown1; rw [List.nil_append, Int.toNat_natCast, ← HL'.out] at hs; exact hs) ((h'.upTo hb1 hB').more (Nat.le_trans hB' hb1.size))) (by simp) (by omega) (by omega)).mono ?_; rintro e w2 ⟨A2, c2, rfl, hs2, hb2⟩))
  go_ret2
  exact ⟨A2, c2, rfl, Sees.of_own hs2, (hb1.alloc hb1.size _).trans (hb2.mono (by have := hb1.size; simp; omega))⟩
end Go.Proofs.Ytbkmbbhgpogeiaa
