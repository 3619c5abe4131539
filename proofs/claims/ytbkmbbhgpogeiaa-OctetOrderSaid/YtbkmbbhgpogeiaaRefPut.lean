/-
  The document's Put.
-/
import Derived.Test.YtbkmbbhgpogeiaaPut
namespace Go.Proofs.Ytbkmbbhgpogeiaa
open Go.RowKit

theorem RPut_size (A : Option Addr) (n c : Nat) (N s : Int) (w : World) (hs : s < 1 ∨ 8 < s) :
    Calls Try.prog 10 #[.slice A n c, .int .u64 N, .int .i64 s] w (FailBytes w) := by
  rcases hs with hs | hs
  · go_enter Try.func10, Try.ntmps10
    go_wp2
    go_ret2
    exact ⟨rfl, rfl⟩
  · have h1 : ¬ s < 1 := by omega
    have h2 : decide (s < 1) = false := by simpa using h1
    go_enter Try.func10, Try.ntmps10
    go_wp2
    go_ret2
    exact ⟨rfl, rfl⟩

theorem RPut_big (A : Option Addr) (n c : Nat) (N s : Int) (w : World) (hs1 : 1 ≤ s) (hs8 : s < 8) (hN : (N / 2 ^ (8 * s).toNat != 0) = true) :
    Calls Try.prog 10 #[.slice A n c, .int .u64 N, .int .i64 s] w (FailBytes w) := by
  have h2 : decide (s < 1) = false := by simp; omega
  have h3 : decide (8 < s) = false := by simp; omega
  go_enter Try.func10, Try.ntmps10
  go_wp2
  go_ret2
  exact ⟨rfl, rfl⟩

set_option maxHeartbeats 400000 in
theorem RPut_ok (A : Option Addr) (n c B : Nat) (l : List UInt8) (N s : Int) (w : World) (h : Sees w B A n c (l.map bv)) (hB : B ≤ w.heap.size) (hn : n ≤ 2147483647) (hs1 : 1 ≤ s) (hs8 : s ≤ 8) (hN0 : 0 ≤ N) (_hN64 : N < 18446744073709551616)
    (hN : s < 8 → (N / 2 ^ (8 * s).toNat != 0) = false) :
    Calls Try.prog 10 #[.slice A n c, .int .u64 N, .int .i64 s] w (GaveBytes w (n + s.toNat) (l ++ beBytes s.toNat N.toNat)) := by
  obtain ⟨i0, hi0, hz0, hz1, hz2⟩ := info_parts Try.infoU8
  have Hz2 := Lib.hid hz2
  have Hl := Lib.hid h.len
  clear hz2
  have h2 : decide (s < 1) = false := by simp; omega
  have h3 : decide (8 < s) = false := by simp; omega
  by_cases h8 : s < 8
  all_goals
    first | have hN1 := hN h8 | have h8d : decide (s < 8) = false := by simp; omega
    clear hN
    go_enter Try.func10, Try.ntmps10
    go_wp2_with (first
      | (at_builtin; refine wpList_append_sees _ rfl (.tmp 28) (.tmp 29) _ rfl w.heap.size 5 i0 _ 1 Try.underlying22 hi0 hz0 hz1 Hz2.out rfl (.slice (some ⟨w.heap.size, 0, none⟩) 0 0) 0 [] rfl (World.ownsRow_lit w #[] 0 (Nat.le_refl _) (by simp [maxLen]) rfl) B A n c (l.map bv) rfl (h.alloc hB _) (bv_one l) (by simp only [maxLen]; omega) (by omega) (by simp) w.heap.size w ((Below.refl _ _).alloc (Nat.le_refl _) _) (Nat.le_refl _) ?_; intro A1 c1 w1 hown1 hb1))
    have hown0 : w1.ownsRow w.heap.size 5 1 (.slice A1 n c1) n (l.map bv) := by simpa using hown1
    clear hown1
    go_loopw [8, 9] (fun v i wr => ∃ (k : Nat) (A' : Option Addr) (c' : Nat), k ≤ s.toNat ∧ i = .int .i64 (s - 1 - k) ∧ v = .slice A' (n + k) c' ∧ wr.ownsRow w.heap.size 5 1 (.slice A' (n + k) c') (n + k) ((l ++ beTo s.toNat N.toNat k).map bv) ∧ Below w.heap.size w wr)
      (fun _ i _ => (intOf i + 1).toNat)
    case atStart => exact ⟨0, A1, c1, Nat.zero_le _, by simp, by simp, by simpa [beTo] using hown0, hb1⟩
    case round =>
      obtain ⟨k, A', c', hk, rfl, rfl, hown, hbw⟩ := hrel
      by_cases hlt : k < s.toNat
      · have hge : 0 ≤ s - 1 - k := by omega
        go_wp2_with (first
          | (at_builtin; refine wpList_append_sees _ rfl (.tmp 37) (.tmp 44) _ rfl w.heap.size 5 i0 _ 1 Try.underlying22 hi0 hz0 hz1 Hz2.out rfl (.slice A' (n + k) c') (n + k) _ rfl (hown.alloc _) (wr.heap.size + 1) (some ⟨wr.heap.size, 0, none⟩) 1 1 [_] rfl (Sees.one _ _ _) (by intro u hu; simp at hu; subst hu; rfl) (by simp only [maxLen]; omega) (by omega) (by have := hbw.size; simp; omega) w.heap.size w (hbw.alloc hbw.size _) (Nat.le_refl _) ?_; intro A3 c3 w3 hown3 hb3))
        rw [byte_of N s k hN0 hlt] at hown3
        go_roundw
        case rel => exact ⟨k + 1, A3, c3, by omega, by congr 1; omega, rfl, by rw [beTo_succ, ← List.append_assoc, List.map_append]; exact hown3, hb3⟩
        case measure => simp [intOf]; omega
      · obtain rfl : k = s.toNat := by omega
        go_wp2
        go_ret2
        exact ⟨_, _, rfl, hown, hbw⟩
end Go.Proofs.Ytbkmbbhgpogeiaa
