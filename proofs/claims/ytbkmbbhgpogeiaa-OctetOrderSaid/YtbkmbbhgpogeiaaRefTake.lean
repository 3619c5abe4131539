/-
  The document's Take.
-/
import Derived.Test.YtbkmbbhgpogeiaaTake
namespace Go.Proofs.Ytbkmbbhgpogeiaa
open Go.RowKit

theorem RTake_size (A : Option Addr) (n c : Nat) (s : Int) (w : World) (hs : s < 1 ∨ 8 < s) :
    Calls Try.prog 12 #[.slice A n c, .int .i64 s] w (FailTake w) := by
  rcases hs with hs | hs
  · go_enter Try.func12, Try.ntmps12
    go_wp2
    go_ret3
    exact ⟨rfl, rfl⟩
  · have h2 : decide (s < 1) = false := by simp; omega
    go_enter Try.func12, Try.ntmps12
    go_wp2
    go_ret3
    exact ⟨rfl, rfl⟩

theorem RTake_short (A : Option Addr) (n c : Nat) (s : Int) (w : World) (hs1 : 1 ≤ s) (hs8 : s ≤ 8) (hn : (n : Int) < s) :
    Calls Try.prog 12 #[.slice A n c, .int .i64 s] w (FailTake w) := by
  have h2 : decide (s < 1) = false := by simp; omega
  have h3 : decide (8 < s) = false := by simp; omega
  go_enter Try.func12, Try.ntmps12
  go_wp2
  go_ret3
  exact ⟨rfl, rfl⟩

set_option maxHeartbeats 400000 in
theorem RTake_ok (A : Option Addr) (n c B : Nat) (l : List UInt8) (s : Int) (w : World) (h : Sees w B A n c (l.map bv)) (hB : B ≤ w.heap.size) (hm : n ≤ 2147483647) (hs1 : 1 ≤ s) (hs8 : s ≤ 8) (hn : s ≤ n) :
    Calls Try.prog 12 #[.slice A n c, .int .i64 s] w (GaveTake w (beNum (l.take s.toNat)) (n - s.toNat) (l.drop s.toNat)) := by
  obtain ⟨i0, hi0, hz0, hz1, hz2⟩ := info_parts Try.infoU8
  have Hz2 := Lib.hid hz2
  clear hz2
  have hle := h.le
  have hl := h.len
  rw [List.length_map] at hl
  have HL := Lib.hid hl
  clear hl
  have hs2' : Sees w B (if c = s.toNat then A else A.map (·.add s.toNat)) (n - s.toNat) (c - s.toNat) ((l.drop s.toNat).map bv) := by rw [List.map_drop]; exact h.drop (by omega)
  have h2 : decide (s < 1) = false := by simp; omega
  have h3 : decide (8 < s) = false := by simp; omega
  have h4 : decide ((n : Int) < s) = false := by simp; omega
  go_enter Try.func12, Try.ntmps12
  go_wp2
  go_loop [7, 8] (fun t i => ∃ k : Nat, k ≤ s.toNat ∧ i = .int .i64 k ∧ t = .int .u64 (beNum (l.take k))) (fun _ i => s.toNat - (intOf i).toNat)
  case atStart => exact ⟨0, Nat.zero_le _, rfl, rfl⟩
  case round =>
    obtain ⟨k, hk, rfl, rfl⟩ := hrel
    by_cases hlt : k < s.toNat
    · obtain ⟨b, o, u, rfl, hb, hu, hc⟩ := h.cell (k := k) (by omega)
      obtain ⟨hkl, rfl⟩ := bv_get hu
      unfold bv at hc
      have hx := (l[k]).toNat_lt
      clear hu
      have hb1 := beNum_take_lt l (show k < 8 by omega)
      go_wp2
      go_round
      case rel => exact ⟨k + 1, by omega, by go_num, by rw [beNum_take hkl]; go_num⟩
      case measure => simp [intOf]; omega
    · obtain rfl : k = s.toNat := by omega
      go_wp2_with (first
        | (at_builtin; refine wpList_append_sees _ rfl (.tmp 35) (.tmp 38) _ rfl w.heap.size 5 i0 _ 1 Try.underlying22 hi0 hz0 hz1 Hz2.out rfl (.slice (some ⟨w.heap.size, 0, none⟩) 0 0) 0 [] rfl (World.ownsRow_lit w #[] 0 (Nat.le_refl _) (by simp [maxLen]) rfl) B _ (n - s.toNat) (c - s.toNat) ((l.drop s.toNat).map bv) rfl (hs2'.alloc hB _) (bv_one _) (by simp only [maxLen]; omega) (by omega) (by simp) w.heap.size w ((Below.refl _ _).alloc (Nat.le_refl _) _) (Nat.le_refl _) ?_; intro A1 c1 w1 hown1 hb1))
      all_goals
        go_ret3
        exact ⟨A1, c1, by simp, by simpa using hown1, hb1⟩
end Go.Proofs.Ytbkmbbhgpogeiaa
