/-
  octet.Put.
-/
import Derived.Test.YtppaffamlfghjaaDoorWords
import Derived.Test.YtppaffamlfghjaaDoorSmall
import Derived.Outline
namespace Go.Proofs.YtppaffamlfghjaaDoor
open Go.RowKit

theorem Tryd.infoU8 : (Tryd.prog.info? 5).map (fun i => (i.zero, i.size, i.bytes)) = some (some (.int .u8 0), 1, 1) := by kernel_rfl

def FailBytes (w : World) (e : Ending) (w' : World) : Prop := e = .returned (.tuple #[.slice none 0 0, .int .i64 10]) ∧ w = w'

set_option maxRecDepth 100000 in
theorem Put_size (A : Option Addr) (n c : Nat) (N s : Int) (w : World) (hs : s < 1 ∨ 8 < s) :
    Calls Tryd.prog 36 #[.slice A n c, .int .u64 N, .int .i64 s] w (FailBytes w) := by
  go_enter Tryd.func36, Tryd.ntmps36
  go_wp2_with (go_at_call 50; refine (isSize_no _ _ hs).mono ?_; rintro e w' ⟨rfl, rfl⟩)
  go_ret2
  exact ⟨rfl, rfl⟩

set_option maxRecDepth 100000 in
theorem Put_big (A : Option Addr) (n c : Nat) (N s : Int) (w : World) (hs1 : 1 ≤ s) (hs8 : s ≤ 8) (hN : (N / 2 ^ (8 * s).toNat != 0) = true) :
    Calls Tryd.prog 36 #[.slice A n c, .int .u64 N, .int .i64 s] w (FailBytes w) := by
  go_enter Tryd.func36, Tryd.ntmps36
  go_wp2_with (go_at_call 50; refine (isSize_yes _ _ hs1 hs8).mono ?_; rintro e w' ⟨rfl, rfl⟩)
  go_ret2
  exact ⟨rfl, rfl⟩

def GaveBytes (w : World) (n : Nat) (l : List UInt8) (e : Ending) (w' : World) : Prop :=
  ∃ A c, e = .returned (.tuple #[.slice A n c, .int .i64 0]) ∧ w'.ownsRow w.heap.size 5 1 (.slice A n c) n (l.map bv) ∧ Below w.heap.size w w'

set_option maxRecDepth 100000 in
set_option maxHeartbeats 400000 in
theorem Put_ok (A : Option Addr) (n c B : Nat) (l : List UInt8) (N s : Int) (w : World) (h : Sees w B A n c (l.map bv)) (hB : B ≤ w.heap.size) (hn : n ≤ 2147483647) (hs1 : 1 ≤ s) (hs8 : s ≤ 8) (hN0 : 0 ≤ N) (_hN64 : N < 18446744073709551616)
    (hN : (N / 2 ^ (8 * s).toNat != 0) = false) :
    Calls Tryd.prog 36 #[.slice A n c, .int .u64 N, .int .i64 s] w (GaveBytes w (n + s.toNat) (l ++ beBytes s.toNat N.toNat)) := by
  obtain ⟨i0, hi0, hz0, hz1, hz2⟩ := info_parts Tryd.infoU8
  have Hz2 := Lib.hid hz2
  have Hl := Lib.hid h.len
  clear hz2
  have hsz : (Tryd.prog.info? 5).map (·.size) = some 1 := by rw [hi0]; simp [hz1]
  have Hsz := Lib.hid hsz
  clear hsz
  go_enter Tryd.func36, Tryd.ntmps36
  go_wp2_with (first
    | (go_at_call 50; refine (isSize_yes _ _ hs1 hs8).mono ?_; rintro e w' ⟨rfl, rfl⟩)
    | (at_make; refine wpList_make_room _ rfl (.tmp 21) (.tmp 25) _ rfl 5 i0 _ Tryd.underlying24 hi0 hz0 hz1 .i64 .i64 _ _ n (n + s.toNat) rfl rfl rfl (by omega) (by omega) (by rw [Hz2.out]; omega) (by simp only [maxLen]; omega) ?_; intro w1 cur Hcur hb1)
    | (with_reducible refine wpList_copy_splice rfl (.tmp 27) (.tmp 28) _ _ rfl 5 Tryd.underlying24 Hsz.out (some ⟨w.heap.size, 0, none⟩) A n (n + s.toNat) n c rfl rfl w.heap.size 0 cur 5 Hcur.out.2 (l.map bv) (by simpa using Hl.out) (fun hp => ⟨rfl, (h.upTo hb1 hB).src hp⟩) (by have := Hcur.out.1; have := Hl.out; omega) (bv_one l) w.heap.size w hb1 (Nat.le_refl _) ?_; intro w2 Hcur2 hb2))
  have hown0 : w2.ownsRow w.heap.size 5 1 (.slice (some ⟨w.heap.size, 0, none⟩) n (n + s.toNat)) n (l.map bv) := by
    have h1 := Hcur2.out
    have h2 : splice cur 0 (l.map bv) = l.map bv ++ cur.drop n := by simp [splice, show l.length = n by simpa using Hl.out]
    rw [h2] at h1
    exact ownsRow_of_block h1 (Nat.le_refl _) (by simpa using Hl.out) (by have := Hcur.out.1; simp; omega) (by simp only [maxLen]; omega)
  clear Hcur Hcur2
  go_loopw [8, 9] (fun v i wr => ∃ k : Nat, k ≤ s.toNat ∧ i = .int .i64 (8 * (s - 1 - k)) ∧ v = .slice (some ⟨w.heap.size, 0, none⟩) (n + k) (n + s.toNat) ∧ wr.ownsRow w.heap.size 5 1 v (n + k) ((l ++ beTo s.toNat N.toNat k).map bv) ∧ Below w.heap.size w wr)
    (fun _ i _ => (intOf i + 8).toNat)
  case atStart => exact ⟨0, Nat.zero_le _, by simp, rfl, by simpa [beTo] using hown0, hb2⟩
  case round =>
    obtain ⟨k, hk, rfl, rfl, hown, hbw⟩ := hrel
    by_cases hlt : k < s.toNat
    · have hge : 0 ≤ 8 * (s - 1 - k) := by omega
      go_wp2_with (first
        | (at_builtin; refine wpList_append_fits _ rfl (.tmp 37) (.tmp 42) _ rfl w.heap.size 5 i0 1 Tryd.underlying24 hi0 hz1 w.heap.size (n + k) (n + s.toNat) _ rfl (hown.alloc _) ⟨wr.heap.size, 0, none⟩ 1 1 [_] rfl rfl (cell_one_new _ _ _) (by intro u hu; simp at hu; subst hu; rfl) (by omega) ?_; intro w3 hown3 hg3))
      rw [byte_of N s k hN0 hlt] at hown3
      go_roundw
      case rel => exact ⟨k + 1, by omega, by congr 1; omega, rfl, by rw [beTo_succ, ← List.append_assoc, List.map_append]; exact hown3, (hbw.alloc hbw.size _).grown hg3 (by have := hbw.size; simp; omega) (by intro k e; cases e; exact Nat.le_refl _)⟩
      case measure => simp [intOf]; omega
    · obtain rfl : k = s.toNat := by omega
      go_wp2
      go_ret2
      exact ⟨_, _, rfl, hown, hbw⟩
end Go.Proofs.YtppaffamlfghjaaDoor
