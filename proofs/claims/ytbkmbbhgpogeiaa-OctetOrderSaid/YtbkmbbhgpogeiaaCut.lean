/-
  octet.cut.
-/
import Derived.Test.YtbkmbbhgpogeiaaParse
import Derived.Test.YtbkmbbhgpogeiaaNumber
import Derived.Test.YtbkmbbhgpogeiaaRows3
import Derived.BigQuiet
import Derived.Deep.QuietTactic
namespace Go.Proofs.Ytbkmbbhgpogeiaa
open Go.RowKit

theorem number_as (A : Option Addr) (n c B q : Nat) (l : List UInt8) (w : World) (hq : Hid (beNum l = q)) (h : Sees w B A n c (l.map bv)) (hn : n ≤ 8) :
    Calls Try.prog 25 #[.slice A n c] w fun e w' => e = .returned (.int .u64 q) ∧ w = w' := by
  have h1 := number_any A n c B l w h hn
  rw [hq.out] at h1
  exact h1

def NoCut (w : World) (e : Ending) (w' : World) : Prop := e = .returned (.tuple #[.slice none 0 0, .slice none 0 0, .bool false]) ∧ w = w'
def DidCut (w : World) (B : Nat) (n q : Nat) (t r : List UInt8) (e : Ending) (w' : World) : Prop :=
  ∃ A1 c1 A2 c2, e = .returned (.tuple #[.slice A1 q c1, .slice A2 (n - (2 + q)) c2, .bool true]) ∧ Sees w B A1 q c1 (t.map bv) ∧ Sees w B A2 (n - (2 + q)) c2 (r.map bv) ∧ ∃ k, w' = w.drewN k

theorem cut_short (A : Option Addr) (n c : Nat) (w : World) (h : n < 2) :
    Calls Try.prog 33 #[.slice A n c] w (NoCut w) := by
  have h1 : (n : Int) < 2 := by omega
  go_enter Try.func33, Try.ntmps33
  go_wp2
  go_ret3
  exact ⟨rfl, rfl⟩

theorem cut_long (A : Option Addr) (n c B q : Nat) (b : List UInt8) (w : World) (hq : Hid (beNum (b.take 2) = q)) (hs : Sees w B A n c (b.map bv)) (h2 : 2 ≤ n) (h : n < 2 + q) (hq16 : q < 65536) :
    Calls Try.prog 33 #[.slice A n c] w (NoCut w) := by
  have h1 : ¬ (n : Int) < 2 := by omega
  have hle := hs.le
  have hs2 : Sees w B A 2 c ((b.take 2).map bv) := by rw [List.map_take]; exact hs.take h2
  go_enter Try.func33, Try.ntmps33
  go_wp2_with (go_at_call 25; refine (number_as _ _ _ _ q _ _ hq hs2 (by omega)).mono ?_; rintro e w1 ⟨rfl, rfl⟩)
  go_ret3
  exact ⟨rfl, rfl⟩

set_option maxHeartbeats 400000 in
theorem cut_ok (A : Option Addr) (n c B q : Nat) (b : List UInt8) (w : World) (hq : Hid (beNum (b.take 2) = q)) (hs : Sees w B A n c (b.map bv)) (h : 2 + q ≤ n) (hq16 : q < 65536) (hm : n ≤ 2147483647) :
    Calls Try.prog 33 #[.slice A n c] w (DidCut w B n q ((b.drop 2).take q) (b.drop (2 + q))) := by
  have h1 : ¬ (n : Int) < 2 := by omega
  have hle := hs.le
  have hs2 : Sees w B A 2 c ((b.take 2).map bv) := by rw [List.map_take]; exact hs.take (by omega)
  have hc1 : Sees w B (if c = 2 then A else A.map (·.add 2)) q (c - 2) (((b.drop 2).take q).map bv) := by
    have := hs.cut (lo := 2) (hi := 2 + q) (by omega) h
    rw [show 2 + q - 2 = q by omega] at this
    rw [List.map_take, List.map_drop]; exact this
  have hc2 : Sees w B (if c = 2 + q then A else A.map (·.add (2 + q))) (n - (2 + q)) (c - (2 + q)) ((b.drop (2 + q)).map bv) := by rw [List.map_drop]; exact hs.drop h
  go_enter Try.func33, Try.ntmps33
  go_wp2_with (go_at_call 25; refine (number_as _ _ _ _ q _ _ hq hs2 (by omega)).mono ?_; rintro e w1 ⟨rfl, rfl⟩)
  go_quiet (fail)
  go_wp2
  all_goals
    go_ret3
    refine ⟨_, _, _, _, rfl, ?_, ?_, _, rfl⟩
  all_goals first | (simpa [Addr.add] using hc1) | (simpa [Addr.add] using hc2) | (simp_all [Addr.add]; done)
end Go.Proofs.Ytbkmbbhgpogeiaa
