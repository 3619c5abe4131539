/-
  octet.Take.
-/
import Derived.Test.YtppaffamlfghjaaDoorClone
import Derived.Test.YtppaffamlfghjaaDoorNumber
import Derived.Deep.RegionWith
namespace Go.Proofs.YtppaffamlfghjaaDoor
open Go.RowKit

def GaveTake (w : World) (N : Nat) (n : Nat) (l : List UInt8) (e : Ending) (w' : World) : Prop :=
  ∃ A c, e = .returned (.tuple #[.int .u64 N, .slice A n c, .int .i64 0]) ∧ w'.ownsRow w.heap.size 5 1 (.slice A n c) n (l.map bv) ∧ Below w.heap.size w w'
def FailTake (w : World) (e : Ending) (w' : World) : Prop := e = .returned (.tuple #[.int .u64 0, .slice none 0 0, .int .i64 10]) ∧ w = w'

set_option maxRecDepth 100000 in
theorem Take_size (A : Option Addr) (n c : Nat) (s : Int) (w : World) (hs : s < 1 ∨ 8 < s) :
    Calls Tryd.prog 67 #[.slice A n c, .int .i64 s] w (FailTake w) := by
  go_enter Tryd.func67, Tryd.ntmps67
  go_wp2_with (go_at_call 50; refine (isSize_no _ _ hs).mono ?_; rintro e w' ⟨rfl, rfl⟩)
  go_ret3
  exact ⟨rfl, rfl⟩

set_option maxRecDepth 100000 in
theorem Take_short (A : Option Addr) (n c : Nat) (s : Int) (w : World) (hs1 : 1 ≤ s) (hs8 : s ≤ 8) (hn : (n : Int) < s) :
    Calls Tryd.prog 67 #[.slice A n c, .int .i64 s] w (FailTake w) := by
  go_enter Tryd.func67, Tryd.ntmps67
  go_wp2_with (go_at_call 50; refine (isSize_yes _ _ hs1 hs8).mono ?_; rintro e w' ⟨rfl, rfl⟩)
  go_ret3
  exact ⟨rfl, rfl⟩

set_option maxRecDepth 100000 in
set_option maxHeartbeats 400000 in
theorem Take_ok (A : Option Addr) (n c B : Nat) (l : List UInt8) (s : Int) (w : World) (h : Sees w B A n c (l.map bv)) (hB : B ≤ w.heap.size) (hm : n ≤ 2147483647) (hs1 : 1 ≤ s) (hs8 : s ≤ 8) (hn : s ≤ n) :
    Calls Tryd.prog 67 #[.slice A n c, .int .i64 s] w (GaveTake w (beNum (l.take s.toNat)) (n - s.toNat) (l.drop s.toNat)) := by
  have hle := h.le
  have hs1' : Sees w B A s.toNat c ((l.take s.toNat).map bv) := by rw [List.map_take]; exact h.take (by omega)
  have hs2' : Sees w B (if c = s.toNat then A else A.map (·.add s.toNat)) (n - s.toNat) (c - s.toNat) ((l.drop s.toNat).map bv) := by rw [List.map_drop]; exact h.drop (by omega)
  by_cases hcs : c = s.toNat
  · subst hcs
    rw [if_pos rfl, show n - s.toNat = 0 by omega, show s.toNat - s.toNat = 0 by omega] at hs2'
    rw [show n - s.toNat = 0 by omega]
    go_enter Tryd.func67, Tryd.ntmps67
    go_wp2_with (go_at_call 50; refine (isSize_yes _ _ hs1 hs8).mono ?_; rintro e w' ⟨rfl, rfl⟩)
    go_region_with (first
      | (go_at_call 70; apply Calls.mono; (exact number_any _ _ _ B (l.take s.toNat) _ (by first | exact hs1' | exact hs1'.drew | exact hs1'.upTo ‹_› hB | exact hs1'.drew.upTo ‹_› hB) (by omega)); rintro e w' ⟨rfl, rfl⟩)
      | (go_at_call 32; apply Calls.mono; (exact Clone_any _ _ _ B (l.drop s.toNat) _ (by first | exact hs2' | exact hs2'.drew) hB (by omega)); rintro e w' ⟨A1, c1, rfl, h1, hb1⟩))
    all_goals
      go_wp2
      go_ret3
      exact ⟨A1, c1, rfl, h1, (Below.refl w.heap.size w).drew.trans hb1⟩
  · rw [if_neg hcs] at hs2'
    go_enter Tryd.func67, Tryd.ntmps67
    go_wp2_with (go_at_call 50; refine (isSize_yes _ _ hs1 hs8).mono ?_; rintro e w' ⟨rfl, rfl⟩)
    go_region_with (first
      | (go_at_call 70; apply Calls.mono; (exact number_any _ _ _ B (l.take s.toNat) _ (by first | exact hs1' | exact hs1'.drew | exact hs1'.upTo ‹_› hB | exact hs1'.drew.upTo ‹_› hB) (by omega)); rintro e w' ⟨rfl, rfl⟩)
      | (go_at_call 32; apply Calls.mono; (exact Clone_any _ _ _ B (l.drop s.toNat) _ (by first | exact hs2' | exact hs2'.drew) hB (by omega)); rintro e w' ⟨A1, c1, rfl, h1, hb1⟩))
    all_goals
      go_wp2
      go_ret3
      exact ⟨A1, c1, rfl, h1, (Below.refl w.heap.size w).drew.trans hb1⟩
end Go.Proofs.YtppaffamlfghjaaDoor
