/-
  bytes.Clone.
-/
import Derived.Test.YtppaffamlfghjaaDoorPut
namespace Go.Proofs.YtppaffamlfghjaaDoor
open Go.RowKit

def GaveSlice (w : World) (n : Nat) (l : List UInt8) (e : Ending) (w' : World) : Prop :=
  ∃ A c, e = .returned (.slice A n c) ∧ w'.ownsRow w.heap.size 5 1 (.slice A n c) n (l.map bv) ∧ Below w.heap.size w w'

set_option maxRecDepth 100000 in
set_option maxHeartbeats 400000 in
theorem Clone_any (A : Option Addr) (n c B : Nat) (l : List UInt8) (w : World) (h : Sees w B A n c (l.map bv)) (hB : B ≤ w.heap.size) (hn : n ≤ 2147483647) :
    Calls Tryd.prog 32 #[.slice A n c] w (GaveSlice w n l) := by
  obtain ⟨i0, hi0, hz0, hz1, hz2⟩ := info_parts Tryd.infoU8
  have Hz2 := Lib.hid hz2
  have Hl := Lib.hid h.len
  clear hz2
  cases A with
  | none =>
    obtain rfl : c = 0 := h.nil rfl
    obtain rfl : n = 0 := by have := h.le; omega
    have hl : l = [] := by have := Hl.out; simpa using this
    subst hl
    have heq := fun wx => Lib.run_eql_slice_nil (P := Tryd.prog) wx 24 5 none 0 0 0 0 Tryd.underlying24
    go_enter Tryd.func32, Tryd.ntmps32
    go_wp2
    go_ret
    exact ⟨none, 0, rfl, World.ownsRow_nil _ _ _ _, Below.refl _ _⟩
  | some ad =>
    have heq := fun wx => Lib.run_eql_slice_nil (P := Tryd.prog) wx 24 5 (some ad) n c 0 0 Tryd.underlying24
    go_enter Tryd.func32, Tryd.ntmps32
    go_wp2_with (first
      | (at_builtin; refine wpList_append_sees _ rfl (.tmp 5) (.tmp 6) _ rfl w.heap.size 5 i0 _ 1 Tryd.underlying24 hi0 hz0 hz1 Hz2.out rfl (.slice (some ⟨w.heap.size, 0, none⟩) 0 0) 0 [] rfl (World.ownsRow_lit w #[] 0 (Nat.le_refl _) (by simp [maxLen]) rfl) B (some ad) n c (l.map bv) rfl (h.alloc hB _) (bv_one l) (by simp only [maxLen]; omega) (by omega) (by simp) w.heap.size w ((Below.refl _ _).alloc (Nat.le_refl _) _) (Nat.le_refl _) ?_; intro A1 c1 w1 hown1 hb1))
    go_ret
    exact ⟨A1, c1, by simp, by simpa using hown1, hb1⟩

end Go.Proofs.YtppaffamlfghjaaDoor
