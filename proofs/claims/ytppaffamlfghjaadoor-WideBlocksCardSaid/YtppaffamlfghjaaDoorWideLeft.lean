/-
  What stands behind the last block: the program's way.
-/
import Derived.Test.YtppaffamlfghjaaDoorWideCells
namespace Go.Proofs.YtppaffamlfghjaaDoor
open Go.RowKit

def GaveRest (w : World) (n : Nat) (l : List UInt8) (e : Ending) (w' : World) : Prop :=
  ∃ A c, e = .returned (.slice A n c) ∧ SeesIn w' A n c (l.map bv) (fun b => w.heap.size ≤ b) ∧ Below w.heap.size w w'

theorem left_join {r b : List UInt8} {n n2 k : Nat} (hr : r.length = n) (hb : b.length = n2) (hn : n < 128) (hge : 128 ≤ n + n2) (hk : k = n2 - (n + n2) % 128) : left (r ++ b) = b.drop k := by
  unfold left
  rw [List.length_append, hr, hb, List.drop_append, List.drop_of_length_le (by rw [hr]; omega), hr, List.nil_append]
  congr 1
  omega

set_option maxRecDepth 100000 in
set_option maxHeartbeats 1000000 in
theorem leftOver_any (A A2 : Option Addr) (n c n2 c2 B N' : Nat) (r b : List UInt8) (w : World) (h : Sees w B A n c (r.map bv)) (h2 : Sees w B A2 n2 c2 (b.map bv)) (hB : B ≤ w.heap.size) (hn : n < 128) (hm2 : n2 ≤ 1000000) (hN' : (left (r ++ b)).length = N') :
    Calls Tryd.prog 54 #[.slice A n c, .slice A2 n2 c2] w (GaveRest w N' (left (r ++ b))) := by
  have hlr : r.length = n := by have := h.len; simpa using this
  have hlb : b.length = n2 := by have := h2.len; simpa using this
  have hle := h2.le
  have hmx := h2.max
  unfold maxLen at hmx
  rw [left_length, List.length_append, hlr, hlb] at hN'
  rcases Nat.lt_or_ge (n + n2) 128 with hlt | hge
  · have hlt' : (n : Int) + n2 < 128 := by omega
    have hN : Hid ((r ++ b).length = n + n2) := Lib.hid (by rw [List.length_append, hlr, hlb])
    obtain rfl : N' = n + n2 := by omega
    rw [left_short (by rw [List.length_append, hlr, hlb]; exact hlt)]
    have hL := SeesL.two w 24 w.heap.size rfl (h.more hB) (h2.more hB)
    have HB := (Below.refl w.heap.size w).alloc (Nat.le_refl _) (.cells #[.slice A n c, .slice A2 n2 c2] 24)
    have HS : (w.alloc (.cells #[.slice A n c, .slice A2 n2 c2] 24)).heap.size = w.heap.size + 1 := World.size_alloc ..
    clear hN' hlr hlb
    go_enter Tryd.func54, Tryd.ntmps54
    go_wp2_with (first
      | (go_at_call 38
         refine (Concat_as _ 2 2 (w.heap.size + 1) [r, b] (r ++ b) (n + n2) _ (by simp) hN.out hL (by rw [HS]; exact Nat.le_refl _) (by omega) (by omega)).mono ?_
         rintro e w3 ⟨A3, c3, rfl, hown, hb3⟩)
      | fail)
    go_ret
    exact ⟨A3, c3, rfl, (seesIn_of_own hown).imp (fun x _ hx => by rw [HS] at hx; omega), HB.trans (hb3.mono (by rw [HS]; omega))⟩
  · have hge' : ¬ (n : Int) + n2 < 128 := by omega
    obtain ⟨k, hk⟩ : ∃ k, k = n2 - (n + n2) % 128 := ⟨_, rfl⟩
    rw [left_join hlr hlb hn hge hk]
    have hki : (n2 : Int) - ((n : Int) + n2) % 128 = (k : Int) := by omega
    have hk2 : k ≤ n2 := by omega
    have hd := h2.drop hk2
    rw [← List.map_drop] at hd
    obtain rfl : N' = n2 - k := by omega
    have hkn : (k : Int) ≤ n2 := by omega
    have hkc : (k : Int) ≤ c2 := by omega
    clear hN' hlr hlb hk
    go_enter Tryd.func54, Tryd.ntmps54
    go_wp2_with (first
      | (go_at_call 32
         refine (Clone_any _ _ _ B _ _ hd hB (by omega)).mono ?_
         rintro e w3 ⟨A3, c3, rfl, hown, hb3⟩)
      | fail)
    all_goals
      go_ret
      exact ⟨A3, c3, rfl, seesIn_of_own hown, hb3⟩
end Go.Proofs.YtppaffamlfghjaaDoor
