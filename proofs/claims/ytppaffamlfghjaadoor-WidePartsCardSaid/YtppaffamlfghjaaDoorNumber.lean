/-
  octet.number: the number that at most eight bytes are.
-/
import Derived.Test.YtppaffamlfghjaaDoorWords
import Derived.Outline
namespace Go.Proofs.YtppaffamlfghjaaDoor
open Go.RowKit

set_option maxRecDepth 100000 in
set_option maxHeartbeats 400000 in
theorem number_any (A : Option Addr) (n c B : Nat) (l : List UInt8) (w : World) (h : Sees w B A n c (l.map bv)) (hn : n ≤ 8) :
    Calls Tryd.prog 70 #[.slice A n c] w fun e w' => e = .returned (.int .u64 (beNum l)) ∧ w = w' := by
  have hl := h.len
  rw [List.length_map] at hl
  have HL := Lib.hid hl
  clear hl
  go_enter Tryd.func70, Tryd.ntmps70
  go_wp2
  go_loop [3, 8] (fun t i => ∃ k : Nat, k ≤ n ∧ i = .int .i64 k ∧ t = .int .u64 (beNum (l.take k))) (fun _ i => n - (intOf i).toNat)
  case atStart => exact ⟨0, Nat.zero_le _, rfl, rfl⟩
  case round =>
    obtain ⟨k, hk, rfl, rfl⟩ := hrel
    by_cases hlt : k < n
    · obtain ⟨b, o, u, rfl, hb, hu, hc⟩ := h.cell hlt
      obtain ⟨hkl, rfl⟩ := bv_get hu
      unfold bv at hc
      have hx := (l[k]).toNat_lt
      clear hu
      have h8 : k < 8 := by omega
      have hb1 := beNum_take_lt l h8
      go_wp2
      go_round
      case rel => exact ⟨k + 1, by omega, by go_num, by rw [or_step _ _ hb1 hx, ← beNum_take hkl]⟩
      case measure => simp [intOf]; omega
    · go_wp2
      go_ret
      exact ⟨by rw [List.take_of_length_le (by have := HL.out; omega)]; rfl, rfl⟩
end Go.Proofs.YtppaffamlfghjaaDoor
