/-
  What comes behind a text's last byte: the program's way.
-/
import Derived.Test.YtppaffamlfghjaaDoorWideCells
import Derived.Test.YtppaffamlfghjaaDoorWideMul
import Derived.Test.YtppaffamlfghjaaDoorPut
namespace Go.Proofs.YtppaffamlfghjaaDoor
open Go.RowKit

theorem tail_length (r many : Nat) : (tailOf r many).length = 128 - (r + 16) % 128 + 16 := by
  unfold tailOf
  rw [List.cons_append, List.length_cons, List.length_append, List.length_append, List.length_replicate, beBytes, beBytes, beTo_length, beTo_length]
  omega

set_option maxRecDepth 100000 in
set_option maxHeartbeats 1000000 in
theorem ending_any (s : St) (A : Option Addr) (n c m : Nat) (w : World) (hn : n < 128) (hm : m < 18446744073709551616) :
    Calls Tryd.prog 45 #[hv s A n c m] w fun e w' => ∃ A' c', e = .returned (.slice A' (128 - (n + 16) % 128 + 8 + 8) c') ∧ Sees w' w'.heap.size A' (128 - (n + 16) % 128 + 8 + 8) c' ((tailOf n m).map bv) ∧ Below w.heap.size w w' := by
  obtain ⟨i0, hi0, hz0, hz1, hz2⟩ := info_parts Tryd.infoU8
  have Hz2 := Lib.hid hz2
  clear hz2
  have HT : Hid (∀ M, M = 128 - (n + 16) % 128 → tailOf n m = (((128 : UInt8) :: List.replicate (M - 1) 0) ++ beBytes 8 (m * 8 / 18446744073709551616)) ++ beBytes 8 (m * 8 % 18446744073709551616)) := Lib.hid (fun M hM => by subst hM; unfold tailOf; simp only [List.append_assoc, List.cons_append])
  have hM : (128 : Int) - ((n : Int) + 16) % 128 = ((128 - (n + 16) % 128 : Nat) : Int) := by omega
  have hM1 : 1 ≤ 128 - (n + 16) % 128 := by omega
  have hM2 : 128 - (n + 16) % 128 ≤ 128 := by omega
  have HT2 := HT.out _ rfl
  clear HT
  generalize 128 - (n + 16) % 128 = M at *
  have HT := Lib.hid HT2
  clear HT2
  have hM3 : (0 : Int) < M := by omega
  obtain ⟨hi, hhi⟩ : ∃ hi, hi = m * 8 / 18446744073709551616 := ⟨_, rfl⟩
  obtain ⟨lo, hlo⟩ : ∃ lo, lo = m * 8 % 18446744073709551616 := ⟨_, rfl⟩
  rw [← hhi, ← hlo] at HT
  have MM : Hid (∀ W, Calls Tryd.prog 58 #[.int .u64 (m : Int), .int .u64 8] W fun e w' => e = .returned (.tuple #[.int .u64 (hi : Int), .int .u64 (lo : Int)]) ∧ w' = W) := Lib.hid fun W => by rw [hhi, hlo]; exact Mul64_any m hm W
  have hhi2 : hi < 18446744073709551616 := by omega
  have hlo2 : lo < 18446744073709551616 := by omega
  have q1 : Hid (((hi : Int) / 2 ^ ((8 : Int) * 8).toNat != 0) = false) := Lib.hid (by rw [bne_eq_false_iff_eq]; show (hi : Int) / 18446744073709551616 = 0; omega)
  have q2 : Hid (((lo : Int) / 2 ^ ((8 : Int) * 8).toNat != 0) = false) := Lib.hid (by rw [bne_eq_false_iff_eq]; show (lo : Int) / 18446744073709551616 = 0; omega)
  clear hhi hlo hm
  have H0 := holdsH_new w w.heap.size (hcells s A n c m) s A n c m rfl rfl
  have hb0 := (Below.refl w.heap.size w).alloc (Nat.le_refl _) (.cells (hcells s A n c m) 45)
  unfold hcells at H0 hb0
  rw [hv_cells]
  unfold hcells
  go_enter Tryd.func45, Tryd.ntmps45
  go_wp2_with (first
    | (at_make; refine wpList_make_zeros _ rfl (.tmp 13) (.tmp 13) _ rfl 5 i0 Tryd.underlying24 hi0 hz0 hz1 .i64 .i64 _ _ M rfl rfl (by first | rfl | exact hM) (by first | rfl | exact hM) (by rw [Hz2.out]; omega) (by simp only [maxLen]; omega) (w.heap.size + 1) _ (Below.refl _ _) (by simp) ?_
       intro w1 hO hs hb
       rw [World.size_alloc] at hO hs
       have hc := hO.cell (j := 0) (by rw [List.length_replicate]; omega)
       have hf := hO.frozen 0
       have H1 := HoldsH.keep (by exact H0) hb (Nat.lt_succ_self _)

       have B1 := hb0.trans (hb.mono (Nat.le_succ _))
       have h9 : w1.cell? ⟨w.heap.size, 9, none⟩ = some (.int .u64 (m : Int)) := H1.at 9)
    | (go_at_call 58
       refine (MM.out _).mono ?_
       rintro e w2 ⟨rfl, rfl⟩)
    | fail)
  have hO2 : HoldsB (w1.setCell ⟨w.heap.size + 1, 0, none⟩ (.int .u8 ((128 : UInt8).toNat : Int))) 5 (w.heap.size + 1) ((List.replicate M 0).set 0 128) := hO.set 0 128
  have hl : (List.replicate M (0 : UInt8)).set 0 128 = 128 :: List.replicate (M - 1) 0 := by
    obtain ⟨k, rfl⟩ : ∃ k, M = k + 1 := ⟨M - 1, by omega⟩
    rfl
  rw [hl] at hO2
  have hS := (hO2.sees (n := M) (by simp; omega) (by omega))
  have B2 := B1.setCell (p := ⟨w.heap.size + 1, 0, none⟩) (Nat.le_succ _) (.int .u8 ((128 : UInt8).toNat : Int))
  refine (Put_ok _ M M (w.heap.size + 1 + 1) _ (hi : Int) 8 _ hS (by simp [hs]) (by omega) (by omega) (by omega) (by omega) (by omega) q1.out).mono ?_
  rintro e w3 ⟨A3, c3, rfl, hown3, hb3⟩
  have hS3 := (seesIn_of_own hown3).1
  have B3 := B2.trans (hb3.mono B2.size)
  rw [Int.toNat_natCast] at hS3
  go_wp2_with fail
  have hS4 : Sees w3 w3.heap.size A3 (M + 8) c3 (((128 :: List.replicate (M - 1) 0) ++ beBytes 8 hi).map bv) := hS3
  refine (Put_ok A3 (M + 8) c3 w3.heap.size _ (lo : Int) 8 w3 hS4 (Nat.le_refl _) (by omega) (by omega) (by omega) (by omega) (by omega) q2.out).mono ?_
  rintro e w4 ⟨A4, c4, rfl, hown4, hb4⟩
  have hS5 := (seesIn_of_own hown4).1
  rw [Int.toNat_natCast] at hS5
  have B4 := B3.trans (hb4.mono B3.size)
  go_wp2_with fail
  go_ret
  refine ⟨A4, c4, rfl, ?_, B4⟩
  rw [HT.out]
  exact hS5
end Go.Proofs.YtppaffamlfghjaaDoor
