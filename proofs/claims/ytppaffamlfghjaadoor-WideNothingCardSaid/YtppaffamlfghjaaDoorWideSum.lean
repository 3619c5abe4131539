/-
  Sum: the program's, and the document's; the document's Begin, and Same.
-/
import Derived.Test.YtppaffamlfghjaaDoorWideRefEnd
namespace Go.Proofs.YtppaffamlfghjaaDoor
open Go.RowKit

theorem left_lt (l : List UInt8) : (left l).length < 128 := by rw [left_length]; exact Nat.mod_lt _ (by omega)

def GaveS (w : World) (l : List UInt8) (e : Ending) (w' : World) : Prop := e = .returned (.agg (l.map bv).toArray) ∧ Below w.heap.size w w'

theorem s_start (w : World) : HoldsB (w.alloc (.cells ((List.replicate 64 (0 : UInt8)).map bv).toArray 48)) 48 w.heap.size (List.replicate 64 0) := holdsB_new w _ _ _ _ rfl rfl

set_option maxRecDepth 100000 in
set_option maxHeartbeats 1000000 in
theorem Sum_any (A : Option Addr) (n c B : Nat) (b : List UInt8) (w : World) (h : Sees w B A n c (b.map bv)) (hB : B ≤ w.heap.size) (hm : n ≤ 1000000) (L0 : Laid w) :
    Calls Tryd.prog 29 #[.slice A n c] w (GaveS w (sumOf b)) := by
  have hlb : b.length = n := by have := h.len; simpa using this
  obtain ⟨N', hN'⟩ : ∃ N', (left b).length = N' := ⟨_, rfl⟩
  have hN64 : N' < 128 := by rw [← hN']; exact left_lt b
  have hNm : N' = n % 128 := by rw [← hN', left_length, hlb]
  have hsum : Hid (sumOf b = endOf (absorb st0 b) (left b) n) := Lib.hid (by unfold sumOf; rw [hlb])
  have HB' : Hid (∀ W, Below w.heap.size w W → Calls Tryd.prog 27 #[] W fun e w' => e = .returned (hv st0 none 0 0 0) ∧ Below W.heap.size W w') := Lib.hid fun W hW => Begin_any W (L0.keep hW L0.size)
  have HG : Hid (∀ W, Below w.heap.size w W → Calls Tryd.prog 41 #[hv st0 none 0 0 0, .slice A n c] W (GaveH W (absorb st0 b) N' (left b) n)) := Lib.hid fun W hW => by
    have := goOn_any none A 0 0 n c 0 W.heap.size N' [] b st0 W Sees.none_ ((h.upTo hW hB).more (Nat.le_trans hB hW.size)) (Nat.le_refl _) (by omega) hm (by rw [List.nil_append]; exact hN') (L0.keep hW L0.size)
    rwa [List.nil_append, Nat.zero_add, Nat.mod_eq_of_lt (by omega)] at this
  have HE : Hid (∀ W A4 c4, Below w.heap.size w W → Sees W W.heap.size A4 N' c4 ((left b).map bv) → Calls Tryd.prog 24 #[hv (absorb st0 b) A4 N' c4 n] W (GaveE W (sumOf b) 0)) := Lib.hid fun W A4 c4 hW hs => by
    rw [hsum.out]
    exact End_ok A4 N' c4 n W.heap.size (left b) (absorb st0 b) W hs (Nat.le_refl _) hN64 (by rw [beq_iff_eq]; omega) (by omega) (L0.keep hW L0.size)
  have hl64 : (sumOf b).length = 64 := by rw [hsum.out]; unfold endOf; exact out64_length _
  have Hl64 := Lib.hid hl64
  clear hN' hNm hlb hl64
  generalize sumOf b = out at *
  generalize absorb st0 b = t at *
  generalize left b = rest at *
  have S0 := s_start w
  have SB := (Below.refl w.heap.size w).alloc (Nat.le_refl _) (.cells ((List.replicate 64 (0 : UInt8)).map bv).toArray 48)
  go_enter Tryd.func29, Tryd.ntmps29
  go_wp2_with (first
    | (go_at_call 27
       refine (HB'.out _ (by with_unfolding_all exact SB)).mono ?_
       rintro e w3 ⟨rfl, hb3⟩
       have S1 : HoldsB w3 48 w.heap.size (List.replicate 64 0) := HoldsB.keep (by with_unfolding_all exact S0) hb3 (by rw [World.size_alloc]; omega)
       have B1 : Below w.heap.size w w3 := Below.trans (by with_unfolding_all exact SB) (hb3.mono (by rw [World.size_alloc]; omega))
       clear hb3)
    | (go_at_call 41
       refine (HG.out _ B1).mono ?_
       rintro e w4 ⟨A4, c4, rfl, hs4, hb4⟩
       have S2 := S1.keep hb4 S1.lt
       have B2 := B1.trans (hb4.mono B1.size))
    | (go_at_call 24
       refine (HE.out _ A4 c4 B2 hs4.1).mono ?_
       rintro e w5 ⟨rfl, hb5⟩
       have S3 := S2.keep hb5 S2.lt
       have B3 := B2.trans (hb5.mono B2.size)
       have z5 := s_start w5
       have S3a := S3.alloc (.cells ((List.replicate 64 (0 : UInt8)).map bv).toArray 48)
       have B3a := B3.alloc B3.size (.cells ((List.replicate 64 (0 : UInt8)).map bv).toArray 48)
       have lt3 := S3.lt)
    | (with_reducible refine wpList_store_b rfl 48 (.tmp 3) (.tmp 10) rfl w5.heap.size out Hl64.out rfl rfl (List.replicate 64 0) (by with_unfolding_all exact z5) Tryd.infoB32 (by simp) w.heap.size w (by with_unfolding_all exact B3a) (by omega) ?_
       intro w6 H6 o6 s6 B6
       have S6 : HoldsB w6 48 w.heap.size (List.replicate 64 0) := (o6 _ (by omega)).trans (by with_unfolding_all exact S3a))
    | (with_reducible refine wpList_load_b rfl 48 (.tmp 3) rfl w5.heap.size rfl out Hl64.out H6 Tryd.underlying48 Tryd.infoB32 ?_)
    | (with_reducible refine wpList_store_b rfl 48 (.tmp 2) (.tmp 12) rfl w.heap.size out Hl64.out rfl rfl _ S6 Tryd.infoB32 (by simp) w.heap.size w B6 (Nat.le_refl _) ?_; intro w7 Hg _ _ hb7))
  exact bodyPost_ret (results_cell_row rfl _ _ w.heap.size _ _ _ _ rfl Hg Tryd.underlying48 rfl (by rw [Tryd.infoB32, (b_cells _ Hl64.out).1])) rfl ⟨rfl, hb7⟩

set_option maxRecDepth 100000 in
set_option maxHeartbeats 400000 in
theorem RBegin_any (w : World) :
    Calls Tryd.prog 28 #[] w fun e w' => e = .returned (hv st0 none 0 0 0) ∧ Below w.heap.size w w' := by
  have h0 := hx_start w
  have hb := (Below.refl w.heap.size w).alloc (Nat.le_refl _) (.cells (hcells sz none 0 0 0) 45)
  go_enter Tryd.func28, Tryd.ntmps28
  go_wp2_with (with_reducible refine wpList_store_h rfl (.tmp 0) (.tmp 2) rfl w.heap.size st0 none 0 0 0 rfl (by with_unfolding_all rfl) sz none 0 0 0 (by with_unfolding_all exact h0) Tryd.infoH w.heap.size w (by with_unfolding_all exact hb) (Nat.le_refl _) ?_; intro w2 Hg ho hs hb2)
  exact bodyPost_ret (results_cell_row rfl _ _ w.heap.size _ _ _ _ rfl Hg Tryd.underlying45 rfl (by rw [Tryd.infoH]; rfl)) rfl ⟨rfl, hb2⟩

set_option maxRecDepth 100000 in
set_option maxHeartbeats 1000000 in
theorem RSum_any (A : Option Addr) (n c B : Nat) (b : List UInt8) (w : World) (h : Sees w B A n c (b.map bv)) (hB : B ≤ w.heap.size) (hm : n ≤ 1000000) :
    Calls Tryd.prog 30 #[.slice A n c] w (GaveS w (sumOf b)) := by
  have hlb : b.length = n := by have := h.len; simpa using this
  obtain ⟨N', hN'⟩ : ∃ N', (left b).length = N' := ⟨_, rfl⟩
  have hN64 : N' < 128 := by rw [← hN']; exact left_lt b
  have hNm : N' = n % 128 := by rw [← hN', left_length, hlb]
  have hsum : Hid (sumOf b = endOf (absorb st0 b) (left b) n) := Lib.hid (by unfold sumOf; rw [hlb])
  have HG : Hid (∀ W, Below w.heap.size w W → Calls Tryd.prog 23 #[hv st0 none 0 0 0, .slice A n c] W fun e w' => ∃ A' c', e = .returned (.tuple #[hv (absorb st0 b) A' N' c' n, .int .i64 0]) ∧ Sees w' w'.heap.size A' N' c' ((left b).map bv) ∧ Below W.heap.size W w') := Lib.hid fun W hW => by
    have := RMore_ok none A 0 0 n c 0 W.heap.size [] b st0 W Sees.none_ ((h.upTo hW hB).more (Nat.le_trans hB hW.size)) (Nat.le_refl _) (by omega) hm N' (by rw [List.nil_append]; exact hN') (by rfl)
    rwa [List.nil_append, Nat.zero_add, Nat.mod_eq_of_lt (by omega)] at this
  have HE : Hid (∀ W A4 c4, Below w.heap.size w W → Sees W W.heap.size A4 N' c4 ((left b).map bv) → Calls Tryd.prog 25 #[hv (absorb st0 b) A4 N' c4 n] W (GaveE W (sumOf b) 0)) := Lib.hid fun W A4 c4 hW hs => by
    rw [hsum.out]
    exact REnd_ok A4 N' c4 n W.heap.size (left b) (absorb st0 b) W hs (Nat.le_refl _) hN64 (by rw [decide_eq_true hN64, Bool.true_and, beq_iff_eq]; omega)
  have hl64 : (sumOf b).length = 64 := by rw [hsum.out]; unfold endOf; exact out64_length _
  have Hl64 := Lib.hid hl64
  clear hN' hNm hlb hl64
  generalize sumOf b = out at *
  generalize absorb st0 b = t at *
  generalize left b = rest at *
  have S0 := s_start w
  have SB := (Below.refl w.heap.size w).alloc (Nat.le_refl _) (.cells ((List.replicate 64 (0 : UInt8)).map bv).toArray 48)
  go_enter Tryd.func30, Tryd.ntmps30
  go_wp2_with (first
    | (go_at_call 28
       refine (RBegin_any _).mono ?_
       rintro e w3 ⟨rfl, hb3⟩
       have S1 : HoldsB w3 48 w.heap.size (List.replicate 64 0) := HoldsB.keep (by with_unfolding_all exact S0) hb3 (by rw [World.size_alloc]; omega)
       have B1 : Below w.heap.size w w3 := Below.trans (by with_unfolding_all exact SB) (hb3.mono (by rw [World.size_alloc]; omega))
       clear hb3)
    | (go_at_call 23
       refine (HG.out _ B1).mono ?_
       rintro e w4 ⟨A4, c4, rfl, hs4, hb4⟩
       have S2 := S1.keep hb4 S1.lt
       have B2 := B1.trans (hb4.mono B1.size)
       have z4 := hx_start w4
       have S2a := S2.alloc (.cells #[.int .u64 0, .int .u64 0, .int .u64 0, .int .u64 0, .int .u64 0, .int .u64 0, .int .u64 0, .int .u64 0, .slice none 0 0, .int .u64 0] 45)
       have B2a := B2.alloc B2.size (.cells #[.int .u64 0, .int .u64 0, .int .u64 0, .int .u64 0, .int .u64 0, .int .u64 0, .int .u64 0, .int .u64 0, .slice none 0 0, .int .u64 0] 45)
       have lt2 := S2.lt
       have hs4a := hs4.alloc (Nat.le_refl _) (.cells #[.int .u64 0, .int .u64 0, .int .u64 0, .int .u64 0, .int .u64 0, .int .u64 0, .int .u64 0, .int .u64 0, .slice none 0 0, .int .u64 0] 45))
    | (with_reducible refine wpList_store_h rfl (.tmp 3) (.tmp 11) rfl w4.heap.size t A4 N' c4 n rfl rfl sz none 0 0 0 (by with_unfolding_all exact z4) Tryd.infoH w.heap.size w (by with_unfolding_all exact B2a) (by omega) ?_
       intro w5 H5 o5 s5 B5
       have S5 : HoldsB w5 48 w.heap.size (List.replicate 64 0) := (o5 _ (by omega)).trans (by with_unfolding_all exact S2a)
       have lt5 : w4.heap.size < w5.heap.size := H5.lt
       have hs5 : Sees w5 w5.heap.size A4 N' c4 (rest.map bv) := Sees.more (Sees.keep (by with_unfolding_all exact hs4a) (fun p hp => cell_of_heap (o5 p.block (by omega)))) (Nat.le_of_lt lt5))
    | (with_reducible refine wpList_load_h rfl (.tmp 3) rfl w4.heap.size rfl t A4 N' c4 n H5 Tryd.underlying45 Tryd.infoH ?_)
    | (go_at_call 25
       refine (HE.out _ A4 c4 B5 hs5).mono ?_
       rintro e w6 ⟨rfl, hb6⟩
       have S3 := S5.keep hb6 S5.lt
       have B3 := B5.trans (hb6.mono B5.size)
       have z6 := s_start w6
       have S3a := S3.alloc (.cells ((List.replicate 64 (0 : UInt8)).map bv).toArray 48)
       have B3a := B3.alloc B3.size (.cells ((List.replicate 64 (0 : UInt8)).map bv).toArray 48)
       have lt3 := S3.lt)
    | (with_reducible refine wpList_store_b rfl 48 (.tmp 5) (.tmp 16) rfl w6.heap.size out Hl64.out rfl rfl (List.replicate 64 0) (by with_unfolding_all exact z6) Tryd.infoB32 (by simp) w.heap.size w (by with_unfolding_all exact B3a) (by omega) ?_
       intro w7 H7 o7 s7 B7
       have S7 : HoldsB w7 48 w.heap.size (List.replicate 64 0) := (o7 _ (by omega)).trans (by with_unfolding_all exact S3a))
    | (with_reducible refine wpList_load_b rfl 48 (.tmp 5) rfl w6.heap.size rfl out Hl64.out H7 Tryd.underlying48 Tryd.infoB32 ?_)
    | (with_reducible refine wpList_store_b rfl 48 (.tmp 2) (.tmp 18) rfl w.heap.size out Hl64.out rfl rfl _ S7 Tryd.infoB32 (by simp) w.heap.size w B7 (Nat.le_refl _) ?_; intro w8 Hg _ _ hb8))
  exact bodyPost_ret (results_cell_row rfl _ _ w.heap.size _ _ _ _ rfl Hg Tryd.underlying48 rfl (by rw [Tryd.infoB32, (b_cells _ Hl64.out).1])) rfl ⟨rfl, hb8⟩

end Go.Proofs.YtppaffamlfghjaaDoor
