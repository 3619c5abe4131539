/-
  The program's numbers modulo P: a number, and a small one, added; what is below P.
-/
import Derived.Test.YtcidbiceeinglaaDoorFOps
import Derived.Test.YtcidbiceeinglaaDoorFRefE
import Derived.Deep.DeepCutAuto
namespace Go.Proofs.YtcidbiceeinglaaDoor
open Go.RowKit

set_option maxRecDepth 100000 in
set_option maxHeartbeats 1000000 in
theorem plus_any (m n : Nat) (w : World) (hn : n < 18446744073709551616) :
    Calls Tryd.prog 45 #[fev m, .int .u64 (n : Int)] w (GaveF w (m + n)) := by
  obtain ⟨hA, hC, hb, _⟩ := fe_start2 w m 0 _ #[.int .u64 0, .int .u64 0, .int .u64 0, .int .u64 0] rfl (by kernel_rfl)
  have hstart := Lib.hid (cy_zero 1 m 0 n)
  have LS : Hid (∀ k, (limb m k + cy 1 m 0 n k + 0) % 18446744073709551616 = limb (m + n) k ∧ (limb m k + cy 1 m 0 n k + 0) / 18446744073709551616 = cy 1 m 0 n (k + 1)) := Lib.hid fun k => lin_small m n k
  generalize m + n = s at *
  rw [fev_eq]
  go_enter Tryd.func45, Tryd.ntmps45
  go_wp2
  go_loopw [1, 5, 6] (fun vn _ vi wr => ∃ k : Nat, k ≤ 4 ∧ vi = .int .i64 (k : Int) ∧ vn = .int .u64 (cy 1 m 0 n k : Int) ∧ HoldsN wr 24 w.heap.size (mixL 4 s m k) ∧ HoldsN wr 24 (w.heap.size + 1) (lims 0) ∧ Below w.heap.size w wr)
    (fun _ _ vi _ => 4 - (intOf vi).toNat)
  case atStart => exact ⟨0, Nat.zero_le _, rfl, by rw [hstart.out], hA, hC, hb⟩
  case round =>
    clear hA hC hb
    obtain ⟨k, hk, rfl, rfl, hA, hC, hb⟩ := hrel
    by_cases hlt : k < 4
    · have hj2 : (k : Int) < 4 := by omega
      have ca := hA.cell (j := k) (by rw [mixL_length]; exact hlt)
      rw [mixL_get hlt, if_neg (Nat.lt_irrefl k)] at ca
      have hf := hA.frozen k
      have hL := Lib.hid (mixL_set (S := s) (M := m) hlt)
      have AD : ∀ W, (callFunc 32 #[.int .u64 (limb m k : Int), .int .u64 (cy 1 m 0 n k : Int), .int .u64 0]).run Tryd.prog W = .ok (.value (.tuple #[.int .u64 (limb s k : Int), .int .u64 (cy 1 m 0 n (k + 1) : Int)])) W := fun W => by
        have := run_Add64 (limb m k) (cy 1 m 0 n k) 0 (by omega) W
        rw [(LS.out k).1, (LS.out k).2] at this
        exact this
      generalize limb s k = x at *
      generalize limb m k = y at *
      generalize cy 1 m 0 n k = c at *
      generalize hc' : cy 1 m 0 n (k + 1) = c' at *
      have HC := Lib.hid hc'
      clear hc'
      go_wp2
      go_roundw
      case rel => exact ⟨k + 1, by omega, by go_num, by rw [HC.out], by rw [← hL.out]; exact hA.set k x, hC.setOther _ _ (by simp), hb.setCell (p := ⟨w.heap.size, k, none⟩) (Nat.le_refl _) _⟩
      case measure => simp [intOf]; omega
    · rw [show (k : Int) = 4 by omega]
      obtain rfl : k = 4 := by omega
      rw [lims_mix4] at hA
      go_wp2_with (first
        | (with_reducible refine wpList_load_n rfl 24 (.tmp 2) rfl w.heap.size rfl (lims s) 4 hA rfl Tryd.underlying24 Tryd.infoFe ?_)
        | (with_reducible refine wpList_store_n rfl 24 (.tmp 4) (.tmp 20) rfl (w.heap.size + 1) (lims s) 4 rfl rfl rfl (lims 0) hC Tryd.infoFe rfl w.heap.size w hb (by omega) ?_; intro w7 Hg _ _ hb7))
      exact bodyPost_ret (results_cell_row rfl _ _ _ _ _ _ _ rfl Hg Tryd.underlying24 rfl (by rw [Tryd.infoFe]; rfl)) rfl ⟨rfl, hb7⟩

theorem below_top {m a : Nat} (hm : m < big) (ha : a ≤ 144115188075855872) : (m + a * big) / 57896044618658097711785492504343953926634992332820282019728792003956564819968 = a * 2 + limb m 3 / 9223372036854775808 ∧ a * 2 + limb m 3 / 9223372036854775808 ≤ 288230376151711745 := by
  rw [limb3_high m hm]
  unfold big at *
  omega
theorem or_bit (a b : Nat) (ha : a < 9223372036854775808) (hb : b < 2) : bits .or .u64 ((a * 2 : Nat) : Int) (b : Int) = ((a * 2 + b : Nat) : Int) := by
  have h := bits_or_u64_nat (a * 2) b (by omega) (by omega)
  have e : a * 2 ||| b = a * 2 + b := by
    have := Nat.two_pow_add_eq_or_of_lt (i := 1) (b := b) (by omega) a
    rw [Nat.mul_comm a 2]; exact this.symm
  rw [e] at h
  exact h
theorem and_low (a : Nat) (ha : a < 18446744073709551616) : bits .and .u64 (a : Int) 9223372036854775807 = ((a % 9223372036854775808 : Nat) : Int) := by
  have h := bits_and_u64_nat a 9223372036854775807 ha (by omega)
  have e : a &&& 9223372036854775807 = a % 9223372036854775808 := Nat.and_two_pow_sub_one_eq_mod a 63
  rw [e] at h
  exact h

set_option maxRecDepth 100000 in
set_option maxHeartbeats 1000000 in
theorem below_any (m a : Nat) (w : World) (hm : m < big) (ha : a ≤ 144115188075855872) :
    Calls Tryd.prog 33 #[fev m, .int .u64 (a : Int)] w (GaveF w (toF (m + a * big)).val) := by
  obtain ⟨hA, hC, hb, hsz⟩ := fe_start2 w m 0 _ #[.int .u64 0, .int .u64 0, .int .u64 0, .int .u64 0] rfl (by kernel_rfl)
  have ca := hA.cell (j := 3) (by rw [lims_length]; omega)
  rw [lims_get _ (by omega)] at ca
  have hf := hA.frozen 3
  obtain ⟨ht, ht2⟩ := below_top hm ha
  have hx := limb_lt m 3
  have HB := Lib.hid (limb3_low m)
  rw [fev_eq]
  generalize limb m 3 = x at *
  obtain ⟨xh, hxh⟩ : ∃ xh, xh = x / 9223372036854775808 := ⟨_, rfl⟩
  obtain ⟨y, hy⟩ : ∃ y, y = x % 9223372036854775808 := ⟨_, rfl⟩
  obtain ⟨t, hT⟩ : ∃ t, t = a * 2 + xh := ⟨_, rfl⟩
  rw [← hy] at HB
  rw [← hxh, ← hT] at ht ht2
  have w0 : (x : Int) / 9223372036854775808 = (xh : Int) := by omega
  have w1 : IntKind.u64.wrap ((a : Int) * 2) = ((a * 2 : Nat) : Int) := by rw [IntKind.wrap_u64]; omega
  have w2 : bits .or .u64 ((a * 2 : Nat) : Int) (xh : Int) = (t : Int) := by rw [hT]; exact or_bit a _ (by omega) (by omega)
  have w3 : bits .and .u64 (x : Int) 9223372036854775807 = (y : Int) := by rw [hy]; exact and_low x hx
  generalize a * 2 = a2 at *
  obtain ⟨n1, hn1⟩ : ∃ n1, n1 = 19 * t := ⟨_, rfl⟩
  have w4 : IntKind.u64.wrap (19 * (t : Int)) = (n1 : Int) := by rw [IntKind.wrap_u64]; omega
  have hn1b : n1 < 18446744073709551616 := by omega
  obtain ⟨m1, hm1⟩ : ∃ m1, m1 = m % 57896044618658097711785492504343953926634992332820282019728792003956564819968 := ⟨_, rfl⟩
  rw [← hm1] at HB
  have h2 := two255 m a
  rw [ht, ← hm1, ← hn1] at h2
  have hr : m1 + n1 < 115792089237316195423570985008687907853269984665640564039457584007913129639898 := by omega
  have PL : Hid (∀ (i j : Nat) W, j < 18446744073709551616 → Calls Tryd.prog 45 #[.agg ((lims i).map nv).toArray, .int .u64 (j : Int)] W fun e w' => e = .returned (.agg ((lims (i + j)).map nv).toArray) ∧ Below W.heap.size W w') := Lib.hid fun i j W hj => plus_any i j W hj
  have P19 : Hid (∀ (i : Nat) W, Calls Tryd.prog 45 #[.agg ((lims i).map nv).toArray, .int .u64 19] W fun e w' => e = .returned (.agg ((lims (i + 19)).map nv).toArray) ∧ Below W.heap.size W w') := Lib.hid fun i W => plus_any i 19 W (by omega)
  rw [← h2]
  clear h2 ht ht2 hxh hy hT hn1 hx hm1
  have hb19 : m1 + n1 + 19 < big := by unfold big; omega
  have hq := limb3_high _ hb19
  have hz := limb_lt (m1 + n1 + 19) 3
  have HZ := Lib.hid (limb3_low (m1 + n1 + 19))
  have Hyes := Lib.hid (@below_yes (m1 + n1))
  have Hno := Lib.hid (fun h => @below_no (m1 + n1) h hr)
  have HP := PL.out m1 n1
  generalize m1 + n1 = r at *
  generalize hz2 : limb (r + 19) 3 = z at *
  obtain ⟨y2, hy2⟩ : ∃ y2, y2 = z % 9223372036854775808 := ⟨_, rfl⟩
  have w5 : bits .and .u64 (z : Int) 9223372036854775807 = (y2 : Int) := by rw [hy2]; exact and_low z hz
  have HP2 : Hid (∀ W, Calls Tryd.prog 45 #[.agg ((lims m1).map nv).toArray, .int .u64 (n1 : Int)] W fun e w' => e = .returned (.agg ((lims r).map nv).toArray) ∧ Below W.heap.size W w') := Lib.hid fun W => HP W hn1b
  have HZ2 := HZ
  rw [← hy2] at HZ2
  clear HP PL HZ hb19 hr hn1b hy2
  go_enter Tryd.func33, Tryd.ntmps33
  go_upto_region 1 with (fail)
  generalize (w.alloc (.cells ((lims m).map nv).toArray 24)).alloc (.cells #[.int .u64 0, .int .u64 0, .int .u64 0, .int .u64 0] 24) = wv at *
  have hA1 := hA.set 3 y
  rw [HB.out] at hA1
  have hC1 := hC.setOther ⟨w.heap.size, 3, none⟩ (.int .u64 (y : Int)) (by simp)
  have hb1 := hb.setCell (p := ⟨w.heap.size, 3, none⟩) (Nat.le_refl _) (.int .u64 (y : Int))
  go_upto_region 5 with (first
    | (with_reducible refine wpList_load_n rfl 24 (.tmp 2) rfl w.heap.size rfl (lims m1) 4 hA1 rfl Tryd.underlying24 Tryd.infoFe ?_)
    | (go_at_call 45
       with_reducible refine (HP2.out _).mono ?_
       rintro e w3 ⟨rfl, hb3⟩
       have hA3 := hA1.keep hb3 hA1.lt
       have hC3 := hC1.keep hb3 hC1.lt
       have b3 := hb1.trans (hb3.mono hb1.size))
    | (with_reducible refine wpList_store_n rfl 24 (.tmp 2) (.tmp 20) rfl w.heap.size (lims r) 4 rfl rfl rfl (lims m1) hA3 Tryd.infoFe rfl w.heap.size w b3 (Nat.le_refl _) ?_
       intro w4 hA4 o4 s4 b4
       have hC4 := hC3.oth o4 (by omega)
       clear s4)
    | (with_reducible refine wpList_load_n rfl 24 (.tmp 2) rfl w.heap.size rfl (lims r) 4 hA4 rfl Tryd.underlying24 Tryd.infoFe ?_)
    | (go_at_call 45
       with_reducible refine (P19.out _ _).mono ?_
       rintro e w5 ⟨rfl, hb5⟩
       have hA5 := hA4.keep hb5 hA4.lt
       have hC5 := hC4.keep hb5 hC4.lt
       have b5 := b4.trans (hb5.mono b4.size)
       obtain ⟨z5, _, sz5⟩ := fe_start w5 0 #[.int .u64 0, .int .u64 0, .int .u64 0, .int .u64 0] (by kernel_rfl)
       have b5a := b5.alloc b5.size (.cells #[.int .u64 0, .int .u64 0, .int .u64 0, .int .u64 0] 24)
       have hA5a := hA5.alloc (.cells #[.int .u64 0, .int .u64 0, .int .u64 0, .int .u64 0] 24)
       have hC5a := hC5.alloc (.cells #[.int .u64 0, .int .u64 0, .int .u64 0, .int .u64 0] 24)
       have l5 := hC5.lt)
    | (with_reducible refine wpList_store_n rfl 24 (.tmp 6) (.tmp 22) rfl w5.heap.size (lims (r + 19)) 4 rfl rfl rfl (lims 0) (by with_unfolding_all exact z5) Tryd.infoFe rfl w.heap.size w (by with_unfolding_all exact b5a) (by omega) ?_
       intro w6 hL o6 s6 b6
       have hA6 : HoldsN w6 24 w.heap.size (lims r) := (o6 _ (by omega)).trans (by with_unfolding_all exact hA5a)
       have hC6 : HoldsN w6 24 (w.heap.size + 1) (lims 0) := (o6 _ (by omega)).trans (by with_unfolding_all exact hC5a)
       clear s6)
    | fail)
  have cz := hL.cell (j := 3) (by rw [lims_length]; omega)
  rw [lims_get _ (by omega), hz2] at cz
  have fz := hL.frozen 3
  clear hA hC hb hsz hf ca hA1 hC1 hb1 hA3 hC3 hb3 b3 hA4 hC4 o4 b4 hA5 hC5 hb5 b5 z5 sz5 b5a hA5a hC5a o6 HP2 P19
  by_cases h : r + 19 < 57896044618658097711785492504343953926634992332820282019728792003956564819968
  · have e0 : ((z : Int) / 9223372036854775808 == 0) = true := by rw [beq_iff_eq]; omega
    go_wp2_with (first
      | (with_reducible refine wpList_load_n rfl 24 (.tmp 2) rfl w.heap.size rfl (lims r) 4 hA6 rfl Tryd.underlying24 Tryd.infoFe ?_)
      | (with_reducible refine wpList_store_n rfl 24 (.tmp 4) (.tmp 27) rfl (w.heap.size + 1) (lims r) 4 rfl rfl rfl (lims 0) hC6 Tryd.infoFe rfl w.heap.size w b6 (by omega) ?_; intro w7 Hg _ _ hb7)
      | fail)
    exact bodyPost_ret (results_cell_row rfl _ _ _ _ _ _ _ rfl Hg Tryd.underlying24 rfl (by rw [Tryd.infoFe]; rfl)) rfl ⟨by rw [Hyes.out h]; rfl, hb7⟩
  · have e0 : ((z : Int) / 9223372036854775808 == 0) = false := by rw [beq_eq_false_iff_ne]; omega
    have Hn := Lib.hid (Hno.out h)
    clear Hno
    have hL7 := hL.set 3 y2
    rw [HZ2.out] at hL7
    have hC7 := hC6.setOther ⟨w5.heap.size, 3, none⟩ (.int .u64 (y2 : Int)) (by simp; omega)
    have b7 := b6.setCell (p := ⟨w5.heap.size, 3, none⟩) (by simp; omega) (.int .u64 (y2 : Int))
    generalize (r + 19) % 57896044618658097711785492504343953926634992332820282019728792003956564819968 = v at *
    go_wp2_with (first
      | (with_reducible refine wpList_load_n rfl 24 (.tmp 6) rfl w5.heap.size rfl (lims v) 4 hL7 rfl Tryd.underlying24 Tryd.infoFe ?_)
      | (with_reducible refine wpList_store_n rfl 24 (.tmp 4) (.tmp 32) rfl (w.heap.size + 1) (lims v) 4 rfl rfl rfl (lims 0) hC7 Tryd.infoFe rfl w.heap.size w b7 (by omega) ?_; intro w8 Hg _ _ hb8)
      | fail)
    exact bodyPost_ret (results_cell_row rfl _ _ _ _ _ _ _ rfl Hg Tryd.underlying24 rfl (by rw [Tryd.infoFe]; rfl)) rfl ⟨by rw [Hn.out]; rfl, hb8⟩
end Go.Proofs.YtcidbiceeinglaaDoor
