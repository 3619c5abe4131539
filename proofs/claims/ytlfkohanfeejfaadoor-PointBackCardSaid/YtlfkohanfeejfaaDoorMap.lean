/-
  The program's numbers modulo P: a number, and a small one, added; what is below P.
  The program's numbers modulo P: sums.
  The program's numbers modulo P: differences; what is below 0. The program's two variables.
  The program's numbers modulo P: a whole product, limb by limb.
-/
import Derived.Deep.DeepCutAuto
import Derived.Test.YtlfkohanfeejfaaDoorMae
import Derived.Test.YtlfkohanfeejfaaDoorMao
namespace Go.Proofs.YtlfkohanfeejfaaDoor
open Go.RowKit

set_option maxRecDepth 100000 in
set_option maxHeartbeats 1000000 in
theorem plus_any (m n : Nat) (w : World) (_ : n < 18446744073709551616) :
    Calls Tryd.prog 77 #[fev m, .int .u64 (n : Int)] w (GaveF w (m + n)) := by
  obtain ⟨hA, hC, hb, _⟩ := fe_start2 w m 0 _ #[.int .u64 0, .int .u64 0, .int .u64 0, .int .u64 0] rfl (by kernel_rfl)
  have hstart := Lib.hid (cy_zero 1 m 0 n)
  have LS : Hid (∀ k, (limb m k + cy 1 m 0 n k + 0) % 18446744073709551616 = limb (m + n) k ∧ (limb m k + cy 1 m 0 n k + 0) / 18446744073709551616 = cy 1 m 0 n (k + 1)) := Lib.hid fun k => lin_small m n k
  generalize m + n = s at *
  rw [fev_eq]
  go_enter Tryd.func77, Tryd.ntmps77
  go_wp2
  go_loopw [1, 5, 6] (fun vn _ vi wr => ∃ k : Nat, k ≤ 4 ∧ vi = .int .i64 (k : Int) ∧ vn = .int .u64 (cy 1 m 0 n k : Int) ∧ HoldsN wr 24 w.heap.size (mixL 4 s m k) ∧ HoldsN wr 24 (w.heap.size + 1) (lims 0) ∧ Below w.heap.size w wr)
    (fun _ _ vi _ => 4 - (intOf vi).toNat)
  case atStart => exact ⟨0, Nat.zero_le _, rfl, by rw [hstart.out], hA, hC, hb⟩
  case round =>
    clear hA hC hb
    obtain ⟨k, hk, rfl, rfl, hA, hC, hb⟩ := hrel
    by_cases hlt : k < 4
    · have hj2 : (k : Int) < 4 := by omega
      have ca := hA.cell (j := k) (by rw [mixL_length]; exact hlt)
      rw [mixL_get hlt, if_neg (Nat.lt_irrefl k)] at ca
      have hf := hA.frozen k
      have hL := Lib.hid (mixL_set (S := s) (M := m) hlt)
      have AD : ∀ W, (callFunc 50 #[.int .u64 (limb m k : Int), .int .u64 (cy 1 m 0 n k : Int), .int .u64 0]).run Tryd.prog W = .ok (.value (.tuple #[.int .u64 (limb s k : Int), .int .u64 (cy 1 m 0 n (k + 1) : Int)])) W := fun W => by
        have := run_Add64 (limb m k) (cy 1 m 0 n k) 0 (by omega) W
        rw [(LS.out k).1, (LS.out k).2] at this
        exact this
      generalize limb s k = x at *
      generalize limb m k = y at *
      generalize cy 1 m 0 n k = c at *
      generalize hc' : cy 1 m 0 n (k + 1) = c' at *
      have HC := Lib.hid hc'
      clear hc'
      go_wp2
      go_roundw
      case rel => exact ⟨k + 1, by omega, by go_num, by rw [HC.out], by rw [← hL.out]; exact hA.set k x, hC.setOther _ _ (by simp), hb.setCell (p := ⟨w.heap.size, k, none⟩) (Nat.le_refl _) _⟩
      case measure => simp [intOf]; omega
    · rw [show (k : Int) = 4 by omega]
      obtain rfl : k = 4 := by omega
      rw [lims_mix4] at hA
      go_wp2_with (first
        | (with_reducible refine wpList_load_n rfl 24 (.tmp 2) rfl w.heap.size rfl (lims s) 4 hA rfl Tryd.underlying24 Tryd.infoFe ?_)
        | (with_reducible refine wpList_store_n rfl 24 (.tmp 4) (.tmp 20) rfl (w.heap.size + 1) (lims s) 4 rfl rfl rfl (lims 0) hC Tryd.infoFe rfl w.heap.size w hb (by omega) ?_; intro w7 Hg _ _ hb7))
      exact bodyPost_ret (results_cell_row rfl _ _ _ _ _ _ _ rfl Hg Tryd.underlying24 rfl (by rw [Tryd.infoFe]; rfl)) rfl ⟨rfl, hb7⟩

theorem below_top {m a : Nat} (hm : m < big) (ha : a ≤ 144115188075855872) : (m + a * big) / 57896044618658097711785492504343953926634992332820282019728792003956564819968 = a * 2 + limb m 3 / 9223372036854775808 ∧ a * 2 + limb m 3 / 9223372036854775808 ≤ 288230376151711745 := by
  rw [limb3_high m hm]
  unfold big at *
  omega
theorem or_bit (a b : Nat) (ha : a < 9223372036854775808) (hb : b < 2) : bits .or .u64 ((a * 2 : Nat) : Int) (b : Int) = ((a * 2 + b : Nat) : Int) := by
  have h := bits_or_u64_nat (a * 2) b (by omega) (by omega)
  have e : a * 2 ||| b = a * 2 + b := by
    have := Nat.two_pow_add_eq_or_of_lt (i := 1) (b := b) (by omega) a
    rw [Nat.mul_comm a 2]; exact this.symm
  rw [e] at h
  exact h
theorem and_low (a : Nat) (ha : a < 18446744073709551616) : bits .and .u64 (a : Int) 9223372036854775807 = ((a % 9223372036854775808 : Nat) : Int) := by
  have h := bits_and_u64_nat a 9223372036854775807 ha (by omega)
  have e : a &&& 9223372036854775807 = a % 9223372036854775808 := Nat.and_two_pow_sub_one_eq_mod a 63
  rw [e] at h
  exact h

set_option maxRecDepth 100000 in
set_option maxHeartbeats 1000000 in
theorem below_any (m a : Nat) (w : World) (hm : m < big) (ha : a ≤ 144115188075855872) :
    Calls Tryd.prog 56 #[fev m, .int .u64 (a : Int)] w (GaveF w (toF (m + a * big)).val) := by
  obtain ⟨hA, hC, hb, hsz⟩ := fe_start2 w m 0 _ #[.int .u64 0, .int .u64 0, .int .u64 0, .int .u64 0] rfl (by kernel_rfl)
  have ca := hA.cell (j := 3) (by rw [lims_length]; omega)
  rw [lims_get _ (by omega)] at ca
  have hf := hA.frozen 3
  obtain ⟨ht, ht2⟩ := below_top hm ha
  have hx := limb_lt m 3
  have HB := Lib.hid (limb3_low m)
  rw [fev_eq]
  generalize limb m 3 = x at *
  obtain ⟨xh, hxh⟩ : ∃ xh, xh = x / 9223372036854775808 := ⟨_, rfl⟩
  obtain ⟨y, hy⟩ : ∃ y, y = x % 9223372036854775808 := ⟨_, rfl⟩
  obtain ⟨t, hT⟩ : ∃ t, t = a * 2 + xh := ⟨_, rfl⟩
  rw [← hy] at HB
  rw [← hxh, ← hT] at ht ht2
  have w0 : (x : Int) / 9223372036854775808 = (xh : Int) := by omega
  have w1 : IntKind.u64.wrap ((a : Int) * 2) = ((a * 2 : Nat) : Int) := by rw [IntKind.wrap_u64]; omega
  have w2 : bits .or .u64 ((a * 2 : Nat) : Int) (xh : Int) = (t : Int) := by rw [hT]; exact or_bit a _ (by omega) (by omega)
  have w3 : bits .and .u64 (x : Int) 9223372036854775807 = (y : Int) := by rw [hy]; exact and_low x hx
  generalize a * 2 = a2 at *
  obtain ⟨n1, hn1⟩ : ∃ n1, n1 = 19 * t := ⟨_, rfl⟩
  have w4 : IntKind.u64.wrap (19 * (t : Int)) = (n1 : Int) := by rw [IntKind.wrap_u64]; omega
  have hn1b : n1 < 18446744073709551616 := by omega
  obtain ⟨m1, hm1⟩ : ∃ m1, m1 = m % 57896044618658097711785492504343953926634992332820282019728792003956564819968 := ⟨_, rfl⟩
  rw [← hm1] at HB
  have h2 := two255 m a
  rw [ht, ← hm1, ← hn1] at h2
  have hr : m1 + n1 < 115792089237316195423570985008687907853269984665640564039457584007913129639898 := by omega
  have PL : Hid (∀ (i j : Nat) W, j < 18446744073709551616 → Calls Tryd.prog 77 #[.agg ((lims i).map nv).toArray, .int .u64 (j : Int)] W fun e w' => e = .returned (.agg ((lims (i + j)).map nv).toArray) ∧ Below W.heap.size W w') := Lib.hid fun i j W hj => plus_any i j W hj
  have P19 : Hid (∀ (i : Nat) W, Calls Tryd.prog 77 #[.agg ((lims i).map nv).toArray, .int .u64 19] W fun e w' => e = .returned (.agg ((lims (i + 19)).map nv).toArray) ∧ Below W.heap.size W w') := Lib.hid fun i W => plus_any i 19 W (by omega)
  rw [← h2]
  clear h2 ht ht2 hxh hy hT hn1 hx hm1
  have hb19 : m1 + n1 + 19 < big := by unfold big; omega
  have hq := limb3_high _ hb19
  have hz := limb_lt (m1 + n1 + 19) 3
  have HZ := Lib.hid (limb3_low (m1 + n1 + 19))
  have Hyes := Lib.hid (@below_yes (m1 + n1))
  have Hno := Lib.hid (fun h => @below_no (m1 + n1) h hr)
  have HP := PL.out m1 n1
  generalize m1 + n1 = r at *
  generalize hz2 : limb (r + 19) 3 = z at *
  obtain ⟨y2, hy2⟩ : ∃ y2, y2 = z % 9223372036854775808 := ⟨_, rfl⟩
  have w5 : bits .and .u64 (z : Int) 9223372036854775807 = (y2 : Int) := by rw [hy2]; exact and_low z hz
  have HP2 : Hid (∀ W, Calls Tryd.prog 77 #[.agg ((lims m1).map nv).toArray, .int .u64 (n1 : Int)] W fun e w' => e = .returned (.agg ((lims r).map nv).toArray) ∧ Below W.heap.size W w') := Lib.hid fun W => HP W hn1b
  have HZ2 := HZ
  rw [← hy2] at HZ2
  clear HP PL HZ hb19 hr hn1b hy2
  go_enter Tryd.func56, Tryd.ntmps56
  go_upto_region 1 with (fail)
  generalize (w.alloc (.cells ((lims m).map nv).toArray 24)).alloc (.cells #[.int .u64 0, .int .u64 0, .int .u64 0, .int .u64 0] 24) = wv at *
  have hA1 := hA.set 3 y
  rw [HB.out] at hA1
  have hC1 := hC.setOther ⟨w.heap.size, 3, none⟩ (.int .u64 (y : Int)) (by simp)
  have hb1 := hb.setCell (p := ⟨w.heap.size, 3, none⟩) (Nat.le_refl _) (.int .u64 (y : Int))
  go_upto_region 5 with (first
    | (with_reducible refine wpList_load_n rfl 24 (.tmp 2) rfl w.heap.size rfl (lims m1) 4 hA1 rfl Tryd.underlying24 Tryd.infoFe ?_)
    | (go_at_call 77
       with_reducible refine (HP2.out _).mono ?_
       rintro e w3 ⟨rfl, hb3⟩
       have hA3 := hA1.keep hb3 hA1.lt
       have hC3 := hC1.keep hb3 hC1.lt
       have b3 := hb1.trans (hb3.mono hb1.size))
    | (with_reducible refine wpList_store_n rfl 24 (.tmp 2) (.tmp 20) rfl w.heap.size (lims r) 4 rfl rfl rfl (lims m1) hA3 Tryd.infoFe rfl w.heap.size w b3 (Nat.le_refl _) ?_
       intro w4 hA4 o4 s4 b4
       have hC4 := hC3.oth o4 (by omega)
       clear s4)
    | (with_reducible refine wpList_load_n rfl 24 (.tmp 2) rfl w.heap.size rfl (lims r) 4 hA4 rfl Tryd.underlying24 Tryd.infoFe ?_)
    | (go_at_call 77
       with_reducible refine (P19.out _ _).mono ?_
       rintro e w5 ⟨rfl, hb5⟩
       have hA5 := hA4.keep hb5 hA4.lt
       have hC5 := hC4.keep hb5 hC4.lt
       have b5 := b4.trans (hb5.mono b4.size)
       obtain ⟨z5, _, sz5⟩ := fe_start w5 0 #[.int .u64 0, .int .u64 0, .int .u64 0, .int .u64 0] (by kernel_rfl)
       have b5a := b5.alloc b5.size (.cells #[.int .u64 0, .int .u64 0, .int .u64 0, .int .u64 0] 24)
       have hA5a := hA5.alloc (.cells #[.int .u64 0, .int .u64 0, .int .u64 0, .int .u64 0] 24)
       have hC5a := hC5.alloc (.cells #[.int .u64 0, .int .u64 0, .int .u64 0, .int .u64 0] 24)
       have l5 := hC5.lt)
    | (with_reducible refine wpList_store_n rfl 24 (.tmp 6) (.tmp 22) rfl w5.heap.size (lims (r + 19)) 4 rfl rfl rfl (lims 0) (by with_unfolding_all exact z5) Tryd.infoFe rfl w.heap.size w (by with_unfolding_all exact b5a) (by omega) ?_
       intro w6 hL o6 s6 b6
       have hA6 : HoldsN w6 24 w.heap.size (lims r) := (o6 _ (by omega)).trans (by with_unfolding_all exact hA5a)
       have hC6 : HoldsN w6 24 (w.heap.size + 1) (lims 0) := (o6 _ (by omega)).trans (by with_unfolding_all exact hC5a)
       clear s6)
    | fail)
  have cz := hL.cell (j := 3) (by rw [lims_length]; omega)
  rw [lims_get _ (by omega), hz2] at cz
  have fz := hL.frozen 3
  clear hA hC hb hsz hf ca hA1 hC1 hb1 hA3 hC3 hb3 b3 hA4 hC4 o4 b4 hA5 hC5 hb5 b5 z5 sz5 b5a hA5a hC5a o6 HP2 P19
  by_cases h : r + 19 < 57896044618658097711785492504343953926634992332820282019728792003956564819968
  · have e0 : ((z : Int) / 9223372036854775808 == 0) = true := by rw [beq_iff_eq]; omega
    go_wp2_with (first
      | (with_reducible refine wpList_load_n rfl 24 (.tmp 2) rfl w.heap.size rfl (lims r) 4 hA6 rfl Tryd.underlying24 Tryd.infoFe ?_)
      | (with_reducible refine wpList_store_n rfl 24 (.tmp 4) (.tmp 27) rfl (w.heap.size + 1) (lims r) 4 rfl rfl rfl (lims 0) hC6 Tryd.infoFe rfl w.heap.size w b6 (by omega) ?_; intro w7 Hg _ _ hb7)
      | fail)
    exact bodyPost_ret (results_cell_row rfl _ _ _ _ _ _ _ rfl Hg Tryd.underlying24 rfl (by rw [Tryd.infoFe]; rfl)) rfl ⟨by rw [Hyes.out h]; rfl, hb7⟩
  · have e0 : ((z : Int) / 9223372036854775808 == 0) = false := by rw [beq_eq_false_iff_ne]; omega
    have Hn := Lib.hid (Hno.out h)
    clear Hno
    have hL7 := hL.set 3 y2
    rw [HZ2.out] at hL7
    have hC7 := hC6.setOther ⟨w5.heap.size, 3, none⟩ (.int .u64 (y2 : Int)) (by simp; omega)
    have b7 := b6.setCell (p := ⟨w5.heap.size, 3, none⟩) (by simp; omega) (.int .u64 (y2 : Int))
    generalize (r + 19) % 57896044618658097711785492504343953926634992332820282019728792003956564819968 = v at *
    go_wp2_with (first
      | (with_reducible refine wpList_load_n rfl 24 (.tmp 6) rfl w5.heap.size rfl (lims v) 4 hL7 rfl Tryd.underlying24 Tryd.infoFe ?_)
      | (with_reducible refine wpList_store_n rfl 24 (.tmp 4) (.tmp 32) rfl (w.heap.size + 1) (lims v) 4 rfl rfl rfl (lims 0) hC7 Tryd.infoFe rfl w.heap.size w b7 (by omega) ?_; intro w8 Hg _ _ hb8)
      | fail)
    exact bodyPost_ret (results_cell_row rfl _ _ _ _ _ _ _ rfl Hg Tryd.underlying24 rfl (by rw [Tryd.infoFe]; rfl)) rfl ⟨by rw [Hn.out]; rfl, hb8⟩
end Go.Proofs.YtlfkohanfeejfaaDoor

namespace Go.Proofs.YtlfkohanfeejfaaDoor
open Go.RowKit

/-- A number that stands in four limbs, and how often 2^256 goes into it. -/
theorem toF_split (s : Nat) : toF (s % big + s / big * big) = toF s := by rw [Nat.mul_comm, Nat.mod_add_div]
theorem below_of (s : Nat) (c : Nat) (hs : s / big = c) (hc : c ≤ 144115188075855872) (w : World) :
    Calls Tryd.prog 56 #[.agg ((lims s).map nv).toArray, .int .u64 (c : Int)] w fun e w' => e = .returned (.agg ((lims (toF s).val).map nv).toArray) ∧ Below w.heap.size w w' := by
  have h := below_any (s % big) c w (Nat.mod_lt _ (by decide)) hc
  rw [← hs, toF_split, fev_eq, ← lims_mod, hs] at h
  exact h
theorem sum_big {m n : Nat} (hm : m < big) (hn : n < big) : (m + n) / big = cy 1 m n 0 4 ∧ cy 1 m n 0 4 ≤ 1 := by
  refine ⟨?_, cy_bit (by omega) 4⟩
  rw [cy_whole (by rw [big_pow]; exact hm) (by rw [big_pow]; exact hn), big_pow, Nat.one_mul, Nat.add_zero]

set_option maxRecDepth 100000 in
set_option maxHeartbeats 1000000 in
theorem Add_any (m n : Nat) (w : World) (hm : m < big) (hn : n < big) :
    Calls Tryd.prog 46 #[fev m, fev n] w (GaveF w (toF m + toF n).val) := by
  obtain ⟨hA, hB, hC, hb, hsz⟩ := fe_start3 w m n 0 _ _ #[.int .u64 0, .int .u64 0, .int .u64 0, .int .u64 0] rfl rfl (by kernel_rfl)
  have LS : Hid (∀ k, (limb m k + limb n k + cy 1 m n 0 k) % 18446744073709551616 = limb (m + n) k ∧ (limb m k + limb n k + cy 1 m n 0 k) / 18446744073709551616 = cy 1 m n 0 (k + 1)) := Lib.hid fun k => lin_add m n k
  have hstart := Lib.hid (cy_zero 1 m n 0)
  have hbit : Hid (∀ k, cy 1 m n 0 k ≤ 1) := Lib.hid fun k => cy_bit (by omega) k
  obtain ⟨h4, h41⟩ := sum_big hm hn
  have BL : Hid (∀ W, Calls Tryd.prog 56 #[.agg ((lims (m + n)).map nv).toArray, .int .u64 (cy 1 m n 0 4 : Int)] W fun e w' => e = .returned (.agg ((lims (toF m + toF n).val).map nv).toArray) ∧ Below W.heap.size W w') := Lib.hid fun W => by rw [← toF_add]; exact below_of _ _ h4 (by omega) W
  clear h4 h41 hm hn
  generalize m + n = s at *
  generalize (toF m + toF n).val = v at *
  rw [fev_eq, fev_eq]
  go_enter Tryd.func46, Tryd.ntmps46
  go_wp2
  go_loopw [5, 6, 7] (fun vc _ vi wr => ∃ k : Nat, k ≤ 4 ∧ vi = .int .i64 (k : Int) ∧ vc = .int .u64 (cy 1 m n 0 k : Int) ∧ HoldsN wr 24 w.heap.size (mixL 4 s m k) ∧ HoldsN wr 24 (w.heap.size + 1) (lims n) ∧ HoldsN wr 24 (w.heap.size + 2) (lims 0) ∧ Below w.heap.size w wr)
    (fun _ _ vi _ => 4 - (intOf vi).toNat)
  case atStart => exact ⟨0, Nat.zero_le _, rfl, by rw [hstart.out]; rfl, hA, hB, hC, hb⟩
  case round =>
    clear hA hB hC hb
    obtain ⟨k, hk, rfl, rfl, hA, hB, hC, hb⟩ := hrel
    by_cases hlt : k < 4
    · have hj2 : (k : Int) < 4 := by omega
      have ca := hA.cell (j := k) (by rw [mixL_length]; exact hlt)
      have cb := hB.cell (j := k) (by rw [lims_length]; exact hlt)
      rw [mixL_get hlt, if_neg (Nat.lt_irrefl k)] at ca
      rw [lims_get _ hlt] at cb
      have hf := hA.frozen k
      have hL := Lib.hid (mixL_set (S := s) (M := m) hlt)
      have AD : ∀ W, (callFunc 50 #[.int .u64 (limb m k : Int), .int .u64 (limb n k : Int), .int .u64 (cy 1 m n 0 k : Int)]).run Tryd.prog W = .ok (.value (.tuple #[.int .u64 (limb s k : Int), .int .u64 (cy 1 m n 0 (k + 1) : Int)])) W := fun W => by
        have := run_Add64 (limb m k) (limb n k) (cy 1 m n 0 k) (hbit.out k) W
        rw [(LS.out k).1, (LS.out k).2] at this
        exact this
      generalize limb s k = x at *
      generalize limb m k = y at *
      generalize limb n k = z at *
      generalize cy 1 m n 0 k = c at *
      generalize hc' : cy 1 m n 0 (k + 1) = c' at *
      have HC := Lib.hid hc'
      clear hc'
      go_wp2
      go_region
      go_wp2
      go_roundw
      case rel => exact ⟨k + 1, by omega, by go_num, by rw [HC.out], by rw [← hL.out]; exact (hA.drewN _).set k x, (hB.drewN _).setOther _ _ (by simp), (hC.drewN _).setOther _ _ (by simp), (below_drewN hb _).setCell (Nat.le_refl _) _⟩
      case measure => simp [intOf]; omega
    · rw [show (k : Int) = 4 by omega]
      obtain rfl : k = 4 := by omega
      rw [lims_mix4] at hA
      clear hB
      generalize cy 1 m n 0 4 = c at *
      go_wp2_with (first
        | (with_reducible refine wpList_load_n rfl 24 (.tmp 2) rfl w.heap.size rfl (lims s) 4 hA rfl Tryd.underlying24 Tryd.infoFe ?_)
        | (go_at_call 56
           with_reducible refine (BL.out _).mono ?_
           rintro e w3 ⟨rfl, hb3⟩
           have hC3 := hC.keep hb3 hC.lt
           have b3 := hb.trans (hb3.mono hb.size))
        | (with_reducible refine wpList_store_n rfl 24 (.tmp 4) (.tmp 26) rfl (w.heap.size + 2) (lims v) 4 rfl rfl rfl (lims 0) hC3 Tryd.infoFe rfl w.heap.size w b3 (by omega) ?_; intro w7 Hg _ _ hb7))
      exact bodyPost_ret (results_cell_row rfl _ _ _ _ _ _ _ rfl Hg Tryd.underlying24 rfl (by rw [Tryd.infoFe]; rfl)) rfl ⟨rfl, hb7⟩
end Go.Proofs.YtlfkohanfeejfaaDoor

namespace Go.Proofs.YtlfkohanfeejfaaDoor
open Go.RowKit

/-- P four times, less 2^256; a root of -1. -/
def FP4 : Nat := 115792089237316195423570985008687907853269984665640564039457584007913129639860
def RM : Nat := 19681161376707505956807079304988542015446066515923890162744021073123829784752

/-- The program's first variable holds what its text lays in it. -/
def LaidP (W : World) : Prop := ∀ j, j < 4 → W.cell? ⟨1, j, none⟩ = some (.int .u64 (limb FP4 j : Int))
theorem LaidP.size {W : World} (h : LaidP W) : 1 + 1 ≤ W.heap.size := by
  have h1 := World.block_lt_of_cell? _ _ (h 0 (by omega))
  simp only at h1
  omega
theorem LaidP.keep {W W' : World} (h : LaidP W) {D : Nat} (hb : Below D W W') (hD : 1 + 1 ≤ D) : LaidP W' :=
  fun j hj => by rw [hb.cell (show 1 < D by omega)]; exact h j hj
/-- The program's variables hold what its text lays in them. -/
def LaidF (W : World) : Prop := LaidP W ∧ (∀ j, j < 4 → W.cell? ⟨2, j, none⟩ = some (.int .u64 (limb RM j : Int)))
theorem LaidF.p {W : World} (h : LaidF W) : LaidP W := h.1
theorem LaidF.size {W : World} (h : LaidF W) : max (1 + 1) (2 + 1) ≤ W.heap.size := by
  have h1 := h.1.size
  have h2 := World.block_lt_of_cell? _ _ (h.2 0 (by omega))
  simp only at h2
  omega
theorem LaidF.keep {W W' : World} (h : LaidF W) {D : Nat} (hb : Below D W W') (hD : max (1 + 1) (2 + 1) ≤ D) : LaidF W' :=
  ⟨h.1.keep hb (by omega), fun j hj => by rw [hb.cell (show 2 < D by omega)]; exact h.2 j hj⟩

def dif (n : Nat) : Nat := FP4 + big - n
theorem toF_dif {n : Nat} (m : Nat) (hn : n < big) : toF (m + dif n) = toF m - toF n := by
  have h : dif n + n = FP4 + big := by unfold dif FP4; omega
  have h1 : toF (dif n) + toF n = 0 := by
    rw [← toF_add, h, toF_zero]
    exact ⟨4, by decide⟩
  rw [toF_add]
  generalize toF (dif n) = x at *
  generalize toF n = y at *
  generalize toF m = z at *
  grind
theorem dif_big {m n : Nat} (hm : m < big) (hn : n < big) : (m + dif n) / big = 1 - bw FP4 n 4 + cy 1 m (dif n) 0 4 ∧ bw FP4 n 4 ≤ 1 ∧ cy 1 m (dif n) 0 4 ≤ 1 := by
  refine ⟨?_, bw_bit _ _ _, cy_bit (by omega) 4⟩
  have hb : FP4 < big := by decide
  unfold bw cy
  rw [big_pow, Nat.mod_eq_of_lt hb, Nat.mod_eq_of_lt hn, Nat.mod_eq_of_lt hm]
  unfold dif at *
  unfold big at *
  split <;> omega

set_option maxRecDepth 100000 in
set_option maxHeartbeats 1000000 in
theorem SubP_any (m n : Nat) (w : World) (hm : m < big) (hn : n < big) (L0 : LaidP w) :
    Calls Tryd.prog 45 #[fev m, fev n] w (GaveF w (toF m - toF n).val) := by
  obtain ⟨hA, hB, hC, hb, hsz⟩ := fe_start3 w m n 0 _ _ #[.int .u64 0, .int .u64 0, .int .u64 0, .int .u64 0] rfl rfl (by kernel_rfl)
  have LD : Hid (∀ k, k < 4 → (limb FP4 k + 18446744073709551616 - limb n k - bw FP4 n k) % 18446744073709551616 = limb (dif n) k ∧ (if limb FP4 k < limb n k + bw FP4 n k then 1 else 0) = bw FP4 n (k + 1)) := Lib.hid fun k hk => ⟨(dif_limb hn hk).symm, (bw_succ FP4 n k).symm⟩
  have hsz0 := L0.size
  have hbw : Hid (∀ k, bw FP4 n k ≤ 1) := Lib.hid fun k => bw_bit _ _ _
  have hbw0 : Hid (bw FP4 n 0 = 0) := Lib.hid (by unfold bw; rw [Nat.pow_zero, Nat.mod_one, Nat.mod_one]; rfl)
  obtain ⟨h4, h41, h42⟩ := dif_big hm hn
  have hd := toF_dif m hn
  generalize dif n = d at *
  have LS : Hid (∀ k, (limb m k + limb d k + cy 1 m d 0 k) % 18446744073709551616 = limb (m + d) k ∧ (limb m k + limb d k + cy 1 m d 0 k) / 18446744073709551616 = cy 1 m d 0 (k + 1)) := Lib.hid fun k => lin_add m d k
  have hstart := Lib.hid (cy_zero 1 m d 0)
  have hbit : Hid (∀ k, cy 1 m d 0 k ≤ 1) := Lib.hid fun k => cy_bit (by omega) k
  have BL : Hid (∀ W, Calls Tryd.prog 56 #[.agg ((lims (m + d)).map nv).toArray, .int .u64 ((1 - bw FP4 n 4 + cy 1 m d 0 4 : Nat) : Int)] W fun e w' => e = .returned (.agg ((lims (toF m - toF n).val).map nv).toArray) ∧ Below W.heap.size W w') := Lib.hid fun W => by rw [← hd]; exact below_of _ _ h4 (by omega) W
  have w4 : IntKind.u64.wrap (IntKind.u64.wrap (1 - (bw FP4 n 4 : Int)) + (cy 1 m d 0 4 : Int)) = ((1 - bw FP4 n 4 + cy 1 m d 0 4 : Nat) : Int) := by rw [IntKind.wrap_u64, IntKind.wrap_u64]; omega
  have W4 := Lib.hid w4
  clear h4 h41 h42 hd hm hn w4
  generalize m + d = s at *
  generalize (toF m - toF n).val = v at *
  rw [fev_eq, fev_eq]
  go_enter Tryd.func45, Tryd.ntmps45
  go_wp2
  go_loopw [5, 6, 7, 8] (fun vb vc _ vi wr => ∃ k : Nat, k ≤ 4 ∧ vi = .int .i64 (k : Int) ∧ vb = .int .u64 (bw FP4 n k : Int) ∧ vc = .int .u64 (cy 1 m d 0 k : Int) ∧ HoldsN wr 24 w.heap.size (mixL 4 s m k) ∧ HoldsN wr 24 (w.heap.size + 1) (mixL 4 d n k) ∧ HoldsN wr 24 (w.heap.size + 2) (lims 0) ∧ Below w.heap.size w wr)
    (fun _ _ _ vi _ => 4 - (intOf vi).toNat)
  case atStart => exact ⟨0, Nat.zero_le _, rfl, by rw [hbw0.out]; rfl, by rw [hstart.out]; rfl, hA, hB, hC, hb⟩
  case round =>
    clear hA hB hC hb
    obtain ⟨k, hk, rfl, rfl, rfl, hA, hB, hC, hb⟩ := hrel
    by_cases hlt : k < 4
    · have hj2 : (k : Int) < 4 := by omega
      have ca := hA.cell (j := k) (by rw [mixL_length]; exact hlt)
      have cb := hB.cell (j := k) (by rw [mixL_length]; exact hlt)
      rw [mixL_get hlt, if_neg (Nat.lt_irrefl k)] at ca cb
      have cp := (L0.keep hb hsz0) k hlt
      have hf := hA.frozen k
      have hg := hB.frozen k
      have hL := Lib.hid (mixL_set (S := s) (M := m) hlt)
      have hL2 := Lib.hid (mixL_set (S := d) (M := n) hlt)
      have AD : ∀ W, (callFunc 50 #[.int .u64 (limb m k : Int), .int .u64 (limb d k : Int), .int .u64 (cy 1 m d 0 k : Int)]).run Tryd.prog W = .ok (.value (.tuple #[.int .u64 (limb s k : Int), .int .u64 (cy 1 m d 0 (k + 1) : Int)])) W := fun W => by
        have := run_Add64 (limb m k) (limb d k) (cy 1 m d 0 k) (hbit.out k) W
        rw [(LS.out k).1, (LS.out k).2] at this
        exact this
      have SB : ∀ W, (callFunc 72 #[.int .u64 (limb FP4 k : Int), .int .u64 (limb n k : Int), .int .u64 (bw FP4 n k : Int)]).run Tryd.prog W = .ok (.value (.tuple #[.int .u64 (limb d k : Int), .int .u64 (bw FP4 n (k + 1) : Int)])) W := fun W => by
        have := run_Sub64 (limb FP4 k) (limb n k) (bw FP4 n k) (hbw.out k) W
        rw [(LD.out k hlt).1, (LD.out k hlt).2] at this
        exact this
      generalize limb s k = x at *
      generalize limb m k = y at *
      generalize limb n k = z at *
      generalize limb FP4 k = p at *
      generalize limb d k = q at *
      generalize cy 1 m d 0 k = c at *
      generalize hc' : cy 1 m d 0 (k + 1) = c' at *
      have HC := Lib.hid hc'
      clear hc'
      generalize bw FP4 n k = b at *
      generalize hb' : bw FP4 n (k + 1) = b' at *
      have HB := Lib.hid hb'
      clear hb'
      go_wp2
      go_region
      go_wp2
      go_region
      go_wp2
      go_roundw
      case rel => exact ⟨k + 1, by omega, by go_num, by rw [HB.out], by rw [HC.out], by rw [← hL.out]; exact (((hA.drewN _).setOther _ _ (by simp)).drewN _).set k x, by rw [← hL2.out]; exact (((hB.drewN _).set k q).drewN _).setOther _ _ (by simp), (((hC.drewN _).setOther _ _ (by simp)).drewN _).setOther _ _ (by simp), (below_drewN ((below_drewN hb _).setCell (p := ⟨w.heap.size + 1, k, none⟩) (Nat.le_succ _) _) _).setCell (p := ⟨w.heap.size, k, none⟩) (Nat.le_refl _) _⟩
      case measure => simp [intOf]; omega
    · rw [show (k : Int) = 4 by omega]
      obtain rfl : k = 4 := by omega
      rw [lims_mix4] at hA
      clear hB
      generalize bw FP4 n 4 = b at *
      generalize cy 1 m d 0 4 = c at *
      generalize (1 - b + c) = bc at *
      have w4 := W4.out
      go_wp2_with (first
        | (with_reducible refine wpList_load_n rfl 24 (.tmp 2) rfl w.heap.size rfl (lims s) 4 hA rfl Tryd.underlying24 Tryd.infoFe ?_)
        | (go_at_call 56
           with_reducible refine (BL.out _).mono ?_
           rintro e w3 ⟨rfl, hb3⟩
           have hC3 := hC.keep hb3 hC.lt
           have b3 := hb.trans (hb3.mono hb.size))
        | (with_reducible refine wpList_store_n rfl 24 (.tmp 4) (.tmp 43) rfl (w.heap.size + 2) (lims v) 4 rfl rfl rfl (lims 0) hC3 Tryd.infoFe rfl w.heap.size w b3 (by omega) ?_; intro w7 Hg _ _ hb7))
      exact bodyPost_ret (results_cell_row rfl _ _ _ _ _ _ _ rfl Hg Tryd.underlying24 rfl (by rw [Tryd.infoFe]; rfl)) rfl ⟨rfl, hb7⟩
theorem Sub_any (m n : Nat) (w : World) (hm : m < big) (hn : n < big) (L0 : LaidF w) : Calls Tryd.prog 45 #[fev m, fev n] w (GaveF w (toF m - toF n).val) := SubP_any m n w hm hn L0.p
end Go.Proofs.YtlfkohanfeejfaaDoor

namespace Go.Proofs.YtlfkohanfeejfaaDoor
open Go.RowKit

theorem Tryd.infoProd : (Tryd.prog.info? 78).map (·.size) = some 8 := by kernel_rfl

/-- What the first i limbs of m make of n. -/
def rows (m n i : Nat) : Nat := m % 18446744073709551616 ^ i * n
theorem rows_zero (m n : Nat) : rows m n 0 = 0 := by unfold rows; rw [Nat.pow_zero, Nat.mod_one, Nat.zero_mul]
theorem rows_four {m : Nat} (hm : m < big) (n : Nat) : rows m n 4 = m * n := by unfold rows; rw [big_pow, Nat.mod_eq_of_lt hm]
theorem rows_succ (m n i : Nat) : rows m n (i + 1) = rows m n i + 18446744073709551616 ^ i * (limb m i * n) := by
  unfold rows
  rw [mod_limb, Nat.add_mul, Nat.mul_assoc]
/-- What stands from limb i on behind i rows. -/
def rest (m n i : Nat) : Nat := rows m n i / 18446744073709551616 ^ i
theorem rest_lt {m n : Nat} (hn : n < big) (i : Nat) : rest m n i < 18446744073709551616 ^ 4 := by
  unfold rest rows
  rw [Nat.div_lt_iff_lt_mul (wpos i), big_pow, Nat.mul_comm big]
  have h1 := Nat.mod_lt m (wpos i)
  rcases Nat.eq_zero_or_pos n with h | h
  · subst h; exact Nat.mul_pos (wpos i) (by decide)
  · exact Nat.lt_of_lt_of_le (Nat.mul_lt_mul_of_pos_right h1 h) (Nat.mul_le_mul_left _ (Nat.le_of_lt hn))
theorem rest_succ (m n i : Nat) : rows m n (i + 1) / 18446744073709551616 ^ i = limb m i * n + rest m n i + 0 := by
  rw [rows_succ, Nat.add_mul_div_left _ _ (wpos i)]
  unfold rest
  omega
theorem limb_div (n i j : Nat) : limb (n / 18446744073709551616 ^ i) j = limb n (i + j) := by
  unfold limb
  rw [Nat.div_div_eq_div_mul, ← Nat.pow_add]
theorem limb_of_lt {n i : Nat} (h : n < 18446744073709551616 ^ i) : limb n i = 0 := by
  unfold limb; rw [Nat.div_eq_of_lt h]
/-- The limbs below i stay. -/
theorem rows_low {m n i p : Nat} (h : p < i) : limb (rows m n (i + 1)) p = limb (rows m n i) p := by
  rw [rows_succ]
  unfold limb
  have e : 18446744073709551616 ^ i = 18446744073709551616 ^ p * (18446744073709551616 * 18446744073709551616 ^ (i - p - 1)) := by
    rw [← Nat.pow_succ', ← Nat.pow_add]; congr 1; omega
  rw [e, Nat.mul_assoc, Nat.mul_assoc, Nat.add_mul_div_left _ _ (wpos p), Nat.add_mul_mod_self_left]
/-- The limbs above stay 0. -/
theorem rows_lt {m n : Nat} (hn : n < big) (i : Nat) : rows m n i < 18446744073709551616 ^ (i + 4) := by
  have h := rest_lt (m := m) hn i
  unfold rest at h
  rw [Nat.div_lt_iff_lt_mul (wpos i), ← Nat.pow_add] at h
  rw [Nat.add_comm]; exact h
theorem rows_high {m n i p : Nat} (hn : n < big) (h : i + 5 ≤ p) : limb (rows m n (i + 1)) p = 0 ∧ limb (rows m n i) p = 0 := by
  have h1 := rows_lt (m := m) hn (i + 1)
  have h2 := rows_lt (m := m) hn i
  have mono : ∀ a, a ≤ p → 18446744073709551616 ^ a ≤ 18446744073709551616 ^ p := fun a ha => Nat.pow_le_pow_right (by omega) ha
  exact ⟨limb_of_lt (Nat.lt_of_lt_of_le h1 (mono _ (by omega))), limb_of_lt (Nat.lt_of_lt_of_le h2 (mono _ (by omega)))⟩
theorem rows_start {m n i : Nat} : mixL 8 (rows m n (i + 1)) (rows m n i) i = mixL 8 (rows m n i) 0 8 :=
  mixL_eq fun p hp => by
    by_cases h : p < i
    · rw [if_pos h, if_pos hp, rows_low h]
    · rw [if_neg h, if_pos hp]
theorem rows_end {m n i : Nat} (hn : n < big) : mixL 8 (rows m n (i + 1)) (rows m n i) (i + 5) = mixL 8 (rows m n (i + 1)) 0 8 :=
  mixL_eq fun p hp => by
    by_cases h : p < i + 5
    · rw [if_pos h, if_pos hp]
    · rw [if_neg h, if_pos hp, (rows_high hn (by omega)).1, (rows_high hn (by omega)).2]
/-- One step of a row. -/
theorem row_step (m n i j : Nat) : (limb m i * limb n j + limb (rows m n i) (i + j) + cy (limb m i) n (rest m n i) 0 j) % 18446744073709551616 = limb (rows m n (i + 1)) (i + j) ∧
    (limb m i * limb n j + limb (rows m n i) (i + j) + cy (limb m i) n (rest m n i) 0 j) / 18446744073709551616 = cy (limb m i) n (rest m n i) 0 (j + 1) := by
  have h1 := lin_limb (limb m i) n (rest m n i) 0 j
  have h2 := cy_succ (limb m i) n (rest m n i) 0 j
  rw [← rest_succ, limb_div] at h1
  have h3 : limb (rest m n i) j = limb (rows m n i) (i + j) := limb_div ..
  rw [h3] at h1 h2
  exact ⟨h1.symm, h2.symm⟩
theorem row_last {m n i : Nat} (hn : n < big) : cy (limb m i) n (rest m n i) 0 4 = limb (rows m n (i + 1)) (i + 4) := by
  rw [cy_whole (by rw [big_pow]; exact hn) (rest_lt hn i), ← rest_succ, ← limb_div]
  unfold limb
  refine (Nat.mod_eq_of_lt ?_).symm
  rw [rest_succ, Nat.div_lt_iff_lt_mul (wpos 4), big_pow]
  have h1 := limb_lt m i
  have h2 := rest_lt (m := m) hn i
  rw [big_pow] at h2
  unfold limb at *
  have h3 : m / 18446744073709551616 ^ i % 18446744073709551616 * n ≤ 18446744073709551615 * n := Nat.mul_le_mul_right _ (by omega)
  unfold big at *
  omega
end Go.Proofs.YtlfkohanfeejfaaDoor
