/-
  The program's numbers modulo P: products.
-/
import Derived.Test.YtcidbiceeinglaaDoorFProduct
namespace Go.Proofs.YtcidbiceeinglaaDoor
open Go.RowKit

/-- What stands above 2^256 comes back 38 times. -/
def fold38 (T : Nat) : Nat := 38 * (T / big) + T % big + 0
theorem toF_fold (T : Nat) : toF (fold38 T) = toF T := by
  rw [toF_eq]
  have h := Nat.mod_add_div T big
  have e : big = 2 * PP + 38 := by decide
  conv => rhs; rw [← h]
  unfold fold38
  generalize T / big = u
  generalize T % big = v
  rw [show v + big * u = 38 * u + v + 0 + PP * (2 * u) by rw [e, Nat.add_mul, Nat.mul_assoc, Nat.mul_left_comm]; omega, Nat.add_mul_mod_self_left]
theorem limb_low {T k : Nat} (h : k < 4) : limb (T % big) k = limb T k := by
  have e : big = 18446744073709551616 ^ k * (18446744073709551616 * 18446744073709551616 ^ (3 - k)) := by
    rw [← Nat.pow_succ', ← Nat.pow_add, show k + (3 - k + 1) = 4 by omega, big_pow]
  unfold limb
  rw [e, Nat.mod_mul_right_div_self, Nat.mod_mul_right_mod]
theorem limb_high (T k : Nat) : limb (T / big) k = limb T (4 + k) := by rw [← big_pow, limb_div]
theorem fold_step {T k : Nat} (hk : k < 4) : (limb T (k + 4) * 38 + limb T k + cy 38 (T / big) (T % big) 0 k) % 18446744073709551616 = limb (fold38 T) k ∧
    (limb T (k + 4) * 38 + limb T k + cy 38 (T / big) (T % big) 0 k) / 18446744073709551616 = cy 38 (T / big) (T % big) 0 (k + 1) := by
  have h1 := lin_limb 38 (T / big) (T % big) 0 k
  have h2 := cy_succ 38 (T / big) (T % big) 0 k
  rw [limb_low hk, limb_high, Nat.add_comm 4 k, Nat.mul_comm 38] at h1 h2
  rw [Nat.mul_comm 38] at h1
  refine ⟨?_, h2.symm⟩
  unfold fold38
  rw [Nat.mul_comm 38, h1]
theorem fold_big {m n : Nat} (hm : m < big) (hn : n < big) : fold38 (m * n) / big = cy 38 (m * n / big) (m * n % big) 0 4 ∧ cy 38 (m * n / big) (m * n % big) 0 4 ≤ 38 := by
  have h1 : m * n / big < big := by
    rw [Nat.div_lt_iff_lt_mul (by decide)]
    rcases Nat.eq_zero_or_pos n with h | h
    · subst h; rw [Nat.mul_zero]; decide
    · exact Nat.lt_of_lt_of_le (Nat.mul_lt_mul_of_pos_right hm h) (Nat.mul_le_mul_left _ (Nat.le_of_lt hn))
  have h2 : m * n % big < big := Nat.mod_lt _ (by decide)
  rw [cy_whole (by rw [big_pow]; exact h1) (by rw [big_pow]; exact h2), big_pow]
  unfold fold38
  generalize m * n / big = u at *
  generalize m * n % big = v at *
  refine ⟨rfl, ?_⟩
  unfold big at *
  omega
theorem toF_prod (m n : Nat) : toF (fold38 (m * n)) = toF m * toF n := by rw [toF_fold, toF_mul]

theorem prod_keep (w1 : World) (g : Nat) {l : Nat} {ty : TypeId} (h : HoldsN w1 ty g (lims l)) (o : Obj) : HoldsN (w1.alloc o) ty g (lims l) := h.alloc o

set_option maxRecDepth 100000 in
set_option maxHeartbeats 2000000 in
theorem Mul_any (m n : Nat) (w : World) (hm : m < big) (hn : n < big) :
    Calls Tryd.prog 14 #[fev m, fev n] w (GaveF w (toF m * toF n).val) := by
  obtain ⟨hA, hB, hC, hb, hsz⟩ := fe_start3 w m n 0 _ _ #[.int .u64 0, .int .u64 0, .int .u64 0, .int .u64 0] rfl rfl (by kernel_rfl)
  obtain ⟨h4, h41⟩ := fold_big hm hn
  have PD : Hid (∀ W, Calls Tryd.prog 36 #[.agg ((lims m).map nv).toArray, .agg ((lims n).map nv).toArray] W fun e w' => e = .returned (.agg ((lims8 (m * n)).map nv).toArray) ∧ Below W.heap.size W w') := Lib.hid fun W => product_any m n W hm hn
  have BL : Hid (∀ W, Calls Tryd.prog 33 #[.agg ((lims (fold38 (m * n))).map nv).toArray, .int .u64 (cy 38 (m * n / big) (m * n % big) 0 4 : Int)] W fun e w' => e = .returned (.agg ((lims (toF m * toF n).val).map nv).toArray) ∧ Below W.heap.size W w') := Lib.hid fun W => by rw [← toF_prod]; exact below_of _ _ h4 (by omega) W
  clear h4 h41 hm hn
  generalize (toF m * toF n).val = v at *
  generalize m * n = T at *
  have C0 : Hid (cy 38 (T / big) (T % big) 0 0 = 0) := Lib.hid (cy_zero _ _ _ _)
  have TP : Hid (∀ (k : Nat) W, k < 4 → Calls Tryd.prog 37 #[.int .u64 (limb T (k + 4) : Int), .int .u64 38, .int .u64 (limb T k : Int), .int .u64 (cy 38 (T / big) (T % big) 0 k : Int)] W fun e w' => e = .returned (.tuple #[.int .u64 (limb (fold38 T) k : Int), .int .u64 (cy 38 (T / big) (T % big) 0 (k + 1) : Int)]) ∧ w' = W) := Lib.hid fun k W hk => by
    have h := timesPlus_any (limb T (k + 4)) 38 (limb T k) (cy 38 (T / big) (T % big) 0 k) (limb_lt _ _) (by omega) (limb_lt _ _) (cy_lt (by omega) (by omega) _) W
    rw [(fold_step hk).1, (fold_step hk).2] at h
    exact h
  rw [fev_eq, fev_eq]
  go_enter Tryd.func14, Tryd.ntmps14
  go_upto_region 1 with (fail)
  generalize ((w.alloc (.cells ((lims m).map nv).toArray 24)).alloc (.cells ((lims n).map nv).toArray 24)).alloc (.cells #[.int .u64 0, .int .u64 0, .int .u64 0, .int .u64 0] 24) = wv at *
  go_wp2_with (first
    | (with_reducible refine wpList_load_n rfl 24 (.tmp 2) rfl w.heap.size rfl (lims m) 4 hA rfl Tryd.underlying24 Tryd.infoFe ?_)
    | (with_reducible refine wpList_load_n rfl 24 (.tmp 3) rfl (w.heap.size + 1) rfl (lims n) 4 hB rfl Tryd.underlying24 Tryd.infoFe ?_)
    | (go_at_call 36
       with_reducible refine (PD.out _).mono ?_
       rintro e w1 ⟨rfl, hb1⟩
       have hA1 := hA.keep hb1 hA.lt
       have hC1 := hC.keep hb1 hC.lt
       have b1 := hb.trans (hb1.mono hb.size)
       have l1 := hC1.lt
       have z1 := holdsN_new w1 42 _ _ _ rfl zeros8
       have b1a := b1.alloc b1.size (.cells #[.int .u64 0, .int .u64 0, .int .u64 0, .int .u64 0, .int .u64 0, .int .u64 0, .int .u64 0, .int .u64 0] 42)
       have hA1a := hA1.alloc (.cells #[.int .u64 0, .int .u64 0, .int .u64 0, .int .u64 0, .int .u64 0, .int .u64 0, .int .u64 0, .int .u64 0] 42)
       have hC1a := hC1.alloc (.cells #[.int .u64 0, .int .u64 0, .int .u64 0, .int .u64 0, .int .u64 0, .int .u64 0, .int .u64 0, .int .u64 0] 42))
    | (with_reducible refine wpList_store_n rfl 42 (.tmp 5) (.tmp 10) rfl w1.heap.size (lims8 T) 8 rfl rfl (lims8_length _) (lims8 0) (by with_unfolding_all exact z1) Tryd.infoProd (lims8_length _) w.heap.size w (by with_unfolding_all exact b1a) b1.size ?_
       intro w2 hP o2 s2 b2
       have hA2 : HoldsN w2 24 w.heap.size (lims m) := (o2 _ (by omega)).trans (by with_unfolding_all exact hA1a)
       have hC2 : HoldsN w2 24 (w.heap.size + 2) (lims 0) := (o2 _ (by omega)).trans (by with_unfolding_all exact hC1a)
       clear s2)
    | fail)
  clear hA hB hC hb hsz hA1 hC1 hb1 b1 z1 b1a hA1a hC1a o2 PD
  go_loopw [6, 11] (fun vc vi wr => ∃ k : Nat, k ≤ 4 ∧ vi = .int .i64 (k : Int) ∧ vc = .int .u64 (cy 38 (T / big) (T % big) 0 k : Int) ∧ HoldsN wr 24 w.heap.size (mixL 4 (fold38 T) m k) ∧ HoldsN wr 24 (w.heap.size + 2) (lims 0) ∧ HoldsN wr 42 w1.heap.size (lims8 T) ∧ Below w.heap.size w wr)
    (fun _ vi _ => 4 - (intOf vi).toNat)
  case atStart => exact ⟨0, Nat.zero_le _, rfl, by rw [C0.out]; rfl, hA2, hC2, hP, b2⟩
  case round =>
    clear hA2 hC2 hP b2
    obtain ⟨k, hk, rfl, rfl, hA, hC, hP, hb⟩ := hrel
    by_cases hlt : k < 4
    · have hj2 : (k : Int) < 4 := by omega
      have hj8 : (k : Int) < 8 := by omega
      have i4 : IntKind.i64.wrap ((k : Int) + 4) = ((k + 4 : Nat) : Int) := by rw [IntKind.wrap_i64]; omega
      have i48 : ((k + 4 : Nat) : Int) < 8 := by omega
      have hf := hA.frozen k
      have ca := hA.cell (j := k) (by rw [mixL_length]; exact hlt)
      rw [mixL_get hlt, if_neg (Nat.lt_irrefl k)] at ca
      have c1 := hP.cell (j := k + 4) (by rw [lims8_length]; omega)
      have c2 := hP.cell (j := k) (by rw [lims8_length]; omega)
      unfold lims8 at c1 c2
      rw [mixL_get (by omega), if_pos (by omega)] at c1 c2
      have hL := Lib.hid (mixL_set (S := fold38 T) (M := m) hlt)
      have TPx : Hid (∀ W, Calls Tryd.prog 37 #[.int .u64 (limb T (k + 4) : Int), .int .u64 38, .int .u64 (limb T k : Int), .int .u64 (cy 38 (T / big) (T % big) 0 k : Int)] W fun e w' => e = .returned (.tuple #[.int .u64 (limb (fold38 T) k : Int), .int .u64 (cy 38 (T / big) (T % big) 0 (k + 1) : Int)]) ∧ w' = W) := Lib.hid fun W => TP.out k W hlt
      generalize limb (fold38 T) k = x at *
      generalize limb T k = y at *
      generalize limb T (k + 4) = z at *
      generalize cy 38 (T / big) (T % big) 0 k = c at *
      generalize hc' : cy 38 (T / big) (T % big) 0 (k + 1) = c' at *
      have HC := Lib.hid hc'
      clear hc'
      generalize k + 4 = p at *
      go_upto_region 6 with (fail)
      go_region_with (go_at_call 37; refine (TPx.out _).mono ?_; rintro e w3 ⟨rfl, rfl⟩)
      all_goals
        go_wp2
        go_roundw
        case rel => exact ⟨k + 1, by omega, by go_num, by rw [HC.out], by rw [← hL.out]; exact (hA.drewN _).set k x, (hC.drewN _).setOther _ _ (by simp), (hP.drewN _).setOther _ _ (by simp; omega), (below_drewN hb _).setCell (p := ⟨w.heap.size, k, none⟩) (Nat.le_refl _) _⟩
        case measure => simp [intOf]; omega
    · rw [show (k : Int) = 4 by omega]
      obtain rfl : k = 4 := by omega
      rw [lims_mix4] at hA
      clear hP
      generalize cy 38 (T / big) (T % big) 0 4 = c at *
      generalize fold38 T = s at *
      go_wp2_with (first
        | (with_reducible refine wpList_load_n rfl 24 (.tmp 2) rfl w.heap.size rfl (lims s) 4 hA rfl Tryd.underlying24 Tryd.infoFe ?_)
        | (go_at_call 33
           with_reducible refine (BL.out _).mono ?_
           rintro e w3 ⟨rfl, hb3⟩
           have hC3 := hC.keep hb3 hC.lt
           have b3 := hb.trans (hb3.mono hb.size))
        | (with_reducible refine wpList_store_n rfl 24 (.tmp 4) (.tmp 31) rfl (w.heap.size + 2) (lims v) 4 rfl rfl rfl (lims 0) hC3 Tryd.infoFe rfl w.heap.size w b3 (by omega) ?_; intro w7 Hg _ _ hb7))
      exact bodyPost_ret (results_cell_row rfl _ _ _ _ _ _ _ rfl Hg Tryd.underlying24 rfl (by rw [Tryd.infoFe]; rfl)) rfl ⟨rfl, hb7⟩
end Go.Proofs.YtcidbiceeinglaaDoor
