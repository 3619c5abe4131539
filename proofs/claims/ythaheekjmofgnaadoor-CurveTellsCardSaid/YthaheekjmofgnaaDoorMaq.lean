/-
  The program's numbers modulo P: products.
  The program's numbers modulo P: what is below 0; squares of squares.
  Blocks that are made freely while a statement runs: a number's.
  The program's numbers modulo P: powers whose bits are all 1.
-/
import Derived.Test.YthaheekjmofgnaaDoorMag
import Derived.Test.YthaheekjmofgnaaDoorMah
import Derived.Test.YthaheekjmofgnaaDoorMap
namespace Go.Proofs.YthaheekjmofgnaaDoor
open Go.RowKit

/-- What stands above 2^256 comes back 38 times. -/
def fold38 (T : Nat) : Nat := 38 * (T / big) + T % big + 0
theorem toF_fold (T : Nat) : toF (fold38 T) = toF T := by
  rw [toF_eq]
  have h := Nat.mod_add_div T big
  have e : big = 2 * PP + 38 := by decide
  conv => rhs; rw [← h]
  unfold fold38
  generalize T / big = u
  generalize T % big = v
  rw [show v + big * u = 38 * u + v + 0 + PP * (2 * u) by rw [e, Nat.add_mul, Nat.mul_assoc, Nat.mul_left_comm]; omega, Nat.add_mul_mod_self_left]
theorem limb_low {T k : Nat} (h : k < 4) : limb (T % big) k = limb T k := by
  have e : big = 18446744073709551616 ^ k * (18446744073709551616 * 18446744073709551616 ^ (3 - k)) := by
    rw [← Nat.pow_succ', ← Nat.pow_add, show k + (3 - k + 1) = 4 by omega, big_pow]
  unfold limb
  rw [e, Nat.mod_mul_right_div_self, Nat.mod_mul_right_mod]
theorem limb_high (T k : Nat) : limb (T / big) k = limb T (4 + k) := by rw [← big_pow, limb_div]
theorem fold_step {T k : Nat} (hk : k < 4) : (limb T (k + 4) * 38 + limb T k + cy 38 (T / big) (T % big) 0 k) % 18446744073709551616 = limb (fold38 T) k ∧
    (limb T (k + 4) * 38 + limb T k + cy 38 (T / big) (T % big) 0 k) / 18446744073709551616 = cy 38 (T / big) (T % big) 0 (k + 1) := by
  have h1 := lin_limb 38 (T / big) (T % big) 0 k
  have h2 := cy_succ 38 (T / big) (T % big) 0 k
  rw [limb_low hk, limb_high, Nat.add_comm 4 k, Nat.mul_comm 38] at h1 h2
  rw [Nat.mul_comm 38] at h1
  refine ⟨?_, h2.symm⟩
  unfold fold38
  rw [Nat.mul_comm 38, h1]
theorem fold_big {m n : Nat} (hm : m < big) (hn : n < big) : fold38 (m * n) / big = cy 38 (m * n / big) (m * n % big) 0 4 ∧ cy 38 (m * n / big) (m * n % big) 0 4 ≤ 38 := by
  have h1 : m * n / big < big := by
    rw [Nat.div_lt_iff_lt_mul (by decide)]
    rcases Nat.eq_zero_or_pos n with h | h
    · subst h; rw [Nat.mul_zero]; decide
    · exact Nat.lt_of_lt_of_le (Nat.mul_lt_mul_of_pos_right hm h) (Nat.mul_le_mul_left _ (Nat.le_of_lt hn))
  have h2 : m * n % big < big := Nat.mod_lt _ (by decide)
  rw [cy_whole (by rw [big_pow]; exact h1) (by rw [big_pow]; exact h2), big_pow]
  unfold fold38
  generalize m * n / big = u at *
  generalize m * n % big = v at *
  refine ⟨rfl, ?_⟩
  unfold big at *
  omega
theorem toF_prod (m n : Nat) : toF (fold38 (m * n)) = toF m * toF n := by rw [toF_fold, toF_mul]

theorem prod_keep (w1 : World) (g : Nat) {l : Nat} {ty : TypeId} (h : HoldsN w1 ty g (lims l)) (o : Obj) : HoldsN (w1.alloc o) ty g (lims l) := h.alloc o

set_option maxRecDepth 100000 in
set_option maxHeartbeats 2000000 in
theorem Mul_any (m n : Nat) (w : World) (hm : m < big) (hn : n < big) :
    Calls Tryd.prog 30 #[fev m, fev n] w (GaveF w (toF m * toF n).val) := by
  obtain ⟨hA, hB, hC, hb, hsz⟩ := fe_start3 w m n 0 _ _ #[.int .u64 0, .int .u64 0, .int .u64 0, .int .u64 0] rfl rfl (by kernel_rfl)
  obtain ⟨h4, h41⟩ := fold_big hm hn
  have PD : Hid (∀ W, Calls Tryd.prog 55 #[.agg ((lims m).map nv).toArray, .agg ((lims n).map nv).toArray] W fun e w' => e = .returned (.agg ((lims8 (m * n)).map nv).toArray) ∧ Below W.heap.size W w') := Lib.hid fun W => product_any m n W hm hn
  have BL : Hid (∀ W, Calls Tryd.prog 53 #[.agg ((lims (fold38 (m * n))).map nv).toArray, .int .u64 (cy 38 (m * n / big) (m * n % big) 0 4 : Int)] W fun e w' => e = .returned (.agg ((lims (toF m * toF n).val).map nv).toArray) ∧ Below W.heap.size W w') := Lib.hid fun W => by rw [← toF_prod]; exact below_of _ _ h4 (by omega) W
  clear h4 h41 hm hn
  generalize (toF m * toF n).val = v at *
  generalize m * n = T at *
  have C0 : Hid (cy 38 (T / big) (T % big) 0 0 = 0) := Lib.hid (cy_zero _ _ _ _)
  have TP : Hid (∀ (k : Nat) W, k < 4 → Calls Tryd.prog 56 #[.int .u64 (limb T (k + 4) : Int), .int .u64 38, .int .u64 (limb T k : Int), .int .u64 (cy 38 (T / big) (T % big) 0 k : Int)] W fun e w' => e = .returned (.tuple #[.int .u64 (limb (fold38 T) k : Int), .int .u64 (cy 38 (T / big) (T % big) 0 (k + 1) : Int)]) ∧ w' = W) := Lib.hid fun k W hk => by
    have h := timesPlus_any (limb T (k + 4)) 38 (limb T k) (cy 38 (T / big) (T % big) 0 k) (limb_lt _ _) (by omega) (limb_lt _ _) (cy_lt (by omega) (by omega) _) W
    rw [(fold_step hk).1, (fold_step hk).2] at h
    exact h
  rw [fev_eq, fev_eq]
  go_enter Tryd.func30, Tryd.ntmps30
  go_upto_region 1 with (fail)
  generalize ((w.alloc (.cells ((lims m).map nv).toArray 24)).alloc (.cells ((lims n).map nv).toArray 24)).alloc (.cells #[.int .u64 0, .int .u64 0, .int .u64 0, .int .u64 0] 24) = wv at *
  go_wp2_with (first
    | (with_reducible refine wpList_load_n rfl 24 (.tmp 2) rfl w.heap.size rfl (lims m) 4 hA rfl Tryd.underlying24 Tryd.infoFe ?_)
    | (with_reducible refine wpList_load_n rfl 24 (.tmp 3) rfl (w.heap.size + 1) rfl (lims n) 4 hB rfl Tryd.underlying24 Tryd.infoFe ?_)
    | (go_at_call 55
       with_reducible refine (PD.out _).mono ?_
       rintro e w1 ⟨rfl, hb1⟩
       have hA1 := hA.keep hb1 hA.lt
       have hC1 := hC.keep hb1 hC.lt
       have b1 := hb.trans (hb1.mono hb.size)
       have l1 := hC1.lt
       have z1 := holdsN_new w1 64 _ _ _ rfl zeros8
       have b1a := b1.alloc b1.size (.cells #[.int .u64 0, .int .u64 0, .int .u64 0, .int .u64 0, .int .u64 0, .int .u64 0, .int .u64 0, .int .u64 0] 64)
       have hA1a := hA1.alloc (.cells #[.int .u64 0, .int .u64 0, .int .u64 0, .int .u64 0, .int .u64 0, .int .u64 0, .int .u64 0, .int .u64 0] 64)
       have hC1a := hC1.alloc (.cells #[.int .u64 0, .int .u64 0, .int .u64 0, .int .u64 0, .int .u64 0, .int .u64 0, .int .u64 0, .int .u64 0] 64))
    | (with_reducible refine wpList_store_n rfl 64 (.tmp 5) (.tmp 10) rfl w1.heap.size (lims8 T) 8 rfl rfl (lims8_length _) (lims8 0) (by with_unfolding_all exact z1) Tryd.infoProd (lims8_length _) w.heap.size w (by with_unfolding_all exact b1a) b1.size ?_
       intro w2 hP o2 s2 b2
       have hA2 : HoldsN w2 24 w.heap.size (lims m) := (o2 _ (by omega)).trans (by with_unfolding_all exact hA1a)
       have hC2 : HoldsN w2 24 (w.heap.size + 2) (lims 0) := (o2 _ (by omega)).trans (by with_unfolding_all exact hC1a)
       clear s2)
    | fail)
  clear hA hB hC hb hsz hA1 hC1 hb1 b1 z1 b1a hA1a hC1a o2 PD
  go_loopw [6, 11] (fun vc vi wr => ∃ k : Nat, k ≤ 4 ∧ vi = .int .i64 (k : Int) ∧ vc = .int .u64 (cy 38 (T / big) (T % big) 0 k : Int) ∧ HoldsN wr 24 w.heap.size (mixL 4 (fold38 T) m k) ∧ HoldsN wr 24 (w.heap.size + 2) (lims 0) ∧ HoldsN wr 64 w1.heap.size (lims8 T) ∧ Below w.heap.size w wr)
    (fun _ vi _ => 4 - (intOf vi).toNat)
  case atStart => exact ⟨0, Nat.zero_le _, rfl, by rw [C0.out]; rfl, hA2, hC2, hP, b2⟩
  case round =>
    clear hA2 hC2 hP b2
    obtain ⟨k, hk, rfl, rfl, hA, hC, hP, hb⟩ := hrel
    by_cases hlt : k < 4
    · have hj2 : (k : Int) < 4 := by omega
      have hj8 : (k : Int) < 8 := by omega
      have i4 : IntKind.i64.wrap ((k : Int) + 4) = ((k + 4 : Nat) : Int) := by rw [IntKind.wrap_i64]; omega
      have i48 : ((k + 4 : Nat) : Int) < 8 := by omega
      have hf := hA.frozen k
      have ca := hA.cell (j := k) (by rw [mixL_length]; exact hlt)
      rw [mixL_get hlt, if_neg (Nat.lt_irrefl k)] at ca
      have c1 := hP.cell (j := k + 4) (by rw [lims8_length]; omega)
      have c2 := hP.cell (j := k) (by rw [lims8_length]; omega)
      unfold lims8 at c1 c2
      rw [mixL_get (by omega), if_pos (by omega)] at c1 c2
      have hL := Lib.hid (mixL_set (S := fold38 T) (M := m) hlt)
      have TPx : Hid (∀ W, Calls Tryd.prog 56 #[.int .u64 (limb T (k + 4) : Int), .int .u64 38, .int .u64 (limb T k : Int), .int .u64 (cy 38 (T / big) (T % big) 0 k : Int)] W fun e w' => e = .returned (.tuple #[.int .u64 (limb (fold38 T) k : Int), .int .u64 (cy 38 (T / big) (T % big) 0 (k + 1) : Int)]) ∧ w' = W) := Lib.hid fun W => TP.out k W hlt
      generalize limb (fold38 T) k = x at *
      generalize limb T k = y at *
      generalize limb T (k + 4) = z at *
      generalize cy 38 (T / big) (T % big) 0 k = c at *
      generalize hc' : cy 38 (T / big) (T % big) 0 (k + 1) = c' at *
      have HC := Lib.hid hc'
      clear hc'
      generalize k + 4 = p at *
      go_upto_region 6 with (fail)
      go_region_with (go_at_call 56; refine (TPx.out _).mono ?_; rintro e w3 ⟨rfl, rfl⟩)
      all_goals
        go_wp2
        go_roundw
        case rel => exact ⟨k + 1, by omega, by go_num, by rw [HC.out], by rw [← hL.out]; exact (hA.drewN _).set k x, (hC.drewN _).setOther _ _ (by simp), (hP.drewN _).setOther _ _ (by simp; omega), (below_drewN hb _).setCell (p := ⟨w.heap.size, k, none⟩) (Nat.le_refl _) _⟩
        case measure => simp [intOf]; omega
    · rw [show (k : Int) = 4 by omega]
      obtain rfl : k = 4 := by omega
      rw [lims_mix4] at hA
      clear hP
      generalize cy 38 (T / big) (T % big) 0 4 = c at *
      generalize fold38 T = s at *
      go_wp2_with (first
        | (with_reducible refine wpList_load_n rfl 24 (.tmp 2) rfl w.heap.size rfl (lims s) 4 hA rfl Tryd.underlying24 Tryd.infoFe ?_)
        | (go_at_call 53
           with_reducible refine (BL.out _).mono ?_
           rintro e w3 ⟨rfl, hb3⟩
           have hC3 := hC.keep hb3 hC.lt
           have b3 := hb.trans (hb3.mono hb.size))
        | (with_reducible refine wpList_store_n rfl 24 (.tmp 4) (.tmp 31) rfl (w.heap.size + 2) (lims v) 4 rfl rfl rfl (lims 0) hC3 Tryd.infoFe rfl w.heap.size w b3 (by omega) ?_; intro w7 Hg _ _ hb7))
      exact bodyPost_ret (results_cell_row rfl _ _ _ _ _ _ _ rfl Hg Tryd.underlying24 rfl (by rw [Tryd.infoFe]; rfl)) rfl ⟨rfl, hb7⟩
end Go.Proofs.YthaheekjmofgnaaDoor

namespace Go.Proofs.YthaheekjmofgnaaDoor
open Go.RowKit

theorem F.zero_sub (a : F) : toF 0 - a = -a := by
  have h : toF 0 = 0 := rfl
  rw [h]; grind
set_option maxRecDepth 100000 in
set_option maxHeartbeats 1000000 in
theorem NegP_any (m : Nat) (w : World) (hm : m < big) (L0 : LaidP w) :
    Calls Tryd.prog 44 #[fev m] w (GaveF w (-toF m).val) := by
  obtain ⟨hA, hC, hb, hsz⟩ := fe_start2 w m 0 _ #[.int .u64 0, .int .u64 0, .int .u64 0, .int .u64 0] rfl (by kernel_rfl)
  have z0 : Value.agg #[.int .u64 0, .int .u64 0, .int .u64 0, .int .u64 0] = fev 0 := by kernel_rfl
  have SB : Hid (∀ W, LaidP W → Calls Tryd.prog 31 #[.agg #[.int .u64 0, .int .u64 0, .int .u64 0, .int .u64 0], .agg ((lims m).map nv).toArray] W fun e w' => e = .returned (.agg ((lims (-toF m).val).map nv).toArray) ∧ Below W.heap.size W w') := Lib.hid fun W L => by rw [z0, ← F.zero_sub]; exact SubP_any 0 m W (by decide) hm L
  have L1 := L0.keep hb L0.size
  generalize (-toF m).val = v at *
  rw [fev_eq]
  clear hm z0
  go_enter Tryd.func44, Tryd.ntmps44
  go_upto_region 1 with (fail)
  generalize (w.alloc (.cells ((lims m).map nv).toArray 24)).alloc (.cells #[.int .u64 0, .int .u64 0, .int .u64 0, .int .u64 0] 24) = wv at *
  go_wp2_with (first
    | (with_reducible refine wpList_load_n rfl 24 (.tmp 1) rfl w.heap.size rfl (lims m) 4 hA rfl Tryd.underlying24 Tryd.infoFe ?_)
    | (go_at_call 31
       with_reducible refine (SB.out _ L1).mono ?_
       rintro e w3 ⟨rfl, hb3⟩
       have hC3 := hC.keep hb3 hC.lt
       have b3 := hb.trans (hb3.mono hb.size))
    | (with_reducible refine wpList_store_n rfl 24 (.tmp 2) (.tmp 5) rfl (w.heap.size + 1) (lims v) 4 rfl rfl rfl (lims 0) hC3 Tryd.infoFe rfl w.heap.size w b3 (by omega) ?_; intro w7 Hg _ _ hb7)
    | fail)
  exact bodyPost_ret (results_cell_row rfl _ _ _ _ _ _ _ rfl Hg Tryd.underlying24 rfl (by rw [Tryd.infoFe]; rfl)) rfl ⟨rfl, hb7⟩
/-- A number's square's square, and so on, as the program leaves it. -/
def sqd (m n : Nat) : Nat := if n = 0 then m else (fpow (toF m) (2 ^ n)).val
theorem toF_sqd (m n : Nat) : toF (sqd m n) = fpow (toF m) (2 ^ n) := by
  unfold sqd
  by_cases h : n = 0
  · rw [if_pos h, h, Nat.pow_zero, fpow_one]
  · rw [if_neg h, toF_of]
theorem sqd_lt {m : Nat} (hm : m < big) (n : Nat) : sqd m n < big := by
  unfold sqd
  split
  · exact hm
  · exact F.lt_big _
theorem sqd_zero (m : Nat) : sqd m 0 = m := rfl
theorem sqd_succ (m n : Nat) : (toF (sqd m n) * toF (sqd m n)).val = sqd m (n + 1) := by
  rw [toF_sqd, ← fpow_add, show 2 ^ n + 2 ^ n = 2 ^ (n + 1) by rw [Nat.pow_succ]; omega]
  rfl
theorem sqd_pos (m : Nat) {n : Nat} (h : 0 < n) : sqd m n = (fpow (toF m) (2 ^ n)).val := by
  unfold sqd; rw [if_neg (by omega)]

set_option maxRecDepth 100000 in
set_option maxHeartbeats 1000000 in
theorem squared_any (m n : Nat) (w : World) (hm : m < big) (hn : n < 1000000) :
    Calls Tryd.prog 72 #[fev m, .int .i64 (n : Int)] w (GaveF w (sqd m n)) := by
  obtain ⟨hA, hC, hb, hsz⟩ := fe_start2 w m 0 _ #[.int .u64 0, .int .u64 0, .int .u64 0, .int .u64 0] rfl (by kernel_rfl)
  have ML : Hid (∀ k W, Calls Tryd.prog 30 #[.agg ((lims (sqd m k)).map nv).toArray, .agg ((lims (sqd m k)).map nv).toArray] W fun e w' => e = .returned (.agg ((lims (sqd m (k + 1))).map nv).toArray) ∧ Below W.heap.size W w') := Lib.hid fun k W => by
    rw [← sqd_succ]; exact Mul_any (sqd m k) (sqd m k) W (sqd_lt hm k) (sqd_lt hm k)
  have S0 : Hid (sqd m 0 = m) := Lib.hid (sqd_zero m)
  rw [fev_eq]
  clear hm
  go_enter Tryd.func72, Tryd.ntmps72
  go_upto_region 1 with (fail)
  generalize (w.alloc (.cells ((lims m).map nv).toArray 24)).alloc (.cells #[.int .u64 0, .int .u64 0, .int .u64 0, .int .u64 0] 24) = wv at *
  rw [← S0.out] at hA
  go_wp2
  go_loopw [6] (fun vi wr => ∃ k : Nat, k ≤ n ∧ vi = .int .i64 (k : Int) ∧ HoldsN wr 24 w.heap.size (lims (sqd m k)) ∧ HoldsN wr 24 (w.heap.size + 1) (lims 0) ∧ Below w.heap.size w wr)
    (fun vi _ => n - (intOf vi).toNat)
  case atStart => exact ⟨0, Nat.zero_le _, rfl, hA, hC, hb⟩
  case round =>
    clear hA hC hb
    obtain ⟨k, hk, rfl, hA, hC, hb⟩ := hrel
    by_cases hlt : k < n
    · have hlt2 : (k : Int) < n := by omega
      have MLk := Lib.hid (ML.out k)
      generalize sqd m k = x at *
      generalize hy : sqd m (k + 1) = y at *
      have HY := Lib.hid hy
      clear hy
      go_wp2_with (first
        | (with_reducible refine wpList_load_n rfl 24 (.tmp 2) rfl w.heap.size rfl (lims x) 4 hA rfl Tryd.underlying24 Tryd.infoFe ?_)
        | (go_at_call 30
           with_reducible refine (MLk.out _).mono ?_
           rintro e w3 ⟨rfl, hb3⟩
           have hA3 := hA.keep hb3 hA.lt
           have hC3 := hC.keep hb3 hC.lt
           have b3 := hb.trans (hb3.mono hb.size))
        | (with_reducible refine wpList_store_n rfl 24 (.tmp 2) (.tmp 10) rfl w.heap.size (lims y) 4 rfl rfl rfl (lims x) hA3 Tryd.infoFe rfl w.heap.size w b3 (Nat.le_refl _) ?_
           intro w4 hA4 o4 s4 b4
           have hC4 := hC3.oth o4 (by omega))
        | fail)
      go_roundw
      case rel => exact ⟨k + 1, by omega, by go_num, by rw [HY.out]; exact hA4, hC4, b4⟩
      case measure => simp [intOf]; omega
    · obtain rfl : k = n := by omega
      generalize sqd m k = x at *
      go_wp2_with (first
        | (with_reducible refine wpList_load_n rfl 24 (.tmp 2) rfl w.heap.size rfl (lims x) 4 hA rfl Tryd.underlying24 Tryd.infoFe ?_)
        | (with_reducible refine wpList_store_n rfl 24 (.tmp 4) (.tmp 12) rfl (w.heap.size + 1) (lims x) 4 rfl rfl rfl (lims 0) hC Tryd.infoFe rfl w.heap.size w hb (by omega) ?_; intro w7 Hg _ _ hb7)
        | fail)
      exact bodyPost_ret (results_cell_row rfl _ _ _ _ _ _ _ rfl Hg Tryd.underlying24 rfl (by rw [Tryd.infoFe]; rfl)) rfl ⟨rfl, hb7⟩
end Go.Proofs.YthaheekjmofgnaaDoor

namespace Go.Proofs.YthaheekjmofgnaaDoor
open Go.RowKit

/-- A block of a number's, made behind D. -/
def MadeFe (D : Nat) (_ : Nat) (v : Value) (W : World) : Prop := ∃ g, v = .pointer (some ⟨g, 0, none⟩) ∧ D ≤ g ∧ HoldsN W 24 g (lims 0)
theorem MadeFe.stay {D : Nat} : ∀ j v w w', MadeFe D j v w → Below w.heap.size w w' → MadeFe D j v w' := fun _ _ _ _ ⟨g, hv, hg, hh⟩ hb => ⟨g, hv, hg, hh.keep hb hh.lt⟩
theorem run_alloc_fe (f : Operand → Value) (o : Oper) (ho : o.op = .alloc 24) (w : World) :
    (execOp f o).run Tryd.prog w = .ok (.value (.pointer (some ⟨w.heap.size, 0, none⟩))) (w.alloc (.cells #[.int .u64 0, .int .u64 0, .int .u64 0, .int .u64 0] 24)) := by
  obtain ⟨dst, op, type, pos, after, guard⟩ := o
  obtain rfl : op = .alloc 24 := ho
  go_simp
theorem made_fe {S : World → Prop} {l : List Oper} {j D : Nat} (hS : ∀ w, S w → D ≤ w.heap.size) (hj : (l[j]?).map (·.op) = some (.alloc 24)) :
    ∀ k o, (fun k => k == j : Nat → Bool) k = true → l[k]? = some o → ∀ f w, S w → ∃ v w', (execOp f o).run Tryd.prog w = .ok (.value v) w' ∧ MadeFe D k v w' ∧ Below w.heap.size w w' := fun k o hk ho f w hw => by
  obtain rfl : k = j := by simpa using hk
  rw [ho] at hj
  refine ⟨_, _, run_alloc_fe f o (Option.some.inj hj) w, ⟨_, rfl, hS w hw, ?_⟩, (Below.refl _ w).alloc (Nat.le_refl _) _⟩
  exact holdsN_new w _ _ _ _ rfl (by kernel_rfl)

/-- The blocks of a call of one number: the number's, and the answer's. -/
structure Fe1 (w : World) (m : Nat) (W : World) : Prop where
  a : HoldsN W 24 w.heap.size (lims m)
  c : HoldsN W 24 (w.heap.size + 1) (lims 0)
  d : Below w.heap.size w W
theorem Fe1.stay {w : World} {m : Nat} : ∀ W W', Fe1 w m W → Below W.heap.size W W' → Fe1 w m W' := fun _ _ h hb => ⟨h.a.keep hb h.a.lt, h.c.keep hb h.c.lt, h.d.trans (hb.mono h.d.size)⟩
theorem Fe1.size {w : World} {m : Nat} (W : World) (h : Fe1 w m W) : w.heap.size + 2 ≤ W.heap.size := h.c.lt
theorem Fe1.oth {w W W' : World} {m g : Nat} (h : Fe1 w m W) (ho : ∀ k, k ≠ g → W'.heap[k]? = W.heap[k]?) (hb : Below w.heap.size w W') (hg : w.heap.size + 2 ≤ g) : Fe1 w m W' := ⟨h.a.oth ho (by omega), h.c.oth ho (by omega), hb⟩

/-- And a further block, that holds a number. -/
structure Fe2 (w : World) (m g h : Nat) (W : World) : Prop where
  f : Fe1 w m W
  h : HoldsN W 24 g (lims h)
theorem Fe2.stay {w : World} {m g h : Nat} : ∀ W W', Fe2 w m g h W → Below W.heap.size W W' → Fe2 w m g h W' := fun _ _ p hb => ⟨Fe1.stay _ _ p.f hb, p.h.keep hb p.h.lt⟩
theorem Fe2.size {w : World} {m g h : Nat} (W : World) (p : Fe2 w m g h W) : max (w.heap.size + 2) (g + 1) ≤ W.heap.size := Nat.max_le.2 ⟨Fe1.size _ p.f, p.h.lt⟩
theorem Fe2.oth {w W W' : World} {m g h g' : Nat} (p : Fe2 w m g h W) (ho : ∀ k, k ≠ g' → W'.heap[k]? = W.heap[k]?) (hb : Below w.heap.size w W') (hg : max (w.heap.size + 2) (g + 1) ≤ g') : Fe2 w m g h W' := ⟨p.f.oth ho hb (by omega), p.h.oth ho (by omega)⟩

/-- What a region leaves in a block of its own. -/
def InBlock (D r : Nat) (G : World → Prop) (vp : Value) (wx : World) : Prop := ∃ g, vp = .pointer (some ⟨g, 0, none⟩) ∧ D ≤ g ∧ HoldsN wx 24 g (lims r) ∧ G wx
end Go.Proofs.YthaheekjmofgnaaDoor

namespace Go.Proofs.YthaheekjmofgnaaDoor
open Go.RowKit

/-- A number to the power of 2^n - 1, as the program leaves it. -/
def onesv (m n : Nat) : Nat := if n = 1 then m else (fpow (toF m) (2 ^ n - 1)).val
theorem toF_onesv (m n : Nat) : toF (onesv m n) = fpow (toF m) (2 ^ n - 1) := by
  unfold onesv
  by_cases h : n = 1
  · rw [if_pos h, h, Nat.pow_one, show 2 - 1 = 1 from rfl, fpow_one]
  · rw [if_neg h, toF_of]
theorem onesv_lt {m : Nat} (hm : m < big) (n : Nat) : onesv m n < big := by
  unfold onesv
  split
  · exact hm
  · exact F.lt_big _
/-- Twice as many, and one more. -/
theorem ones_double (m k : Nat) : toF (sqd (onesv m k) k) * toF (onesv m k) = fpow (toF m) (2 ^ (2 * k) - 1) := by
  rw [toF_sqd, toF_onesv, ← fpow_mul, ← fpow_add]
  congr 1
  have h1 : 1 ≤ 2 ^ k := Nat.one_le_two_pow
  rw [Nat.two_mul, Nat.pow_add]
  generalize 2 ^ k = x at *
  obtain ⟨y, rfl⟩ : ∃ y, x = y + 1 := ⟨x - 1, by omega⟩
  rw [Nat.add_sub_cancel, Nat.add_mul, Nat.mul_add]
  omega
theorem ones_more (a : F) (k : Nat) : fpow (fpow a (2 ^ (2 * k) - 1)) (2 ^ 1) * a = fpow a (2 ^ (2 * k + 1) - 1) := by
  rw [← fpow_mul, ← fpow_succ]
  congr 1
  have h1 : 1 ≤ 2 ^ (2 * k) := Nat.one_le_two_pow
  rw [Nat.pow_succ]
  omega

section
attribute [local go_sem ↓] load_fe

set_option maxRecDepth 100000 in
set_option maxHeartbeats 1000000 in
theorem ones_any (m : Nat) (hm : m < big) : ∀ (n : Nat) (w : World), 1 ≤ n → n < 1000 →
    Calls Tryd.prog 73 #[fev m, .int .i64 (n : Int)] w (GaveF w (onesv m n)) := by
  intro n
  induction n using Nat.strongRecOn with
  | _ n ih =>
  intro w h1 h2
  obtain ⟨hA, hC, hb, hsz⟩ := fe_start2 w m 0 _ #[.int .u64 0, .int .u64 0, .int .u64 0, .int .u64 0] rfl (by kernel_rfl)
  have F0 : Fe1 w m _ := ⟨hA, hC, hb⟩
  clear hA hC hb hsz
  rw [fev_eq]
  by_cases e : n = 1
  · have hv : Hid (onesv m n = m) := Lib.hid (by unfold onesv; rw [if_pos e])
    have e1 : ((n : Int) == 1) = true := by rw [e]; rfl
    rw [hv.out]
    clear ih h1 h2 e
    go_enter Tryd.func73, Tryd.ntmps73
    go_upto_region 1 with (fail)
    generalize (w.alloc (.cells ((lims m).map nv).toArray 24)).alloc (.cells #[.int .u64 0, .int .u64 0, .int .u64 0, .int .u64 0] 24) = wv at *
    have hA := F0.a
    have hC := F0.c
    go_wp2_with (first
      | (with_reducible refine wpList_load_n rfl 24 (.tmp 2) rfl w.heap.size rfl (lims m) 4 hA rfl Tryd.underlying24 Tryd.infoFe ?_)
      | (with_reducible refine wpList_store_n rfl 24 (.tmp 4) (.tmp 9) rfl (w.heap.size + 1) (lims m) 4 rfl rfl rfl (lims 0) hC Tryd.infoFe rfl w.heap.size w F0.d (by omega) ?_; intro w7 Hg _ _ hb7)
      | fail)
    exact bodyPost_ret (results_cell_row rfl _ _ _ _ _ _ _ rfl Hg Tryd.underlying24 rfl (by rw [Tryd.infoFe]; rfl)) rfl ⟨rfl, hb7⟩
  · obtain ⟨k, hk⟩ : ∃ k, k = n / 2 := ⟨_, rfl⟩
    have e1 : ((n : Int) == 1) = false := by rw [beq_eq_false_iff_ne]; omega
    have ew : wrap64 (((n / 2 : Nat) : Int)) = ((n / 2 : Nat) : Int) := by unfold wrap64; omega
    rw [← hk] at ew
    have ew2 : IntKind.i64.wrap (k : Int) = (k : Int) := by rw [IntKind.wrap_i64]; omega
    have ek : (n : Int).tdiv 2 = (k : Int) := by rw [Int.tdiv_eq_ediv_of_nonneg (by omega)]; omega
    obtain ⟨h, hh⟩ : ∃ h, h = onesv m k := ⟨_, rfl⟩
    obtain ⟨s, hs⟩ : ∃ s, s = sqd h k := ⟨_, rfl⟩
    obtain ⟨x, hx⟩ : ∃ x, x = fpow (toF m) (2 ^ (2 * k) - 1) := ⟨_, rfl⟩
    obtain ⟨s1, hs1⟩ : ∃ s, s = sqd x.val 1 := ⟨_, rfl⟩
    obtain ⟨y, hy⟩ : ∃ y, y = fpow (toF m) (2 ^ (2 * k + 1) - 1) := ⟨_, rfl⟩
    have hhb : h < big := by rw [hh]; exact onesv_lt hm k
    have CO : Hid (∀ W, Calls Tryd.prog 73 #[.agg ((lims m).map nv).toArray, .int .i64 (k : Int)] W fun e w' => e = .returned (.agg ((lims h).map nv).toArray) ∧ Below W.heap.size W w') := Lib.hid fun W => by rw [hh]; exact ih k (by omega) W (by omega) (by omega)
    have CS : Hid (∀ W, Calls Tryd.prog 72 #[.agg ((lims h).map nv).toArray, .int .i64 (k : Int)] W fun e w' => e = .returned (.agg ((lims s).map nv).toArray) ∧ Below W.heap.size W w') := Lib.hid fun W => by rw [hs]; exact squared_any h k W hhb (by omega)
    have CM : Hid (∀ W, Calls Tryd.prog 30 #[.agg ((lims s).map nv).toArray, .agg ((lims h).map nv).toArray] W fun e w' => e = .returned (.agg ((lims x.val).map nv).toArray) ∧ Below W.heap.size W w') := Lib.hid fun W => by
      have := Mul_any s h W (by rw [hs]; exact sqd_lt hhb k) hhb
      rw [hs, hh, ones_double, ← hh, ← hs, ← hx] at this
      exact this
    have CS1 : Hid (∀ W, Calls Tryd.prog 72 #[.agg ((lims x.val).map nv).toArray, .int .i64 1] W fun e w' => e = .returned (.agg ((lims s1).map nv).toArray) ∧ Below W.heap.size W w') := Lib.hid fun W => by rw [hs1]; exact squared_any x.val 1 W (F.lt_big x) (by omega)
    have CM1 : Hid (∀ W, Calls Tryd.prog 30 #[.agg ((lims s1).map nv).toArray, .agg ((lims m).map nv).toArray] W fun e w' => e = .returned (.agg ((lims y.val).map nv).toArray) ∧ Below W.heap.size W w') := Lib.hid fun W => by
      have := Mul_any s1 m W (by rw [hs1]; exact sqd_lt (F.lt_big x) 1) hm
      rw [hs1, toF_sqd, toF_of, hx, ones_more, ← hx, ← hs1, ← hy] at this
      exact this
    have hv : Hid (onesv m n = if n % 2 = 1 then y.val else x.val) := Lib.hid (by
      unfold onesv
      rw [if_neg e, hy, hx]
      split
      · rw [show 2 * k + 1 = n by omega]
      · rw [show 2 * k = n by omega])
    have R1 : Hid (n % 2 = 1 → onesv m n = y.val) := Lib.hid fun h => by rw [hv.out, if_pos h]
    have R0 : Hid (¬ n % 2 = 1 → onesv m n = x.val) := Lib.hid fun h => by rw [hv.out, if_neg h]
    clear hv
    generalize onesv m n = r at *
    have emod : (n : Int).tmod 2 = ((n % 2 : Nat) : Int) := by rw [Int.tmod_eq_emod_of_nonneg (by omega)]; rfl
    clear ih h1 h2 e hk hh hs hx hs1 hy hhb
    go_enter Tryd.func73, Tryd.ntmps73
    go_upto_region 1 with (fail)
    generalize (w.alloc (.cells ((lims m).map nv).toArray 24)).alloc (.cells #[.int .u64 0, .int .u64 0, .int .u64 0, .int .u64 0] 24) = wv at *
    have hA := F0.a
    go_upto_region 4 with (first
      | (with_reducible refine wpList_load_n rfl 24 (.tmp 2) rfl w.heap.size rfl (lims m) 4 hA rfl Tryd.underlying24 Tryd.infoFe ?_)
      | (go_at_call 73
         with_reducible refine (CO.out _).mono ?_
         rintro e w3 ⟨rfl, hb3⟩
         have F3 := Fe1.stay _ _ F0 hb3
         have F3a := Fe1.stay _ _ F3 ((Below.refl _ w3).alloc (Nat.le_refl _) (.cells #[.int .u64 0, .int .u64 0, .int .u64 0, .int .u64 0] 24))
         have z3 := holdsN_new w3 24 w3.heap.size #[.int .u64 0, .int .u64 0, .int .u64 0, .int .u64 0] (lims 0) rfl (by kernel_rfl))
      | (with_reducible refine wpList_store_n rfl 24 (.tmp 5) (.tmp 13) rfl w3.heap.size (lims h) 4 rfl rfl rfl (lims 0) (by with_unfolding_all exact z3) Tryd.infoFe rfl w.heap.size w (by with_unfolding_all exact F3a.d) F3.d.size ?_
         intro w4 H4 o4 s4 b4
         have F4 : Fe2 w m w3.heap.size h w4 := ⟨Fe1.oth (by with_unfolding_all exact F3a) o4 b4 (Fe1.size _ F3), H4⟩
         clear s4)
      | fail)
    clear hA F3a z3 o4 CO F0
    have hg3 := Fe1.size _ F3
    generalize w3.heap.size = g at *
    try dsimp only [Act.put]
    go_cut [6] (fun vp wx => InBlock (max (w.heap.size + 2) (g + 1)) x.val (Fe2 w m g h) vp wx)
    case first =>
      refine wp_region_lex 7 (fun k => k == 6) (MadeFe (max (w.heap.size + 2) (g + 1))) (Fe2 w m g h) (by kernel_rfl) (by kernel_rfl) (Fe2.stay _ _ F4 (Below.refl _ w4).drew) Fe2.stay MadeFe.stay (made_fe Fe2.size rfl) ?_
      simp only [List.take_succ_cons, List.take_zero, List.drop_succ_cons, List.drop_zero]
      refine lexW_value (v := ?_) (by rfl) (by rfl) (fun W hW => ?_) ?_
      rotate_left
      · have l1 := run_loadFe hW.h; go_simp <;> with_reducible rfl
      simp only [Act.put, List.setIfInBounds_toArray, List.set_cons_zero, List.set_cons_succ]
      refine lexW_value (v := ?_) (by rfl) (by rfl) (fun W hW => ?_) ?_
      rotate_left
      · have l1 := run_loadFe hW.h; go_simp <;> with_reducible rfl
      simp only [Act.put, List.setIfInBounds_toArray, List.set_cons_zero, List.set_cons_succ]
      refine lexW_value (v := ?_) (by rfl) (by rfl) (fun W hW => ?_) ?_
      rotate_left
      · have l1 := run_loadFe hW.h; go_simp <;> with_reducible rfl
      simp only [Act.put, List.setIfInBounds_toArray, List.set_cons_zero, List.set_cons_succ]
      refine' lexW_call (by rfl) (by rfl) (fun W hW => ?_) (fun W hW => ?_) ?_
      rotate_left 3
      · go_simp <;> first | with_reducible rfl | exact ⟨rfl, rfl⟩
      · with_reducible exact CS.out W
      simp only [Act.put, List.setIfInBounds_toArray, List.set_cons_zero, List.set_cons_succ]
      refine lexW_value (v := ?_) (by rfl) (by rfl) (fun W hW => ?_) ?_
      rotate_left
      · have l1 := run_loadFe hW.h; go_simp <;> with_reducible rfl
      simp only [Act.put, List.setIfInBounds_toArray, List.set_cons_zero, List.set_cons_succ]
      refine' lexW_call (by rfl) (by rfl) (fun W hW => ?_) (fun W hW => ?_) ?_
      rotate_left 3
      · go_simp <;> first | with_reducible rfl | exact ⟨rfl, rfl⟩
      · with_reducible exact CM.out W
      simp only [Act.put, List.setIfInBounds_toArray, List.set_cons_zero, List.set_cons_succ]
      refine lexW_free (by rfl) ?_
      refine lexW_nil (fun b W hW hE => ?_)
      obtain ⟨_, ⟨g6, rfl, hg, hZ⟩, rfl⟩ := lexEnd_one (j := 6) (d := 6) (by kernel_rfl) hE
      simp only [Act.put, List.setIfInBounds_toArray, List.set_cons_zero, List.set_cons_succ]
      go_wp2_with (with_reducible refine wpList_store_n rfl 24 (.tmp 6) (.tmp 19) rfl g6 (lims x.val) 4 rfl rfl rfl (lims 0) hZ Tryd.infoFe rfl w.heap.size w hW.f.d (by omega) ?_; intro w7 Hg o7 _ hb7)
      go_meet
      exact ⟨g6, rfl, hg, Hg, hW.oth o7 hb7 hg⟩
    case rest =>
      obtain ⟨g6, rfl, hg, HQ, F6⟩ := hcut
      have F7 : Fe2 w m g6 x.val wc := ⟨F6.f, HQ⟩
      clear F6 HQ CS CM
      by_cases ho : n % 2 = 1
      · have R := Lib.hid (R1.out ho)
        clear R1 R0
        have e2 : (((n % 2 : Nat) : Int) == 1) = true := by rw [ho]; rfl
        generalize n % 2 = par at *
        go_upto_region 6 with (fail)
        refine wp_region_lex 4 (fun _ => false) (MadeFe 0) (Fe2 w m g6 x.val) (by kernel_rfl) (by kernel_rfl) (Fe2.stay _ _ F7 (Below.refl _ wc).drew) Fe2.stay MadeFe.stay lex_none ?_
        simp only [List.take_succ_cons, List.take_zero, List.drop_succ_cons, List.drop_zero]
        refine lexW_value (v := ?_) (by rfl) (by rfl) (fun W hW => ?_) ?_
        rotate_left
        · have l1 := run_loadFe hW.h; go_simp <;> with_reducible rfl
        simp only [Act.put, List.setIfInBounds_toArray, List.set_cons_zero, List.set_cons_succ]
        refine' lexW_call (by rfl) (by rfl) (fun W hW => ?_) (fun W hW => ?_) ?_
        rotate_left 3
        · go_simp <;> first | with_reducible rfl | exact ⟨rfl, rfl⟩
        · with_reducible exact CS1.out W
        simp only [Act.put, List.setIfInBounds_toArray, List.set_cons_zero, List.set_cons_succ]
        refine lexW_value (v := ?_) (by rfl) (by rfl) (fun W hW => ?_) ?_
        rotate_left
        · have l1 := run_loadFe hW.f.a; go_simp <;> with_reducible rfl
        simp only [Act.put, List.setIfInBounds_toArray, List.set_cons_zero, List.set_cons_succ]
        refine' lexW_call (by rfl) (by rfl) (fun W hW => ?_) (fun W hW => ?_) ?_
        rotate_left 3
        · go_simp <;> first | with_reducible rfl | exact ⟨rfl, rfl⟩
        · with_reducible exact CM1.out W
        simp only [Act.put, List.setIfInBounds_toArray, List.set_cons_zero, List.set_cons_succ]
        refine lexW_nil (fun b W hW hE => ?_)
        obtain rfl := lexEnd_none hE
        have hC := hW.f.c
        go_wp2_with (first
          | (with_reducible refine wpList_store_n rfl 24 (.tmp 6) (.tmp 26) rfl g6 (lims y.val) 4 rfl rfl rfl (lims x.val) hW.h Tryd.infoFe rfl w.heap.size w hW.f.d (by omega) ?_
             intro w7 H7 o7 s7 b7
             have hC7 := hC.oth o7 (by omega)
             clear s7)
          | (with_reducible refine wpList_load_n rfl 24 (.tmp 6) rfl g6 rfl (lims y.val) 4 H7 rfl Tryd.underlying24 Tryd.infoFe ?_)
          | (with_reducible refine wpList_store_n rfl 24 (.tmp 4) (.tmp 27) rfl (w.heap.size + 1) (lims y.val) 4 rfl rfl rfl (lims 0) hC7 Tryd.infoFe rfl w.heap.size w b7 (by omega) ?_; intro w8 Hg _ _ hb8)
          | fail)
        exact bodyPost_ret (results_cell_row rfl _ _ _ _ _ _ _ rfl Hg Tryd.underlying24 rfl (by rw [Tryd.infoFe]; rfl)) rfl ⟨by rw [R.out]; rfl, hb8⟩
      · have R := Lib.hid (R0.out ho)
        clear R1 R0
        have e2 : (((n % 2 : Nat) : Int) == 1) = false := by rw [beq_eq_false_iff_ne]; omega
        generalize n % 2 = par at *
        have hC := F7.f.c
        have hH := F7.h
        go_wp2_with (first
          | (with_reducible refine wpList_load_n rfl 24 (.tmp 6) rfl g6 rfl (lims x.val) 4 hH rfl Tryd.underlying24 Tryd.infoFe ?_)
          | (with_reducible refine wpList_store_n rfl 24 (.tmp 4) (.tmp 27) rfl (w.heap.size + 1) (lims x.val) 4 rfl rfl rfl (lims 0) hC Tryd.infoFe rfl w.heap.size w F7.f.d (by omega) ?_; intro w8 Hg _ _ hb8)
          | fail)
        exact bodyPost_ret (results_cell_row rfl _ _ _ _ _ _ _ rfl Hg Tryd.underlying24 rfl (by rw [Tryd.infoFe]; rfl)) rfl ⟨by rw [R.out]; rfl, hb8⟩
end
end Go.Proofs.YthaheekjmofgnaaDoor
