/-
  The program's numbers modulo P: the whole product of two, walked.
  The program's numbers modulo P: products.
  The program's numbers modulo P: what is below 0; squares of squares.
  Blocks that are made freely while a statement runs: a number's.
-/
import Derived.Test.YtlfkohanfeejfaaDoorMag
import Derived.Test.YtlfkohanfeejfaaDoorMah
import Derived.Test.YtlfkohanfeejfaaDoorMap
namespace Go.Proofs.YtlfkohanfeejfaaDoor
open Go.RowKit

/-- Eight limbs. -/
def lims8 (n : Nat) : List Nat := mixL 8 n 0 8
theorem lims8_length (n : Nat) : (lims8 n).length = 8 := mixL_length ..
theorem lims8_zero : List.replicate 8 0 = lims8 0 := by decide
theorem run_index_fe (n k : Nat) (w : World) (h : k < 4) : (Instr.index 24 (.agg ((lims n).map nv).toArray) (.int .i64 (k : Int))).run Tryd.prog w = .ok (.int .u64 (limb n k : Int)) w := by
  match k, h with
  | 0, _ => simp [Instr.index, run_underlying Tryd.underlying24, asIntOf, go_sem, lims, nv]
  | 1, _ => simp [Instr.index, run_underlying Tryd.underlying24, asIntOf, go_sem, lims, nv]
  | 2, _ => simp [Instr.index, run_underlying Tryd.underlying24, asIntOf, go_sem, lims, nv]
  | 3, _ => simp [Instr.index, run_underlying Tryd.underlying24, asIntOf, go_sem, lims, nv]
theorem zeros8 : (#[.int .u64 0, .int .u64 0, .int .u64 0, .int .u64 0, .int .u64 0, .int .u64 0, .int .u64 0, .int .u64 0] : Array Value) = ((lims8 0).map nv).toArray := by rw [← lims8_zero]; rfl
theorem prod_start (w : World) (m n : Nat) (c1 c2 c3 c4 : Array Value) (h1 : c1 = ((lims m).map nv).toArray) (h2 : c2 = ((lims n).map nv).toArray) (h3 : c3 = ((lims8 0).map nv).toArray) (h4 : c4 = ((lims8 0).map nv).toArray) :
    HoldsN ((((w.alloc (.cells c1 24)).alloc (.cells c2 24)).alloc (.cells c3 78)).alloc (.cells c4 78)) 24 w.heap.size (lims m) ∧
    HoldsN ((((w.alloc (.cells c1 24)).alloc (.cells c2 24)).alloc (.cells c3 78)).alloc (.cells c4 78)) 24 (w.heap.size + 1) (lims n) ∧
    HoldsN ((((w.alloc (.cells c1 24)).alloc (.cells c2 24)).alloc (.cells c3 78)).alloc (.cells c4 78)) 78 (w.heap.size + 1 + 1) (lims8 0) ∧
    HoldsN ((((w.alloc (.cells c1 24)).alloc (.cells c2 24)).alloc (.cells c3 78)).alloc (.cells c4 78)) 78 (w.heap.size + 1 + 1 + 1) (lims8 0) ∧
    Below w.heap.size w ((((w.alloc (.cells c1 24)).alloc (.cells c2 24)).alloc (.cells c3 78)).alloc (.cells c4 78)) := by
  obtain ⟨a, a2, b, e⟩ := fe_start2 w m n c1 c2 h1 h2
  have e3 : (((w.alloc (.cells c1 24)).alloc (.cells c2 24)).alloc (.cells c3 78)).heap.size = w.heap.size + 1 + 1 + 1 := by rw [World.size_alloc, e]
  exact ⟨(a.alloc _).alloc _, (a2.alloc _).alloc _, (holdsN_new _ _ _ _ _ e.symm h3).alloc _, holdsN_new _ _ _ _ _ e3.symm h4, (b.alloc (by omega) _).alloc (by omega) _⟩

set_option maxRecDepth 100000 in
set_option maxHeartbeats 2000000 in
theorem product_any (m n : Nat) (w : World) (hm : m < big) (hn : n < big) :
    Calls Tryd.prog 70 #[fev m, fev n] w fun e w' => e = .returned (.agg ((lims8 (m * n)).map nv).toArray) ∧ Below w.heap.size w w' := by
  have TP : Hid (∀ (i j : Nat) W, j < 4 → Calls Tryd.prog 71 #[.int .u64 (limb m i : Int), .int .u64 (limb n j : Int), .int .u64 (limb (rows m n i) (i + j) : Int), .int .u64 (cy (limb m i) n (rest m n i) 0 j : Int)] W fun e w' => e = .returned (.tuple #[.int .u64 (limb (rows m n (i + 1)) (i + j) : Int), .int .u64 (cy (limb m i) n (rest m n i) 0 (j + 1) : Int)]) ∧ w' = W) := Lib.hid fun i j W _ => by
    have h := timesPlus_any (limb m i) (limb n j) (limb (rows m n i) (i + j)) (cy (limb m i) n (rest m n i) 0 j) (limb_lt _ _) (limb_lt _ _) (limb_lt _ _) (cy_lt (limb_lt _ _) (by omega) _) W
    rw [(row_step m n i j).1, (row_step m n i j).2] at h
    exact h
  have RS : Hid (∀ i, mixL 8 (rows m n (i + 1)) (rows m n i) i = lims8 (rows m n i)) := Lib.hid fun i => rows_start
  have RE : Hid (∀ i, mixL 8 (rows m n (i + 1)) (rows m n i) (i + 5) = lims8 (rows m n (i + 1))) := Lib.hid fun i => rows_end hn
  have RL : Hid (∀ i, cy (limb m i) n (rest m n i) 0 4 = limb (rows m n (i + 1)) (i + 4)) := Lib.hid fun i => row_last hn
  have R0' : Hid (lims8 (rows m n 0) = lims8 0) := Lib.hid (by rw [rows_zero])
  have R4 : Hid (rows m n 4 = m * n) := Lib.hid (rows_four hm n)
  have C0 : Hid (∀ i, cy (limb m i) n (rest m n i) 0 0 = 0) := Lib.hid fun i => cy_zero _ _ _ _
  obtain ⟨hA, hB, hC, hD, hb⟩ := prod_start w m n _ _ _ _ rfl rfl zeros8 zeros8
  rw [← R0'.out] at hD
  clear hm hn
  generalize m * n = mn at *
  rw [fev_eq, fev_eq]
  go_enter Tryd.func70, Tryd.ntmps70
  go_upto_region 2 with (fail)
  generalize (((w.alloc (.cells ((lims m).map nv).toArray 24)).alloc (.cells ((lims n).map nv).toArray 24)).alloc (.cells #[.int .u64 0, .int .u64 0, .int .u64 0, .int .u64 0, .int .u64 0, .int .u64 0, .int .u64 0, .int .u64 0] 78)).alloc (.cells #[.int .u64 0, .int .u64 0, .int .u64 0, .int .u64 0, .int .u64 0, .int .u64 0, .int .u64 0, .int .u64 0] 78) = wv at *
  go_wp2_with (first
    | (with_reducible refine wpList_load_n rfl 24 (.tmp 2) rfl w.heap.size rfl (lims m) 4 hA rfl Tryd.underlying24 Tryd.infoFe ?_)
    | fail)
  go_loopw [12] (fun vi wr => ∃ i : Nat, i ≤ 4 ∧ vi = .int .i64 (i : Int) ∧ HoldsN wr 24 (w.heap.size + 1) (lims n) ∧ HoldsN wr 78 (w.heap.size + 1 + 1) (lims8 0) ∧ HoldsN wr 78 (w.heap.size + 1 + 1 + 1) (lims8 (rows m n i)) ∧ Below w.heap.size w wr)
    (fun vi _ => 4 - (intOf vi).toNat)
  case atStart => exact ⟨0, Nat.zero_le _, rfl, hB, hC, hD, hb⟩
  case round =>
    clear hA hB hC hD hb
    obtain ⟨i, hi, rfl, hB, hC, hD, hb⟩ := hrel
    by_cases hlt : i < 4
    · have hi2 : (i : Int) < 4 := by omega
      have ix := fun W => run_index_fe m i W hlt
      rw [← RS.out i] at hD
      go_wp2_with (first
        | (with_reducible refine wpList_load_n rfl 24 (.tmp 3) rfl (w.heap.size + 1) rfl (lims n) 4 hB rfl Tryd.underlying24 Tryd.infoFe ?_)
        | fail)
      go_loopw [8, 17] (fun vc vj wx => ∃ j : Nat, j ≤ 4 ∧ vj = .int .i64 (j : Int) ∧ vc = .int .u64 (cy (limb m i) n (rest m n i) 0 j : Int) ∧ HoldsN wx 24 (w.heap.size + 1) (lims n) ∧ HoldsN wx 78 (w.heap.size + 1 + 1) (lims8 0) ∧ HoldsN wx 78 (w.heap.size + 1 + 1 + 1) (mixL 8 (rows m n (i + 1)) (rows m n i) (i + j)) ∧ Below w.heap.size w wx)
        (fun _ vj _ => 4 - (intOf vj).toNat)
      case atStart => exact ⟨0, Nat.zero_le _, rfl, by rw [C0.out]; rfl, hB, hC, hD, hb⟩
      case round =>
        clear hB hC hD hb
        obtain ⟨j, hj, rfl, rfl, hB, hC, hD, hb⟩ := hrel
        by_cases hjt : j < 4
        · have hj2 : (j : Int) < 4 := by omega
          have iy := fun W => run_index_fe n j W hjt
          have ij0 : (0 : Int) ≤ (i : Int) + (j : Int) := by omega
          have ij : IntKind.i64.wrap ((i : Int) + (j : Int)) = ((i + j : Nat) : Int) := by rw [IntKind.wrap_i64]; omega
          have ij8 : ((i + j : Nat) : Int) < 8 := by omega
          have hij : i + j < 8 := by omega
          have cd := hD.cell (j := i + j) (by rw [mixL_length]; exact hij)
          rw [mixL_get hij, if_neg (Nat.lt_irrefl _)] at cd
          have fd := hD.frozen (i + j)
          have hL := Lib.hid (mixL_set (S := rows m n (i + 1)) (M := rows m n i) hij)
          have TPx : Hid (∀ W, Calls Tryd.prog 71 #[.int .u64 (limb m i : Int), .int .u64 (limb n j : Int), .int .u64 (limb (rows m n i) (i + j) : Int), .int .u64 (cy (limb m i) n (rest m n i) 0 j : Int)] W fun e w' => e = .returned (.tuple #[.int .u64 (limb (rows m n (i + 1)) (i + j) : Int), .int .u64 (cy (limb m i) n (rest m n i) 0 (j + 1) : Int)]) ∧ w' = W) := Lib.hid fun W => TP.out i j W hjt
          generalize limb (rows m n (i + 1)) (i + j) = x at *
          generalize hc' : cy (limb m i) n (rest m n i) 0 (j + 1) = c' at *
          have HC := Lib.hid hc'
          clear hc'
          generalize cy (limb m i) n (rest m n i) 0 j = c at *
          generalize limb (rows m n i) (i + j) = y at *
          generalize limb n j = z at *
          generalize hij' : i + j = p at *
          have HP := Lib.hid hij'
          clear hij'
          go_wp2_with (first
            | (go_at_call 71
               with_reducible refine (TPx.out _).mono ?_
               rintro e w3 ⟨rfl, rfl⟩)
            | fail)
          go_roundw
          case rel => exact ⟨j + 1, by omega, by go_num, by rw [HC.out], hB.setOther _ _ (by simp), hC.setOther _ _ (by simp), by rw [show i + (j + 1) = p + 1 by have := HP.out; omega, ← hL.out]; exact hD.set p x, hb.setCell (p := ⟨w.heap.size + 1 + 1 + 1, p, none⟩) (by simp; omega) _⟩
          case measure => simp [intOf]; omega
        · rw [show (j : Int) = 4 by omega]
          obtain rfl : j = 4 := by omega
          have hL := Lib.hid (mixL_set (S := rows m n (i + 1)) (M := rows m n i) (show i + 4 < 8 by omega))
          have fd := hD.frozen (i + 4)
          have cd := hD.cell (j := i + 4) (by rw [mixL_length]; omega)
          rw [mixL_get (by omega), if_neg (Nat.lt_irrefl _)] at cd
          have hrl := RL.out i
          have i4 : IntKind.i64.wrap ((i : Int) + 4) = ((i + 4 : Nat) : Int) := by rw [IntKind.wrap_i64]; omega
          have i48 : ((i + 4 : Nat) : Int) < 8 := by omega
          have he := Lib.hid (RE.out i)
          generalize limb (rows m n (i + 1)) (i + 4) = x at *
          generalize cy (limb m i) n (rest m n i) 0 4 = c at *
          subst hrl
          generalize limb (rows m n i) (i + 4) = y at *
          generalize hip : i + 4 = p at *
          have HP := Lib.hid hip
          clear hip
          go_wp2
          go_roundw
          case rel => exact ⟨i + 1, by omega, by go_num, hB.setOther _ _ (by simp), hC.setOther _ _ (by simp), by rw [← he.out, show i + 5 = p + 1 by have := HP.out; omega, ← hL.out]; exact hD.set p c, hb.setCell (p := ⟨w.heap.size + 1 + 1 + 1, p, none⟩) (by simp; omega) _⟩
          case measure => simp [intOf]; omega
    · rw [show (i : Int) = 4 by omega]
      obtain rfl : i = 4 := by omega
      rw [R4.out] at hD
      clear hB
      go_wp2_with (first
        | (with_reducible refine wpList_load_n rfl 78 (.tmp 5) rfl (w.heap.size + 1 + 1 + 1) rfl (lims8 mn) 8 hD (lims8_length _) Tryd.underlying78 Tryd.infoProd ?_)
        | (with_reducible refine wpList_store_n rfl 78 (.tmp 4) (.tmp 43) rfl (w.heap.size + 1 + 1) (lims8 mn) 8 rfl rfl (lims8_length _) (lims8 0) hC Tryd.infoProd (lims8_length _) w.heap.size w hb (by omega) ?_; intro w7 Hg _ _ hb7)
        | fail)
      exact bodyPost_ret (results_cell_row rfl _ _ _ _ _ _ _ rfl Hg Tryd.underlying78 rfl (by rw [Tryd.infoProd]; simp [lims8_length])) rfl ⟨rfl, hb7⟩
end Go.Proofs.YtlfkohanfeejfaaDoor

namespace Go.Proofs.YtlfkohanfeejfaaDoor
open Go.RowKit

/-- What stands above 2^256 comes back 38 times. -/
def fold38 (T : Nat) : Nat := 38 * (T / big) + T % big + 0
theorem toF_fold (T : Nat) : toF (fold38 T) = toF T := by
  rw [toF_eq]
  have h := Nat.mod_add_div T big
  have e : big = 2 * PP + 38 := by decide
  conv => rhs; rw [← h]
  unfold fold38
  generalize T / big = u
  generalize T % big = v
  rw [show v + big * u = 38 * u + v + 0 + PP * (2 * u) by rw [e, Nat.add_mul, Nat.mul_assoc, Nat.mul_left_comm]; omega, Nat.add_mul_mod_self_left]
theorem limb_low {T k : Nat} (h : k < 4) : limb (T % big) k = limb T k := by
  have e : big = 18446744073709551616 ^ k * (18446744073709551616 * 18446744073709551616 ^ (3 - k)) := by
    rw [← Nat.pow_succ', ← Nat.pow_add, show k + (3 - k + 1) = 4 by omega, big_pow]
  unfold limb
  rw [e, Nat.mod_mul_right_div_self, Nat.mod_mul_right_mod]
theorem limb_high (T k : Nat) : limb (T / big) k = limb T (4 + k) := by rw [← big_pow, limb_div]
theorem fold_step {T k : Nat} (hk : k < 4) : (limb T (k + 4) * 38 + limb T k + cy 38 (T / big) (T % big) 0 k) % 18446744073709551616 = limb (fold38 T) k ∧
    (limb T (k + 4) * 38 + limb T k + cy 38 (T / big) (T % big) 0 k) / 18446744073709551616 = cy 38 (T / big) (T % big) 0 (k + 1) := by
  have h1 := lin_limb 38 (T / big) (T % big) 0 k
  have h2 := cy_succ 38 (T / big) (T % big) 0 k
  rw [limb_low hk, limb_high, Nat.add_comm 4 k, Nat.mul_comm 38] at h1 h2
  rw [Nat.mul_comm 38] at h1
  refine ⟨?_, h2.symm⟩
  unfold fold38
  rw [Nat.mul_comm 38, h1]
theorem fold_big {m n : Nat} (hm : m < big) (hn : n < big) : fold38 (m * n) / big = cy 38 (m * n / big) (m * n % big) 0 4 ∧ cy 38 (m * n / big) (m * n % big) 0 4 ≤ 38 := by
  have h1 : m * n / big < big := by
    rw [Nat.div_lt_iff_lt_mul (by decide)]
    rcases Nat.eq_zero_or_pos n with h | h
    · subst h; rw [Nat.mul_zero]; decide
    · exact Nat.lt_of_lt_of_le (Nat.mul_lt_mul_of_pos_right hm h) (Nat.mul_le_mul_left _ (Nat.le_of_lt hn))
  have h2 : m * n % big < big := Nat.mod_lt _ (by decide)
  rw [cy_whole (by rw [big_pow]; exact h1) (by rw [big_pow]; exact h2), big_pow]
  unfold fold38
  generalize m * n / big = u at *
  generalize m * n % big = v at *
  refine ⟨rfl, ?_⟩
  unfold big at *
  omega
theorem toF_prod (m n : Nat) : toF (fold38 (m * n)) = toF m * toF n := by rw [toF_fold, toF_mul]

theorem prod_keep (w1 : World) (g : Nat) {l : Nat} {ty : TypeId} (h : HoldsN w1 ty g (lims l)) (o : Obj) : HoldsN (w1.alloc o) ty g (lims l) := h.alloc o

set_option maxRecDepth 100000 in
set_option maxHeartbeats 2000000 in
theorem Mul_any (m n : Nat) (w : World) (hm : m < big) (hn : n < big) :
    Calls Tryd.prog 43 #[fev m, fev n] w (GaveF w (toF m * toF n).val) := by
  obtain ⟨hA, hB, hC, hb, hsz⟩ := fe_start3 w m n 0 _ _ #[.int .u64 0, .int .u64 0, .int .u64 0, .int .u64 0] rfl rfl (by kernel_rfl)
  obtain ⟨h4, h41⟩ := fold_big hm hn
  have PD : Hid (∀ W, Calls Tryd.prog 70 #[.agg ((lims m).map nv).toArray, .agg ((lims n).map nv).toArray] W fun e w' => e = .returned (.agg ((lims8 (m * n)).map nv).toArray) ∧ Below W.heap.size W w') := Lib.hid fun W => product_any m n W hm hn
  have BL : Hid (∀ W, Calls Tryd.prog 56 #[.agg ((lims (fold38 (m * n))).map nv).toArray, .int .u64 (cy 38 (m * n / big) (m * n % big) 0 4 : Int)] W fun e w' => e = .returned (.agg ((lims (toF m * toF n).val).map nv).toArray) ∧ Below W.heap.size W w') := Lib.hid fun W => by rw [← toF_prod]; exact below_of _ _ h4 (by omega) W
  clear h4 h41 hm hn
  generalize (toF m * toF n).val = v at *
  generalize m * n = T at *
  have C0 : Hid (cy 38 (T / big) (T % big) 0 0 = 0) := Lib.hid (cy_zero _ _ _ _)
  have TP : Hid (∀ (k : Nat) W, k < 4 → Calls Tryd.prog 71 #[.int .u64 (limb T (k + 4) : Int), .int .u64 38, .int .u64 (limb T k : Int), .int .u64 (cy 38 (T / big) (T % big) 0 k : Int)] W fun e w' => e = .returned (.tuple #[.int .u64 (limb (fold38 T) k : Int), .int .u64 (cy 38 (T / big) (T % big) 0 (k + 1) : Int)]) ∧ w' = W) := Lib.hid fun k W hk => by
    have h := timesPlus_any (limb T (k + 4)) 38 (limb T k) (cy 38 (T / big) (T % big) 0 k) (limb_lt _ _) (by omega) (limb_lt _ _) (cy_lt (by omega) (by omega) _) W
    rw [(fold_step hk).1, (fold_step hk).2] at h
    exact h
  rw [fev_eq, fev_eq]
  go_enter Tryd.func43, Tryd.ntmps43
  go_upto_region 1 with (fail)
  generalize ((w.alloc (.cells ((lims m).map nv).toArray 24)).alloc (.cells ((lims n).map nv).toArray 24)).alloc (.cells #[.int .u64 0, .int .u64 0, .int .u64 0, .int .u64 0] 24) = wv at *
  go_wp2_with (first
    | (with_reducible refine wpList_load_n rfl 24 (.tmp 2) rfl w.heap.size rfl (lims m) 4 hA rfl Tryd.underlying24 Tryd.infoFe ?_)
    | (with_reducible refine wpList_load_n rfl 24 (.tmp 3) rfl (w.heap.size + 1) rfl (lims n) 4 hB rfl Tryd.underlying24 Tryd.infoFe ?_)
    | (go_at_call 70
       with_reducible refine (PD.out _).mono ?_
       rintro e w1 ⟨rfl, hb1⟩
       have hA1 := hA.keep hb1 hA.lt
       have hC1 := hC.keep hb1 hC.lt
       have b1 := hb.trans (hb1.mono hb.size)
       have l1 := hC1.lt
       have z1 := holdsN_new w1 78 _ _ _ rfl zeros8
       have b1a := b1.alloc b1.size (.cells #[.int .u64 0, .int .u64 0, .int .u64 0, .int .u64 0, .int .u64 0, .int .u64 0, .int .u64 0, .int .u64 0] 78)
       have hA1a := hA1.alloc (.cells #[.int .u64 0, .int .u64 0, .int .u64 0, .int .u64 0, .int .u64 0, .int .u64 0, .int .u64 0, .int .u64 0] 78)
       have hC1a := hC1.alloc (.cells #[.int .u64 0, .int .u64 0, .int .u64 0, .int .u64 0, .int .u64 0, .int .u64 0, .int .u64 0, .int .u64 0] 78))
    | (with_reducible refine wpList_store_n rfl 78 (.tmp 5) (.tmp 10) rfl w1.heap.size (lims8 T) 8 rfl rfl (lims8_length _) (lims8 0) (by with_unfolding_all exact z1) Tryd.infoProd (lims8_length _) w.heap.size w (by with_unfolding_all exact b1a) b1.size ?_
       intro w2 hP o2 s2 b2
       have hA2 : HoldsN w2 24 w.heap.size (lims m) := (o2 _ (by omega)).trans (by with_unfolding_all exact hA1a)
       have hC2 : HoldsN w2 24 (w.heap.size + 2) (lims 0) := (o2 _ (by omega)).trans (by with_unfolding_all exact hC1a)
       clear s2)
    | fail)
  clear hA hB hC hb hsz hA1 hC1 hb1 b1 z1 b1a hA1a hC1a o2 PD
  go_loopw [6, 11] (fun vc vi wr => ∃ k : Nat, k ≤ 4 ∧ vi = .int .i64 (k : Int) ∧ vc = .int .u64 (cy 38 (T / big) (T % big) 0 k : Int) ∧ HoldsN wr 24 w.heap.size (mixL 4 (fold38 T) m k) ∧ HoldsN wr 24 (w.heap.size + 2) (lims 0) ∧ HoldsN wr 78 w1.heap.size (lims8 T) ∧ Below w.heap.size w wr)
    (fun _ vi _ => 4 - (intOf vi).toNat)
  case atStart => exact ⟨0, Nat.zero_le _, rfl, by rw [C0.out]; rfl, hA2, hC2, hP, b2⟩
  case round =>
    clear hA2 hC2 hP b2
    obtain ⟨k, hk, rfl, rfl, hA, hC, hP, hb⟩ := hrel
    by_cases hlt : k < 4
    · have hj2 : (k : Int) < 4 := by omega
      have hj8 : (k : Int) < 8 := by omega
      have i4 : IntKind.i64.wrap ((k : Int) + 4) = ((k + 4 : Nat) : Int) := by rw [IntKind.wrap_i64]; omega
      have i48 : ((k + 4 : Nat) : Int) < 8 := by omega
      have hf := hA.frozen k
      have ca := hA.cell (j := k) (by rw [mixL_length]; exact hlt)
      rw [mixL_get hlt, if_neg (Nat.lt_irrefl k)] at ca
      have c1 := hP.cell (j := k + 4) (by rw [lims8_length]; omega)
      have c2 := hP.cell (j := k) (by rw [lims8_length]; omega)
      unfold lims8 at c1 c2
      rw [mixL_get (by omega), if_pos (by omega)] at c1 c2
      have hL := Lib.hid (mixL_set (S := fold38 T) (M := m) hlt)
      have TPx : Hid (∀ W, Calls Tryd.prog 71 #[.int .u64 (limb T (k + 4) : Int), .int .u64 38, .int .u64 (limb T k : Int), .int .u64 (cy 38 (T / big) (T % big) 0 k : Int)] W fun e w' => e = .returned (.tuple #[.int .u64 (limb (fold38 T) k : Int), .int .u64 (cy 38 (T / big) (T % big) 0 (k + 1) : Int)]) ∧ w' = W) := Lib.hid fun W => TP.out k W hlt
      generalize limb (fold38 T) k = x at *
      generalize limb T k = y at *
      generalize limb T (k + 4) = z at *
      generalize cy 38 (T / big) (T % big) 0 k = c at *
      generalize hc' : cy 38 (T / big) (T % big) 0 (k + 1) = c' at *
      have HC := Lib.hid hc'
      clear hc'
      generalize k + 4 = p at *
      go_upto_region 6 with (fail)
      go_region_with (go_at_call 71; refine (TPx.out _).mono ?_; rintro e w3 ⟨rfl, rfl⟩)
      all_goals
        go_wp2
        go_roundw
        case rel => exact ⟨k + 1, by omega, by go_num, by rw [HC.out], by rw [← hL.out]; exact (hA.drewN _).set k x, (hC.drewN _).setOther _ _ (by simp), (hP.drewN _).setOther _ _ (by simp; omega), (below_drewN hb _).setCell (p := ⟨w.heap.size, k, none⟩) (Nat.le_refl _) _⟩
        case measure => simp [intOf]; omega
    · rw [show (k : Int) = 4 by omega]
      obtain rfl : k = 4 := by omega
      rw [lims_mix4] at hA
      clear hP
      generalize cy 38 (T / big) (T % big) 0 4 = c at *
      generalize fold38 T = s at *
      go_wp2_with (first
        | (with_reducible refine wpList_load_n rfl 24 (.tmp 2) rfl w.heap.size rfl (lims s) 4 hA rfl Tryd.underlying24 Tryd.infoFe ?_)
        | (go_at_call 56
           with_reducible refine (BL.out _).mono ?_
           rintro e w3 ⟨rfl, hb3⟩
           have hC3 := hC.keep hb3 hC.lt
           have b3 := hb.trans (hb3.mono hb.size))
        | (with_reducible refine wpList_store_n rfl 24 (.tmp 4) (.tmp 31) rfl (w.heap.size + 2) (lims v) 4 rfl rfl rfl (lims 0) hC3 Tryd.infoFe rfl w.heap.size w b3 (by omega) ?_; intro w7 Hg _ _ hb7))
      exact bodyPost_ret (results_cell_row rfl _ _ _ _ _ _ _ rfl Hg Tryd.underlying24 rfl (by rw [Tryd.infoFe]; rfl)) rfl ⟨rfl, hb7⟩
end Go.Proofs.YtlfkohanfeejfaaDoor

namespace Go.Proofs.YtlfkohanfeejfaaDoor
open Go.RowKit

theorem F.zero_sub (a : F) : toF 0 - a = -a := by
  have h : toF 0 = 0 := rfl
  rw [h]; grind
set_option maxRecDepth 100000 in
set_option maxHeartbeats 1000000 in
theorem NegP_any (m : Nat) (w : World) (hm : m < big) (L0 : LaidP w) :
    Calls Tryd.prog 49 #[fev m] w (GaveF w (-toF m).val) := by
  obtain ⟨hA, hC, hb, hsz⟩ := fe_start2 w m 0 _ #[.int .u64 0, .int .u64 0, .int .u64 0, .int .u64 0] rfl (by kernel_rfl)
  have z0 : Value.agg #[.int .u64 0, .int .u64 0, .int .u64 0, .int .u64 0] = fev 0 := by kernel_rfl
  have SB : Hid (∀ W, LaidP W → Calls Tryd.prog 45 #[.agg #[.int .u64 0, .int .u64 0, .int .u64 0, .int .u64 0], .agg ((lims m).map nv).toArray] W fun e w' => e = .returned (.agg ((lims (-toF m).val).map nv).toArray) ∧ Below W.heap.size W w') := Lib.hid fun W L => by rw [z0, ← F.zero_sub]; exact SubP_any 0 m W (by decide) hm L
  have L1 := L0.keep hb L0.size
  generalize (-toF m).val = v at *
  rw [fev_eq]
  clear hm z0
  go_enter Tryd.func49, Tryd.ntmps49
  go_upto_region 1 with (fail)
  generalize (w.alloc (.cells ((lims m).map nv).toArray 24)).alloc (.cells #[.int .u64 0, .int .u64 0, .int .u64 0, .int .u64 0] 24) = wv at *
  go_wp2_with (first
    | (with_reducible refine wpList_load_n rfl 24 (.tmp 1) rfl w.heap.size rfl (lims m) 4 hA rfl Tryd.underlying24 Tryd.infoFe ?_)
    | (go_at_call 45
       with_reducible refine (SB.out _ L1).mono ?_
       rintro e w3 ⟨rfl, hb3⟩
       have hC3 := hC.keep hb3 hC.lt
       have b3 := hb.trans (hb3.mono hb.size))
    | (with_reducible refine wpList_store_n rfl 24 (.tmp 2) (.tmp 5) rfl (w.heap.size + 1) (lims v) 4 rfl rfl rfl (lims 0) hC3 Tryd.infoFe rfl w.heap.size w b3 (by omega) ?_; intro w7 Hg _ _ hb7)
    | fail)
  exact bodyPost_ret (results_cell_row rfl _ _ _ _ _ _ _ rfl Hg Tryd.underlying24 rfl (by rw [Tryd.infoFe]; rfl)) rfl ⟨rfl, hb7⟩
theorem Neg_any (m : Nat) (w : World) (hm : m < big) (L0 : LaidF w) : Calls Tryd.prog 49 #[fev m] w (GaveF w (-toF m).val) := NegP_any m w hm L0.p

/-- A number's square's square, and so on, as the program leaves it. -/
def sqd (m n : Nat) : Nat := if n = 0 then m else (fpow (toF m) (2 ^ n)).val
theorem toF_sqd (m n : Nat) : toF (sqd m n) = fpow (toF m) (2 ^ n) := by
  unfold sqd
  by_cases h : n = 0
  · rw [if_pos h, h, Nat.pow_zero, fpow_one]
  · rw [if_neg h, toF_of]
theorem sqd_lt {m : Nat} (hm : m < big) (n : Nat) : sqd m n < big := by
  unfold sqd
  split
  · exact hm
  · exact F.lt_big _
theorem sqd_zero (m : Nat) : sqd m 0 = m := rfl
theorem sqd_succ (m n : Nat) : (toF (sqd m n) * toF (sqd m n)).val = sqd m (n + 1) := by
  rw [toF_sqd, ← fpow_add, show 2 ^ n + 2 ^ n = 2 ^ (n + 1) by rw [Nat.pow_succ]; omega]
  rfl
theorem sqd_pos (m : Nat) {n : Nat} (h : 0 < n) : sqd m n = (fpow (toF m) (2 ^ n)).val := by
  unfold sqd; rw [if_neg (by omega)]

set_option maxRecDepth 100000 in
set_option maxHeartbeats 1000000 in
theorem squared_any (m n : Nat) (w : World) (hm : m < big) (hn : n < 1000000) :
    Calls Tryd.prog 87 #[fev m, .int .i64 (n : Int)] w (GaveF w (sqd m n)) := by
  obtain ⟨hA, hC, hb, hsz⟩ := fe_start2 w m 0 _ #[.int .u64 0, .int .u64 0, .int .u64 0, .int .u64 0] rfl (by kernel_rfl)
  have ML : Hid (∀ k W, Calls Tryd.prog 43 #[.agg ((lims (sqd m k)).map nv).toArray, .agg ((lims (sqd m k)).map nv).toArray] W fun e w' => e = .returned (.agg ((lims (sqd m (k + 1))).map nv).toArray) ∧ Below W.heap.size W w') := Lib.hid fun k W => by
    rw [← sqd_succ]; exact Mul_any (sqd m k) (sqd m k) W (sqd_lt hm k) (sqd_lt hm k)
  have S0 : Hid (sqd m 0 = m) := Lib.hid (sqd_zero m)
  rw [fev_eq]
  clear hm
  go_enter Tryd.func87, Tryd.ntmps87
  go_upto_region 1 with (fail)
  generalize (w.alloc (.cells ((lims m).map nv).toArray 24)).alloc (.cells #[.int .u64 0, .int .u64 0, .int .u64 0, .int .u64 0] 24) = wv at *
  rw [← S0.out] at hA
  go_wp2
  go_loopw [6] (fun vi wr => ∃ k : Nat, k ≤ n ∧ vi = .int .i64 (k : Int) ∧ HoldsN wr 24 w.heap.size (lims (sqd m k)) ∧ HoldsN wr 24 (w.heap.size + 1) (lims 0) ∧ Below w.heap.size w wr)
    (fun vi _ => n - (intOf vi).toNat)
  case atStart => exact ⟨0, Nat.zero_le _, rfl, hA, hC, hb⟩
  case round =>
    clear hA hC hb
    obtain ⟨k, hk, rfl, hA, hC, hb⟩ := hrel
    by_cases hlt : k < n
    · have hlt2 : (k : Int) < n := by omega
      have MLk := Lib.hid (ML.out k)
      generalize sqd m k = x at *
      generalize hy : sqd m (k + 1) = y at *
      have HY := Lib.hid hy
      clear hy
      go_wp2_with (first
        | (with_reducible refine wpList_load_n rfl 24 (.tmp 2) rfl w.heap.size rfl (lims x) 4 hA rfl Tryd.underlying24 Tryd.infoFe ?_)
        | (go_at_call 43
           with_reducible refine (MLk.out _).mono ?_
           rintro e w3 ⟨rfl, hb3⟩
           have hA3 := hA.keep hb3 hA.lt
           have hC3 := hC.keep hb3 hC.lt
           have b3 := hb.trans (hb3.mono hb.size))
        | (with_reducible refine wpList_store_n rfl 24 (.tmp 2) (.tmp 10) rfl w.heap.size (lims y) 4 rfl rfl rfl (lims x) hA3 Tryd.infoFe rfl w.heap.size w b3 (Nat.le_refl _) ?_
           intro w4 hA4 o4 s4 b4
           have hC4 := hC3.oth o4 (by omega))
        | fail)
      go_roundw
      case rel => exact ⟨k + 1, by omega, by go_num, by rw [HY.out]; exact hA4, hC4, b4⟩
      case measure => simp [intOf]; omega
    · obtain rfl : k = n := by omega
      generalize sqd m k = x at *
      go_wp2_with (first
        | (with_reducible refine wpList_load_n rfl 24 (.tmp 2) rfl w.heap.size rfl (lims x) 4 hA rfl Tryd.underlying24 Tryd.infoFe ?_)
        | (with_reducible refine wpList_store_n rfl 24 (.tmp 4) (.tmp 12) rfl (w.heap.size + 1) (lims x) 4 rfl rfl rfl (lims 0) hC Tryd.infoFe rfl w.heap.size w hb (by omega) ?_; intro w7 Hg _ _ hb7)
        | fail)
      exact bodyPost_ret (results_cell_row rfl _ _ _ _ _ _ _ rfl Hg Tryd.underlying24 rfl (by rw [Tryd.infoFe]; rfl)) rfl ⟨rfl, hb7⟩
end Go.Proofs.YtlfkohanfeejfaaDoor

namespace Go.Proofs.YtlfkohanfeejfaaDoor
open Go.RowKit

/-- A block of a number's, made behind D. -/
def MadeFe (D : Nat) (_ : Nat) (v : Value) (W : World) : Prop := ∃ g, v = .pointer (some ⟨g, 0, none⟩) ∧ D ≤ g ∧ HoldsN W 24 g (lims 0)
theorem MadeFe.stay {D : Nat} : ∀ j v w w', MadeFe D j v w → Below w.heap.size w w' → MadeFe D j v w' := fun _ _ _ _ ⟨g, hv, hg, hh⟩ hb => ⟨g, hv, hg, hh.keep hb hh.lt⟩
theorem run_alloc_fe (f : Operand → Value) (o : Oper) (ho : o.op = .alloc 24) (w : World) :
    (execOp f o).run Tryd.prog w = .ok (.value (.pointer (some ⟨w.heap.size, 0, none⟩))) (w.alloc (.cells #[.int .u64 0, .int .u64 0, .int .u64 0, .int .u64 0] 24)) := by
  obtain ⟨dst, op, type, pos, after, guard⟩ := o
  obtain rfl : op = .alloc 24 := ho
  go_simp
theorem made_fe {S : World → Prop} {l : List Oper} {j D : Nat} (hS : ∀ w, S w → D ≤ w.heap.size) (hj : (l[j]?).map (·.op) = some (.alloc 24)) :
    ∀ k o, (fun k => k == j : Nat → Bool) k = true → l[k]? = some o → ∀ f w, S w → ∃ v w', (execOp f o).run Tryd.prog w = .ok (.value v) w' ∧ MadeFe D k v w' ∧ Below w.heap.size w w' := fun k o hk ho f w hw => by
  obtain rfl : k = j := by simpa using hk
  rw [ho] at hj
  refine ⟨_, _, run_alloc_fe f o (Option.some.inj hj) w, ⟨_, rfl, hS w hw, ?_⟩, (Below.refl _ w).alloc (Nat.le_refl _) _⟩
  exact holdsN_new w _ _ _ _ rfl (by kernel_rfl)

/-- The blocks of a call of one number: the number's, and the answer's. -/
structure Fe1 (w : World) (m : Nat) (W : World) : Prop where
  a : HoldsN W 24 w.heap.size (lims m)
  c : HoldsN W 24 (w.heap.size + 1) (lims 0)
  d : Below w.heap.size w W
theorem Fe1.stay {w : World} {m : Nat} : ∀ W W', Fe1 w m W → Below W.heap.size W W' → Fe1 w m W' := fun _ _ h hb => ⟨h.a.keep hb h.a.lt, h.c.keep hb h.c.lt, h.d.trans (hb.mono h.d.size)⟩
theorem Fe1.size {w : World} {m : Nat} (W : World) (h : Fe1 w m W) : w.heap.size + 2 ≤ W.heap.size := h.c.lt
theorem Fe1.oth {w W W' : World} {m g : Nat} (h : Fe1 w m W) (ho : ∀ k, k ≠ g → W'.heap[k]? = W.heap[k]?) (hb : Below w.heap.size w W') (hg : w.heap.size + 2 ≤ g) : Fe1 w m W' := ⟨h.a.oth ho (by omega), h.c.oth ho (by omega), hb⟩

/-- And a further block, that holds a number. -/
structure Fe2 (w : World) (m g h : Nat) (W : World) : Prop where
  f : Fe1 w m W
  h : HoldsN W 24 g (lims h)
theorem Fe2.stay {w : World} {m g h : Nat} : ∀ W W', Fe2 w m g h W → Below W.heap.size W W' → Fe2 w m g h W' := fun _ _ p hb => ⟨Fe1.stay _ _ p.f hb, p.h.keep hb p.h.lt⟩
theorem Fe2.size {w : World} {m g h : Nat} (W : World) (p : Fe2 w m g h W) : max (w.heap.size + 2) (g + 1) ≤ W.heap.size := Nat.max_le.2 ⟨Fe1.size _ p.f, p.h.lt⟩
theorem Fe2.oth {w W W' : World} {m g h g' : Nat} (p : Fe2 w m g h W) (ho : ∀ k, k ≠ g' → W'.heap[k]? = W.heap[k]?) (hb : Below w.heap.size w W') (hg : max (w.heap.size + 2) (g + 1) ≤ g') : Fe2 w m g h W' := ⟨p.f.oth ho hb (by omega), p.h.oth ho (by omega)⟩

/-- What a region leaves in a block of its own. -/
def InBlock (D r : Nat) (G : World → Prop) (vp : Value) (wx : World) : Prop := ∃ g, vp = .pointer (some ⟨g, 0, none⟩) ∧ D ≤ g ∧ HoldsN wx 24 g (lims r) ∧ G wx
end Go.Proofs.YtlfkohanfeejfaaDoor
