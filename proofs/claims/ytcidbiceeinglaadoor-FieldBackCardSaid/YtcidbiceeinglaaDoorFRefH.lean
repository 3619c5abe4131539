/-
  The document's numbers modulo P: powers; what a number is multiplied by to be 1.
-/
import Derived.Test.YtcidbiceeinglaaDoorFRefG
namespace Go.Proofs.YtcidbiceeinglaaDoor
open Go.RowKit

/-- A bit out of its limb. -/
theorem bit_limb (n j : Nat) : limb n (j / 64) / 2 ^ (j % 64) % 2 = n / 2 ^ j % 2 := by
  have hr : j % 64 < 64 := Nat.mod_lt _ (by omega)
  have e : (2 : Nat) ^ j = 18446744073709551616 ^ (j / 64) * 2 ^ (j % 64) := by
    rw [show (18446744073709551616 : Nat) = 2 ^ 64 by decide, ← Nat.pow_mul, ← Nat.pow_add, Nat.div_add_mod]
  unfold limb
  rw [e, ← Nat.div_div_eq_div_mul]
  generalize n / 18446744073709551616 ^ (j / 64) = x
  generalize j % 64 = r at *
  have eW : (18446744073709551616 : Nat) = 2 ^ r * (2 * 2 ^ (63 - r)) := by
    rw [← Nat.pow_succ', ← Nat.pow_add, show r + (63 - r).succ = 64 by omega]
  have hx : x = x % 18446744073709551616 + 2 ^ r * (2 * (2 ^ (63 - r) * (x / 18446744073709551616))) := by
    have h := Nat.mod_add_div x 18446744073709551616
    rw [← Nat.mul_assoc 2, ← Nat.mul_assoc (2 ^ r), ← eW]
    exact h.symm
  conv => rhs; rw [hx, Nat.add_mul_div_left _ _ (Nat.pow_pos (by omega)), Nat.add_mul_mod_self_left]

theorem fpow_bit (a : F) (e j : Nat) : fpow a (e / 2 ^ j) = if e / 2 ^ j % 2 = 1 then fpow a (e / 2 ^ (j + 1)) * fpow a (e / 2 ^ (j + 1)) * a else fpow a (e / 2 ^ (j + 1)) * fpow a (e / 2 ^ (j + 1)) := by
  have h : e / 2 ^ (j + 1) = e / 2 ^ j / 2 := by rw [Nat.pow_succ, Nat.div_div_eq_div_mul]
  rw [h, ← fpow_add]
  generalize e / 2 ^ j = x
  split
  · next h1 =>
    rw [← fpow_succ]
    congr 1
    omega
  · next h1 =>
    congr 1
    omega
theorem one_val : lims 1 = lims (1 : F).val := rfl

set_option maxRecDepth 100000 in
set_option maxHeartbeats 4000000 in
theorem rPower_any (m e : Nat) (w : World) (hm : m < big) (he : e < big) :
    Calls Tryd.prog 42 #[fev m, fev e] w (GaveF w (fpow (toF m) e).val) := by
  obtain ⟨hA, hB, hC, hb, hsz⟩ := fe_start3 w m e 0 _ _ #[.int .u64 0, .int .u64 0, .int .u64 0, .int .u64 0] rfl rfl (by kernel_rfl)
  have M1 : Hid (∀ (p : F) W, Calls Tryd.prog 15 #[.agg ((lims p.val).map nv).toArray, .agg ((lims p.val).map nv).toArray] W fun e w' => e = .returned (.agg ((lims (p * p).val).map nv).toArray) ∧ Below W.heap.size W w') := Lib.hid fun p W => by
    have := rMul_any p.val p.val W (F.lt_big p) (F.lt_big p)
    rwa [toF_of] at this
  have M2 : Hid (∀ (p : F) W, Calls Tryd.prog 15 #[.agg ((lims p.val).map nv).toArray, .agg ((lims m).map nv).toArray] W fun e w' => e = .returned (.agg ((lims (p * toF m).val).map nv).toArray) ∧ Below W.heap.size W w') := Lib.hid fun p W => by
    have := rMul_any p.val m W (F.lt_big p) hm
    rwa [toF_of] at this
  have hone : Hid (Value.agg #[.int .u64 1, .int .u64 0, .int .u64 0, .int .u64 0] = .agg ((lims (1 : F).val).map nv).toArray) := Lib.hid (by kernel_rfl)
  have hfin : Hid (fpow (toF m) e = fpow (toF m) (e / 2 ^ 0)) := Lib.hid (by rw [Nat.pow_zero, Nat.div_one])
  have hstart : Hid (fpow (toF m) (e / 2 ^ 256) = 1) := Lib.hid (by rw [Nat.div_eq_of_lt (by rw [show (2 : Nat) ^ 256 = big by decide]; exact he), fpow_zero])
  rw [fev_eq, fev_eq, hfin.out]
  clear hfin
  generalize toF m = a at *
  obtain ⟨wv, hwv⟩ : ∃ wv, wv = (((w.alloc (.cells ((lims m).map nv).toArray 24)).alloc (.cells ((lims e).map nv).toArray 24)).alloc (.cells #[.int .u64 0, .int .u64 0, .int .u64 0, .int .u64 0] 24)) := ⟨_, rfl⟩
  rw [← hwv] at hA hB hC hb hsz
  have z1 := zn_new wv 24 4
  have b1 := hb.alloc hb.size (.cells (zn 4) 24)
  have hA1 := hA.alloc (.cells (zn 4) 24)
  have hB1 := hB.alloc (.cells (zn 4) 24)
  have hC1 := hC.alloc (.cells (zn 4) 24)
  rw [hwv] at z1 b1 hA1 hB1 hC1
  go_enter Tryd.func42, Tryd.ntmps42
  go_wp2_with (with_reducible refine wpList_store_n rfl 24 (.tmp 5) (.tmp 7) rfl (w.heap.size + 3) (lims (1 : F).val) 4 (by with_unfolding_all rfl) (by with_unfolding_all exact hone.out) rfl (List.replicate 4 0) (by rw [hwv] at hsz; rw [hsz] at z1; with_unfolding_all exact z1) Tryd.infoFe rfl w.heap.size w (by with_unfolding_all exact b1) (by omega) ?_
               intro w2 hO2 o2 s2 b2
               have hA2 : HoldsN w2 24 w.heap.size (lims m) := (o2 _ (by omega)).trans (by with_unfolding_all exact hA1)
               have hB2 : HoldsN w2 24 (w.heap.size + 1) (lims e) := (o2 _ (by omega)).trans (by with_unfolding_all exact hB1)
               have hC2 : HoldsN w2 24 (w.heap.size + 2) (lims 0) := (o2 _ (by omega)).trans (by with_unfolding_all exact hC1))
  clear hA hB hC hb hsz hA1 hB1 hC1 b1 z1 o2 s2
  rw [← hstart.out] at hO2
  go_loopw [6] (fun v wr => ∃ k : Nat, k ≤ 256 ∧ v = .int .i64 ((k : Int) - 1) ∧ HoldsN wr 24 (w.heap.size + 3) (lims (fpow a (e / 2 ^ k)).val) ∧ HoldsN wr 24 w.heap.size (lims m) ∧ HoldsN wr 24 (w.heap.size + 1) (lims e) ∧ HoldsN wr 24 (w.heap.size + 2) (lims 0) ∧ Below w.heap.size w wr)
    (fun v _ => (intOf v + 1).toNat)
  case atStart => exact ⟨256, Nat.le_refl _, rfl, hO2, hA2, hB2, hC2, b2⟩
  case round =>
    clear hO2 hA2 hB2 hC2 b2 hstart
    obtain ⟨k, hk, rfl, hO, hA, hB, hC, hb⟩ := hrel
    rcases k with _ | j
    · rw [show ((0 : Nat) : Int) - 1 = -1 from rfl]
      clear hA hB
      generalize fpow a (e / 2 ^ 0) = p at *
      go_wp2_with (first
        | (with_reducible refine wpList_load_n rfl 24 (.tmp 5) rfl (w.heap.size + 3) rfl (lims p.val) 4 hO rfl Tryd.underlying24 Tryd.infoFe ?_)
        | (with_reducible refine wpList_store_n rfl 24 (.tmp 4) (.tmp 28) rfl (w.heap.size + 2) (lims p.val) 4 rfl rfl rfl (lims 0) hC Tryd.infoFe rfl w.heap.size w hb (by omega) ?_; intro w7 Hg _ _ hb7))
      exact bodyPost_ret (results_cell_row rfl _ _ _ _ _ _ _ rfl Hg Tryd.underlying24 rfl (by rw [Tryd.infoFe]; rfl)) rfl ⟨rfl, hb7⟩
    · rw [show ((j + 1 : Nat) : Int) - 1 = (j : Int) by omega]
      have hj : j < 256 := by omega
      have hstep := fpow_bit a e j
      have cE := fun W (h : HoldsN W 24 (w.heap.size + 1) (lims e)) => h.cell (j := j / 64) (by rw [lims_length]; omega)
      rw [lims_get _ (by omega)] at cE
      have hbit := bit_limb e j
      have eq4 : (j : Int).tdiv 64 = ((j / 64 : Nat) : Int) := by rw [Int.tdiv_eq_ediv_of_nonneg (by omega)]; omega
      have em4 : (j : Int).tmod 64 = ((j % 64 : Nat) : Int) := by rw [Int.tmod_eq_emod_of_nonneg (by omega)]; omega
      have lq : ((j / 64 : Nat) : Int) < 4 := by omega
      have hr4 : j % 64 < 64 := by omega
      have CE := Lib.hid cE
      clear cE
      generalize limb e (j / 64) = x at *
      generalize j / 64 = qq at *
      generalize j % 64 = rr at *
      have lr : (rr : Int) < 64 := by omega
      have wr2 : IntKind.u64.wrap (rr : Int) = rr := by rw [IntKind.wrap_u64]; omega
      have hv : ((x : Int) / 2 ^ rr).tmod 2 = ((e / 2 ^ j % 2 : Nat) : Int) := by
        rw [show (2 : Int) ^ rr = ((2 ^ rr : Nat) : Int) from (Int.natCast_pow 2 _).symm, ← Int.natCast_ediv, Int.tmod_eq_emod_of_nonneg (Int.natCast_nonneg _), ← hbit]; rfl
      clear hbit
      have Hstep := Lib.hid hstep
      have hlt2 : e / 2 ^ j % 2 < 2 := Nat.mod_lt _ (by omega)
      clear hstep
      generalize fpow a (e / 2 ^ (j + 1)) = p at *
      generalize e / 2 ^ j % 2 = b at *
      by_cases hb1 : b = 1
      · subst hb1
        have Hq : Hid (fpow a (e / 2 ^ j) = p * p * a) := Lib.hid (by rw [Hstep.out, if_pos rfl])
        clear Hstep
        go_wp2_with (first
          | (with_reducible refine wpList_load_n rfl 24 (.tmp 5) rfl (w.heap.size + 3) rfl (lims p.val) 4 hO rfl Tryd.underlying24 Tryd.infoFe ?_)
          | (go_at_call 15
             with_reducible refine (M1.out p _).mono ?_
             rintro e w3 ⟨rfl, hb3⟩
             have hO3 := hO.keep hb3 hO.lt
             have hA3 := hA.keep hb3 hA.lt
             have hB3 := hB.keep hb3 hB.lt
             have hC3 := hC.keep hb3 hC.lt
             have b3 := hb.trans (hb3.mono hb.size))
          | (with_reducible refine wpList_store_n rfl 24 (.tmp 5) (.tmp 14) rfl (w.heap.size + 3) (lims (p * p).val) 4 rfl rfl rfl _ hO3 Tryd.infoFe rfl w.heap.size w b3 (by omega) ?_
             intro w4 hO4 o4 s4 b4
             have hA4 := hA3.oth o4 (by omega)
             have hB4 := hB3.oth o4 (by omega)
             have hC4 := hC3.oth o4 (by omega)
             have cE4 := CE.out w4 hB4)
          | (with_reducible refine wpList_load_n rfl 24 (.tmp 5) rfl (w.heap.size + 3) rfl (lims (p * p).val) 4 hO4 rfl Tryd.underlying24 Tryd.infoFe ?_)
          | (with_reducible refine wpList_load_n rfl 24 (.tmp 2) rfl w.heap.size rfl (lims m) 4 hA4 rfl Tryd.underlying24 Tryd.infoFe ?_)
          | (go_at_call 15
             with_reducible refine (M2.out (p * p) _).mono ?_
             rintro e w5 ⟨rfl, hb5⟩
             have hO5 := hO4.keep hb5 hO4.lt
             have hA5 := hA4.keep hb5 hA4.lt
             have hB5 := hB4.keep hb5 hB4.lt
             have hC5 := hC4.keep hb5 hC4.lt
             have b5 := b4.trans (hb5.mono b4.size))
          | (with_reducible refine wpList_store_n rfl 24 (.tmp 5) (.tmp 27) rfl (w.heap.size + 3) (lims (p * p * a).val) 4 rfl rfl rfl _ hO5 Tryd.infoFe rfl w.heap.size w b5 (by omega) ?_
             intro w6 hO6 o6 s6 b6
             have hA6 := hA5.oth o6 (by omega)
             have hB6 := hB5.oth o6 (by omega)
             have hC6 := hC5.oth o6 (by omega)))
        go_roundw
        case rel => exact ⟨j, by omega, by go_num, by rw [Hq.out]; exact hO6, hA6, hB6, hC6, b6⟩
        case measure => simp [intOf]
      · obtain rfl : b = 0 := by omega
        have Hq : Hid (fpow a (e / 2 ^ j) = p * p) := Lib.hid (by rw [Hstep.out, if_neg (by omega)])
        clear Hstep
        go_wp2_with (first
          | (with_reducible refine wpList_load_n rfl 24 (.tmp 5) rfl (w.heap.size + 3) rfl (lims p.val) 4 hO rfl Tryd.underlying24 Tryd.infoFe ?_)
          | (go_at_call 15
             with_reducible refine (M1.out p _).mono ?_
             rintro e w3 ⟨rfl, hb3⟩
             have hO3 := hO.keep hb3 hO.lt
             have hA3 := hA.keep hb3 hA.lt
             have hB3 := hB.keep hb3 hB.lt
             have hC3 := hC.keep hb3 hC.lt
             have b3 := hb.trans (hb3.mono hb.size))
          | (with_reducible refine wpList_store_n rfl 24 (.tmp 5) (.tmp 14) rfl (w.heap.size + 3) (lims (p * p).val) 4 rfl rfl rfl _ hO3 Tryd.infoFe rfl w.heap.size w b3 (by omega) ?_
             intro w4 hO4 o4 s4 b4
             have hA4 := hA3.oth o4 (by omega)
             have hB4 := hB3.oth o4 (by omega)
             have hC4 := hC3.oth o4 (by omega)
             have cE4 := CE.out w4 hB4))
        go_roundw
        case rel => exact ⟨j, by omega, by go_num, by rw [Hq.out]; exact hO4, hA4, hB4, hC4, b4⟩
        case measure => simp [intOf]
end Go.Proofs.YtcidbiceeinglaaDoor
