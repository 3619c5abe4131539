/-
  The document's numbers modulo L: products.
-/
import Derived.Test.YthhcjknkmdaeeaaDoorSRefE
import Derived.Deep.DeepCutAuto
namespace Go.Proofs.YthhcjknkmdaeeaaDoor
open Go.RowKit

/-- A bit out of its limb. -/
theorem bit_limb (n j : Nat) : limb n (j / 64) / 2 ^ (j % 64) % 2 = n / 2 ^ j % 2 := by
  have hr : j % 64 < 64 := Nat.mod_lt _ (by omega)
  have e : (2 : Nat) ^ j = 18446744073709551616 ^ (j / 64) * 2 ^ (j % 64) := by
    rw [show (18446744073709551616 : Nat) = 2 ^ 64 by decide, ← Nat.pow_mul, ← Nat.pow_add, Nat.div_add_mod]
  unfold limb
  rw [e, ← Nat.div_div_eq_div_mul]
  generalize n / 18446744073709551616 ^ (j / 64) = x
  generalize j % 64 = r at *
  have eW : (18446744073709551616 : Nat) = 2 ^ r * (2 * 2 ^ (63 - r)) := by
    rw [← Nat.pow_succ', ← Nat.pow_add, show r + (63 - r).succ = 64 by omega]
  have hx : x = x % 18446744073709551616 + 2 ^ r * (2 * (2 ^ (63 - r) * (x / 18446744073709551616))) := by
    have h := Nat.mod_add_div x 18446744073709551616
    rw [← Nat.mul_assoc 2, ← Nat.mul_assoc (2 ^ r), ← eW]
    exact h.symm
  conv => rhs; rw [hx, Nat.add_mul_div_left _ _ (Nat.pow_pos (by omega)), Nat.add_mul_mod_self_left]


def sm (a : Sn) (x : Nat) : Sn := a * toS x
theorem Sn.twice (a : Sn) (x : Nat) : a * toS (x + x) = a * toS x + a * toS x := by rw [toS_add]; grind
theorem Sn.once (a : Sn) (x : Nat) : a * toS (x + x + 1) = a * toS x + a * toS x + a := by rw [toS_add, toS_add, show toS 1 = 1 from rfl]; grind
theorem sm_zero (a : Sn) : sm a 0 = 0 := by unfold sm; rw [show toS 0 = 0 from rfl]; grind
theorem sm_bit (a : Sn) (e j : Nat) : sm a (e / 2 ^ j) = if e / 2 ^ j % 2 = 1 then sm a (e / 2 ^ (j + 1)) + sm a (e / 2 ^ (j + 1)) + a else sm a (e / 2 ^ (j + 1)) + sm a (e / 2 ^ (j + 1)) := by
  have h : e / 2 ^ (j + 1) = e / 2 ^ j / 2 := by rw [Nat.pow_succ, Nat.div_div_eq_div_mul]
  rw [h]
  generalize e / 2 ^ j = x
  unfold sm
  split
  · next h1 =>
    rw [← Sn.once]
    congr 2
    omega
  · next h1 =>
    rw [← Sn.twice]
    congr 2
    omega
theorem zero_sval : lims 0 = lims (0 : Sn).val := rfl

set_option maxRecDepth 100000 in
set_option maxHeartbeats 4000000 in
theorem sMul_any (m n : Nat) (w : World) (hm : m < big) (hn : n < big) :
    Calls Tryd.prog 11 #[fev m, fev n] w (GaveF w (toS m * toS n).val) := by
  obtain ⟨hA, hB, hC, hb, hsz⟩ := sc_start3 w m n 0 _ _ #[.int .u64 0, .int .u64 0, .int .u64 0, .int .u64 0] rfl rfl (by kernel_rfl)
  have M1 : Hid (∀ (p : Sn) W, Calls Tryd.prog 9 #[.agg ((lims p.val).map nv).toArray, .agg ((lims p.val).map nv).toArray] W fun e w' => e = .returned (.agg ((lims (p + p).val).map nv).toArray) ∧ Below W.heap.size W w') := Lib.hid fun p W => by
    have := sAdd_any p.val p.val W (Sn.lt_big p) (Sn.lt_big p)
    rwa [toS_of] at this
  have M2 : Hid (∀ (p : Sn) W, Calls Tryd.prog 9 #[.agg ((lims p.val).map nv).toArray, .agg ((lims m).map nv).toArray] W fun e w' => e = .returned (.agg ((lims (p + toS m).val).map nv).toArray) ∧ Below W.heap.size W w') := Lib.hid fun p W => by
    have := sAdd_any p.val m W (Sn.lt_big p) hm
    rwa [toS_of] at this
  obtain ⟨e, he⟩ : ∃ e, e = (toS n).val := ⟨_, rfl⟩
  have LS : Hid (∀ W, Calls Tryd.prog 25 #[.agg ((lims n).map nv).toArray] W fun r w' => r = .returned (.agg ((lims e).map nv).toArray) ∧ Below W.heap.size W w') := Lib.hid fun W => by rw [he]; exact sLeast_any n W hn
  have heb : e < big := by rw [he]; exact Sn.lt_big _
  have hfin : Hid (toS m * toS n = sm (toS m) (e / 2 ^ 0)) := Lib.hid (by rw [Nat.pow_zero, Nat.div_one, he]; unfold sm; rw [toS_of])
  have hstart : Hid (sm (toS m) (e / 2 ^ 256) = 0) := Lib.hid (by rw [Nat.div_eq_of_lt (by rw [show (2 : Nat) ^ 256 = big by decide]; exact heb), sm_zero])
  rw [fev_eq, fev_eq, hfin.out]
  clear hfin he heb hm hn
  generalize toS m = a at *
  go_enter Tryd.func11, Tryd.ntmps11
  go_upto_region 1 with (fail)
  generalize ((w.alloc (.cells ((lims m).map nv).toArray 24)).alloc (.cells ((lims n).map nv).toArray 24)).alloc (.cells #[.int .u64 0, .int .u64 0, .int .u64 0, .int .u64 0] 24) = wv at *
  go_wp2_with (first
    | (with_reducible refine wpList_load_n rfl 24 (.tmp 3) rfl (w.heap.size + 1) rfl (lims n) 4 hB rfl Tryd.underlying24 Tryd.infoSc ?_)
    | (go_at_call 25
       with_reducible refine (LS.out _).mono ?_
       rintro e w3 ⟨rfl, hb3⟩
       have hA3 := hA.keep hb3 hA.lt
       have hB3 := hB.keep hb3 hB.lt
       have hC3 := hC.keep hb3 hC.lt
       have b3 := hb.trans (hb3.mono hb.size))
    | (with_reducible refine wpList_store_n rfl 24 (.tmp 3) (.tmp 8) rfl (w.heap.size + 1) (lims e) 4 rfl rfl rfl (lims n) hB3 Tryd.infoSc rfl w.heap.size w b3 (by omega) ?_
       intro w4 hB4 o4 s4 b4
       have hA4 := hA3.oth o4 (by omega)
       have hC4 := hC3.oth o4 (by omega)
       have z5 := holdsN_new w4 24 w4.heap.size #[.int .u64 0, .int .u64 0, .int .u64 0, .int .u64 0] (lims 0) rfl (by kernel_rfl)
       have b5 := b4.alloc b4.size (.cells #[.int .u64 0, .int .u64 0, .int .u64 0, .int .u64 0] 24)
       have hA5 := hA4.alloc (.cells #[.int .u64 0, .int .u64 0, .int .u64 0, .int .u64 0] 24)
       have hB5 := hB4.alloc (.cells #[.int .u64 0, .int .u64 0, .int .u64 0, .int .u64 0] 24)
       have hC5 := hC4.alloc (.cells #[.int .u64 0, .int .u64 0, .int .u64 0, .int .u64 0] 24)
       have l4 := hC4.lt
       clear s4)
    | (with_reducible refine wpList_store_n rfl 24 (.tmp 5) (.tmp 9) rfl w4.heap.size (lims (0 : Sn).val) 4 rfl (by with_unfolding_all rfl) rfl (lims 0) (by with_unfolding_all exact z5) Tryd.infoSc rfl w.heap.size w (by with_unfolding_all exact b5) (by omega) ?_
       intro w6 hO6 o6 s6 b6
       have hA6 : HoldsN w6 24 w.heap.size (lims m) := (o6 _ (by omega)).trans (by with_unfolding_all exact hA5)
       have hB6 : HoldsN w6 24 (w.heap.size + 1) (lims e) := (o6 _ (by omega)).trans (by with_unfolding_all exact hB5)
       have hC6 : HoldsN w6 24 (w.heap.size + 2) (lims 0) := (o6 _ (by omega)).trans (by with_unfolding_all exact hC5)
       clear s6)
    | fail)
  clear hA hB hC hb hsz hA3 hB3 hC3 hb3 b3 hA4 hB4 hC4 o4 z5 b5 hA5 hB5 hC5 o6 b4 LS
  rw [← hstart.out] at hO6
  generalize w4.heap.size = g at *
  go_loopw [6] (fun v wr => ∃ k : Nat, k ≤ 256 ∧ v = .int .i64 ((k : Int) - 1) ∧ HoldsN wr 24 g (lims (sm a (e / 2 ^ k)).val) ∧ HoldsN wr 24 w.heap.size (lims m) ∧ HoldsN wr 24 (w.heap.size + 1) (lims e) ∧ HoldsN wr 24 (w.heap.size + 2) (lims 0) ∧ Below w.heap.size w wr)
    (fun v _ => (intOf v + 1).toNat)
  case atStart => exact ⟨256, Nat.le_refl _, rfl, hO6, hA6, hB6, hC6, b6⟩
  case round =>
    clear hO6 hA6 hB6 hC6 b6 hstart
    obtain ⟨k, hk, rfl, hO, hA, hB, hC, hb⟩ := hrel
    rcases k with _ | j
    · rw [show ((0 : Nat) : Int) - 1 = -1 from rfl]
      clear hA hB
      generalize sm a (e / 2 ^ 0) = p at *
      go_wp2_with (first
        | (with_reducible refine wpList_load_n rfl 24 (.tmp 5) rfl g rfl (lims p.val) 4 hO rfl Tryd.underlying24 Tryd.infoSc ?_)
        | (with_reducible refine wpList_store_n rfl 24 (.tmp 4) (.tmp 30) rfl (w.heap.size + 2) (lims p.val) 4 rfl rfl rfl (lims 0) hC Tryd.infoSc rfl w.heap.size w hb (by omega) ?_; intro w7 Hg _ _ hb7))
      exact bodyPost_ret (results_cell_row rfl _ _ _ _ _ _ _ rfl Hg Tryd.underlying24 rfl (by rw [Tryd.infoSc]; rfl)) rfl ⟨rfl, hb7⟩
    · rw [show ((j + 1 : Nat) : Int) - 1 = (j : Int) by omega]
      have hj : j < 256 := by omega
      have hstep := sm_bit a e j
      have cE := fun W (h : HoldsN W 24 (w.heap.size + 1) (lims e)) => h.cell (j := j / 64) (by rw [lims_length]; omega)
      rw [lims_get _ (by omega)] at cE
      have hbit := bit_limb e j
      have eq4 : (j : Int).tdiv 64 = ((j / 64 : Nat) : Int) := by rw [Int.tdiv_eq_ediv_of_nonneg (by omega)]; omega
      have em4 : (j : Int).tmod 64 = ((j % 64 : Nat) : Int) := by rw [Int.tmod_eq_emod_of_nonneg (by omega)]; omega
      have lq : ((j / 64 : Nat) : Int) < 4 := by omega
      have hr4 : j % 64 < 64 := by omega
      have CE := Lib.hid cE
      clear cE
      generalize limb e (j / 64) = x at *
      generalize j / 64 = qq at *
      generalize j % 64 = rr at *
      have lr : (rr : Int) < 64 := by omega
      have wr2 : IntKind.u64.wrap (rr : Int) = rr := by rw [IntKind.wrap_u64]; omega
      have hv : ((x : Int) / 2 ^ rr).tmod 2 = ((e / 2 ^ j % 2 : Nat) : Int) := by
        rw [show (2 : Int) ^ rr = ((2 ^ rr : Nat) : Int) from (Int.natCast_pow 2 _).symm, ← Int.natCast_ediv, Int.tmod_eq_emod_of_nonneg (Int.natCast_nonneg _), ← hbit]; rfl
      clear hbit
      have Hstep := Lib.hid hstep
      have hlt2 : e / 2 ^ j % 2 < 2 := Nat.mod_lt _ (by omega)
      clear hstep
      generalize sm a (e / 2 ^ (j + 1)) = p at *
      generalize e / 2 ^ j % 2 = b at *
      by_cases hb1 : b = 1
      · subst hb1
        have Hq : Hid (sm a (e / 2 ^ j) = p + p + a) := Lib.hid (by rw [Hstep.out, if_pos rfl])
        clear Hstep
        go_wp2_with (first
          | (with_reducible refine wpList_load_n rfl 24 (.tmp 5) rfl g rfl (lims p.val) 4 hO rfl Tryd.underlying24 Tryd.infoSc ?_)
          | (go_at_call 9
             with_reducible refine (M1.out p _).mono ?_
             rintro e w3 ⟨rfl, hb3⟩
             have hO3 := hO.keep hb3 hO.lt
             have hA3 := hA.keep hb3 hA.lt
             have hB3 := hB.keep hb3 hB.lt
             have hC3 := hC.keep hb3 hC.lt
             have b3 := hb.trans (hb3.mono hb.size))
          | (with_reducible refine wpList_store_n rfl 24 (.tmp 5) (.tmp 16) rfl g (lims (p + p).val) 4 rfl rfl rfl _ hO3 Tryd.infoSc rfl w.heap.size w b3 (by omega) ?_
             intro w4 hO4 o4 s4 b4
             have hA4 := hA3.oth o4 (by omega)
             have hB4 := hB3.oth o4 (by omega)
             have hC4 := hC3.oth o4 (by omega)
             have cE4 := CE.out w4 hB4)
          | (with_reducible refine wpList_load_n rfl 24 (.tmp 5) rfl g rfl (lims (p + p).val) 4 hO4 rfl Tryd.underlying24 Tryd.infoSc ?_)
          | (with_reducible refine wpList_load_n rfl 24 (.tmp 2) rfl w.heap.size rfl (lims m) 4 hA4 rfl Tryd.underlying24 Tryd.infoSc ?_)
          | (go_at_call 9
             with_reducible refine (M2.out (p + p) _).mono ?_
             rintro e w5 ⟨rfl, hb5⟩
             have hO5 := hO4.keep hb5 hO4.lt
             have hA5 := hA4.keep hb5 hA4.lt
             have hB5 := hB4.keep hb5 hB4.lt
             have hC5 := hC4.keep hb5 hC4.lt
             have b5 := b4.trans (hb5.mono b4.size))
          | (with_reducible refine wpList_store_n rfl 24 (.tmp 5) (.tmp 29) rfl g (lims (p + p + a).val) 4 rfl rfl rfl _ hO5 Tryd.infoSc rfl w.heap.size w b5 (by omega) ?_
             intro w6 hO6 o6 s6 b6
             have hA6 := hA5.oth o6 (by omega)
             have hB6 := hB5.oth o6 (by omega)
             have hC6 := hC5.oth o6 (by omega)))
        go_roundw
        case rel => exact ⟨j, by omega, by go_num, by rw [Hq.out]; exact hO6, hA6, hB6, hC6, b6⟩
        case measure => simp [intOf]
      · obtain rfl : b = 0 := by omega
        have Hq : Hid (sm a (e / 2 ^ j) = p + p) := Lib.hid (by rw [Hstep.out, if_neg (by omega)])
        clear Hstep
        go_wp2_with (first
          | (with_reducible refine wpList_load_n rfl 24 (.tmp 5) rfl g rfl (lims p.val) 4 hO rfl Tryd.underlying24 Tryd.infoSc ?_)
          | (go_at_call 9
             with_reducible refine (M1.out p _).mono ?_
             rintro e w3 ⟨rfl, hb3⟩
             have hO3 := hO.keep hb3 hO.lt
             have hA3 := hA.keep hb3 hA.lt
             have hB3 := hB.keep hb3 hB.lt
             have hC3 := hC.keep hb3 hC.lt
             have b3 := hb.trans (hb3.mono hb.size))
          | (with_reducible refine wpList_store_n rfl 24 (.tmp 5) (.tmp 16) rfl g (lims (p + p).val) 4 rfl rfl rfl _ hO3 Tryd.infoSc rfl w.heap.size w b3 (by omega) ?_
             intro w4 hO4 o4 s4 b4
             have hA4 := hA3.oth o4 (by omega)
             have hB4 := hB3.oth o4 (by omega)
             have hC4 := hC3.oth o4 (by omega)
             have cE4 := CE.out w4 hB4))
        go_roundw
        case rel => exact ⟨j, by omega, by go_num, by rw [Hq.out]; exact hO4, hA4, hB4, hC4, b4⟩
        case measure => simp [intOf]
end Go.Proofs.YthhcjknkmdaeeaaDoor
