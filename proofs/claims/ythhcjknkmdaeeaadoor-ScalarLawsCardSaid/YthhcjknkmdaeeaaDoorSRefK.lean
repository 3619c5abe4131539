/-
  The document's numbers modulo L: the number that 64 bytes are, that 32 bytes are.
-/
import Derived.Test.YthhcjknkmdaeeaaDoorSRefH
import Derived.Test.YthhcjknkmdaeeaaDoorLeBytes
namespace Go.Proofs.YthhcjknkmdaeeaaDoor
open Go.RowKit

theorem leNum_drop (l : List UInt8) (k : Nat) (h : k ≤ l.length) : leNum l / 256 ^ k = leNum (l.drop k) := by
  have e : leNum l = leNum (l.take k) + 256 ^ k * leNum (l.drop k) := by
    conv => lhs; rw [← List.take_append_drop k l, leNum_append, List.length_take, Nat.min_eq_left h]
  have hlt := leNum_lt (l.take k)
  rw [List.length_take, Nat.min_eq_left h] at hlt
  rw [e, Nat.add_mul_div_left _ _ (Nat.pow_pos (by omega)), Nat.div_eq_of_lt hlt, Nat.zero_add]
theorem leNum_at (l : List UInt8) (k : Nat) (h : k < l.length) : leNum l / 256 ^ k % 256 = l[k].toNat := by
  rw [leNum_drop l k (by omega), List.drop_eq_getElem_cons h]
  have := l[k].toNat_lt
  simp only [leNum]
  omega
/-- A bit out of its byte. -/
theorem byte_bit (l : List UInt8) (j : Nat) (h : j / 8 < l.length) : l[j / 8].toNat / 2 ^ (j % 8) % 2 = leNum l / 2 ^ j % 2 := by
  have hr : j % 8 < 8 := Nat.mod_lt _ (by omega)
  have e : (2 : Nat) ^ j = 256 ^ (j / 8) * 2 ^ (j % 8) := by
    rw [show (256 : Nat) = 2 ^ 8 by decide, ← Nat.pow_mul, ← Nat.pow_add, Nat.div_add_mod]
  rw [← leNum_at l (j / 8) h, e, ← Nat.div_div_eq_div_mul]
  generalize leNum l / 256 ^ (j / 8) = x
  generalize j % 8 = r at *
  have eW : (256 : Nat) = 2 ^ r * (2 * 2 ^ (7 - r)) := by
    rw [← Nat.pow_succ', ← Nat.pow_add, show r + (7 - r).succ = 8 by omega]
  have hx : x = x % 256 + 2 ^ r * (2 * (2 ^ (7 - r) * (x / 256))) := by
    have h := Nat.mod_add_div x 256
    rw [← Nat.mul_assoc 2, ← Nat.mul_assoc (2 ^ r), ← eW]
    exact h.symm
  conv => rhs; rw [hx, Nat.add_mul_div_left _ _ (Nat.pow_pos (by omega)), Nat.add_mul_mod_self_left]

theorem sof_start (w : World) (l : List UInt8) (c1 c2 c3 : Array Value) (h1 : c1 = (l.map bv).toArray) (h2 : c2 = ((lims 0).map nv).toArray) (h3 : c3 = ((lims 0).map nv).toArray) :
    HoldsB (((w.alloc (.cells c1 25)).alloc (.cells c2 24)).alloc (.cells c3 24)) 25 w.heap.size l ∧ HoldsN (((w.alloc (.cells c1 25)).alloc (.cells c2 24)).alloc (.cells c3 24)) 24 (w.heap.size + 1) (lims 0) ∧
    HoldsN (((w.alloc (.cells c1 25)).alloc (.cells c2 24)).alloc (.cells c3 24)) 24 (w.heap.size + 2) (lims 0) ∧ Below w.heap.size w (((w.alloc (.cells c1 25)).alloc (.cells c2 24)).alloc (.cells c3 24)) := by
  have e1 : (w.alloc (.cells c1 25)).heap.size = w.heap.size + 1 := World.size_alloc ..
  have e2 : ((w.alloc (.cells c1 25)).alloc (.cells c2 24)).heap.size = w.heap.size + 2 := by rw [World.size_alloc, e1]
  exact ⟨((holdsB_new w _ _ c1 l rfl h1).alloc _).alloc _, (holdsN_new _ _ _ c2 _ e1.symm h2).alloc _, holdsN_new _ _ _ c3 _ e2.symm h3, (((Below.refl _ w).alloc (Nat.le_refl _) _).alloc (by omega) _).alloc (by omega) _⟩

set_option exponentiation.threshold 1000 in
set_option maxRecDepth 100000 in
set_option maxHeartbeats 1000000 in
theorem sOf_any (l : List UInt8) (w : World) (hl : l.length = 64) :
    Calls Tryd.prog 15 #[.agg (l.map bv).toArray] w (GaveF w (toS (leNum l)).val) := by
  obtain ⟨hA, hC, hD, hb⟩ := sof_start w l _ #[.int .u64 0, .int .u64 0, .int .u64 0, .int .u64 0] #[.int .u64 0, .int .u64 0, .int .u64 0, .int .u64 0] rfl (by kernel_rfl) (by kernel_rfl)
  have M1 : Hid (∀ (p : Sn) W, Calls Tryd.prog 9 #[.agg ((lims p.val).map nv).toArray, .agg ((lims p.val).map nv).toArray] W fun e w' => e = .returned (.agg ((lims (p + p).val).map nv).toArray) ∧ Below W.heap.size W w') := Lib.hid fun p W => by
    have := sAdd_any p.val p.val W (Sn.lt_big p) (Sn.lt_big p)
    rwa [toS_of] at this
  have M2 : Hid (∀ (p : Sn) W, Calls Tryd.prog 9 #[.agg ((lims p.val).map nv).toArray, .agg #[.int .u64 1, .int .u64 0, .int .u64 0, .int .u64 0]] W fun e w' => e = .returned (.agg ((lims (p + toS 1).val).map nv).toArray) ∧ Below W.heap.size W w') := Lib.hid fun p W => by
    have := sAdd_any p.val 1 W (Sn.lt_big p) (by decide)
    rwa [toS_of] at this
  have Hl := Lib.hid hl
  have hN : leNum l < 2 ^ 512 := by
    have := leNum_lt l
    rwa [hl, show (256 : Nat) ^ 64 = 2 ^ 512 by rw [show (256 : Nat) = 2 ^ 8 by decide, ← Nat.pow_mul]] at this
  have hbits := fun j (h : j / 8 < l.length) => byte_bit l j h
  obtain ⟨e, he⟩ : ∃ e, e = leNum l := ⟨_, rfl⟩
  rw [← he] at hN hbits ⊢
  have hfin : Hid (toS e = sm (toS 1) (e / 2 ^ 0)) := Lib.hid (by rw [Nat.pow_zero, Nat.div_one]; unfold sm; exact (Sn.omul _).symm)
  have hstart : Hid (sm (toS 1) (e / 2 ^ 512) = 0) := Lib.hid (by rw [Nat.div_eq_of_lt hN, sm_zero])
  have Hbits := Lib.hid hbits
  rw [hfin.out]
  clear hfin he hN hl hbits
  generalize toS 1 = a at *
  go_enter Tryd.func15, Tryd.ntmps15
  go_wp2_with (with_reducible refine wpList_store_n rfl 24 (.tmp 3) (.tmp 5) rfl (w.heap.size + 2) (lims (0 : Sn).val) 4 (by with_unfolding_all rfl) (by with_unfolding_all rfl) rfl (lims 0) (by with_unfolding_all exact hD) Tryd.infoSc rfl w.heap.size w (by with_unfolding_all exact hb) (by omega) ?_
               intro w2 hD2 o2 s2 b2
               have hA2 : HoldsB w2 25 w.heap.size l := (o2 _ (by omega)).trans (by with_unfolding_all exact hA)
               have hC2 : HoldsN w2 24 (w.heap.size + 1) (lims 0) := (o2 _ (by omega)).trans (by with_unfolding_all exact hC))
  clear hA hC hD hb o2 s2
  rw [← hstart.out] at hD2
  go_loopw [4] (fun v wr => ∃ k : Nat, k ≤ 512 ∧ v = .int .i64 ((k : Int) - 1) ∧ HoldsN wr 24 (w.heap.size + 2) (lims (sm a (e / 2 ^ k)).val) ∧ HoldsB wr 25 w.heap.size l ∧ HoldsN wr 24 (w.heap.size + 1) (lims 0) ∧ Below w.heap.size w wr)
    (fun v _ => (intOf v + 1).toNat)
  case atStart => exact ⟨512, Nat.le_refl _, rfl, hD2, hA2, hC2, b2⟩
  case round =>
    clear hA2 hC2 hD2 b2 hstart
    obtain ⟨k, hk, rfl, hO, hA, hC, hb⟩ := hrel
    rcases k with _ | j
    · rw [show ((0 : Nat) : Int) - 1 = -1 from rfl]
      clear hA
      generalize sm a (e / 2 ^ 0) = p at *
      go_wp2_with (first
        | (with_reducible refine wpList_load_n rfl 24 (.tmp 3) rfl (w.heap.size + 2) rfl (lims p.val) 4 hO rfl Tryd.underlying24 Tryd.infoSc ?_)
        | (with_reducible refine wpList_store_n rfl 24 (.tmp 2) (.tmp 26) rfl (w.heap.size + 1) (lims p.val) 4 rfl rfl rfl (lims 0) hC Tryd.infoSc rfl w.heap.size w hb (by omega) ?_; intro w7 Hg7 _ _ hb7))
      exact bodyPost_ret (results_cell_row rfl _ _ _ _ _ _ _ rfl Hg7 Tryd.underlying24 rfl (by rw [Tryd.infoSc]; rfl)) rfl ⟨rfl, hb7⟩
    · rw [show ((j + 1 : Nat) : Int) - 1 = (j : Int) by omega]
      have hj : j < 512 := by omega
      have hstep := sm_bit a e j
      have hj8 : j / 8 < l.length := by rw [Hl.out]; omega
      have hbit := Hbits.out j hj8
      have cE := fun W (h : HoldsB W 25 w.heap.size l) => h.cell (j := j / 8) hj8
      have hx256 : l[j / 8].toNat < 256 := l[j / 8].toNat_lt
      have eq4 : (j : Int).tdiv 8 = ((j / 8 : Nat) : Int) := by rw [Int.tdiv_eq_ediv_of_nonneg (by omega)]; omega
      have em4 : (j : Int).tmod 8 = ((j % 8 : Nat) : Int) := by rw [Int.tmod_eq_emod_of_nonneg (by omega)]; omega
      have lq : ((j / 8 : Nat) : Int) < 64 := by omega
      have hr4 : j % 8 < 8 := by omega
      have CE := Lib.hid cE
      clear cE
      generalize l[j / 8].toNat = x at *
      generalize j / 8 = qq at *
      generalize j % 8 = rr at *
      have lr : (rr : Int) < 8 := by omega
      have wr2 : IntKind.u64.wrap (rr : Int) = rr := by rw [IntKind.wrap_u64]; omega
      have hv : ((x : Int) / 2 ^ rr).tmod 2 = ((e / 2 ^ j % 2 : Nat) : Int) := by
        rw [show (2 : Int) ^ rr = ((2 ^ rr : Nat) : Int) from (Int.natCast_pow 2 _).symm, ← Int.natCast_ediv, Int.tmod_eq_emod_of_nonneg (Int.natCast_nonneg _), ← hbit]; rfl
      clear hbit hj8
      have Hstep := Lib.hid hstep
      have hlt2 : e / 2 ^ j % 2 < 2 := Nat.mod_lt _ (by omega)
      clear hstep
      generalize sm a (e / 2 ^ (j + 1)) = p at *
      generalize e / 2 ^ j % 2 = b at *
      by_cases hb1 : b = 1
      · subst hb1
        have Hq : Hid (sm a (e / 2 ^ j) = p + p + a) := Lib.hid (by rw [Hstep.out, if_pos rfl])
        clear Hstep
        go_wp2_with (first
          | (with_reducible refine wpList_load_n rfl 24 (.tmp 3) rfl (w.heap.size + 2) rfl (lims p.val) 4 hO rfl Tryd.underlying24 Tryd.infoSc ?_)
          | (go_at_call 9
             with_reducible refine (M1.out p _).mono ?_
             rintro e w3 ⟨rfl, hb3⟩
             have hO3 := hO.keep hb3 hO.lt
             have hA3 := hA.keep hb3 hA.lt
             have hC3 := hC.keep hb3 hC.lt
             have b3 := hb.trans (hb3.mono hb.size))
          | (with_reducible refine wpList_store_n rfl 24 (.tmp 3) (.tmp 12) rfl (w.heap.size + 2) (lims (p + p).val) 4 rfl rfl rfl _ hO3 Tryd.infoSc rfl w.heap.size w b3 (by omega) ?_
             intro w4 hO4 o4 s4 b4
             have hA4 := hA3.oth o4 (by omega)
             have hC4 := hC3.oth o4 (by omega)
             have cE4 := CE.out w4 hA4)
          | (with_reducible refine wpList_load_n rfl 24 (.tmp 3) rfl (w.heap.size + 2) rfl (lims (p + p).val) 4 hO4 rfl Tryd.underlying24 Tryd.infoSc ?_)
          | (go_at_call 9
             with_reducible refine (M2.out (p + p) _).mono ?_
             rintro e w5 ⟨rfl, hb5⟩
             have hO5 := hO4.keep hb5 hO4.lt
             have hA5 := hA4.keep hb5 hA4.lt
             have hC5 := hC4.keep hb5 hC4.lt
             have b5 := b4.trans (hb5.mono b4.size))
          | (with_reducible refine wpList_store_n rfl 24 (.tmp 3) (.tmp 25) rfl (w.heap.size + 2) (lims (p + p + a).val) 4 rfl rfl rfl _ hO5 Tryd.infoSc rfl w.heap.size w b5 (by omega) ?_
             intro w6 hO6 o6 s6 b6
             have hA6 := hA5.oth o6 (by omega)
             have hC6 := hC5.oth o6 (by omega)))
        go_roundw
        case rel => exact ⟨j, by omega, by go_num, by rw [Hq.out]; exact hO6, hA6, hC6, b6⟩
        case measure => simp [intOf]
      · obtain rfl : b = 0 := by omega
        have Hq : Hid (sm a (e / 2 ^ j) = p + p) := Lib.hid (by rw [Hstep.out, if_neg (by omega)])
        clear Hstep
        go_wp2_with (first
          | (with_reducible refine wpList_load_n rfl 24 (.tmp 3) rfl (w.heap.size + 2) rfl (lims p.val) 4 hO rfl Tryd.underlying24 Tryd.infoSc ?_)
          | (go_at_call 9
             with_reducible refine (M1.out p _).mono ?_
             rintro e w3 ⟨rfl, hb3⟩
             have hO3 := hO.keep hb3 hO.lt
             have hA3 := hA.keep hb3 hA.lt
             have hC3 := hC.keep hb3 hC.lt
             have b3 := hb.trans (hb3.mono hb.size))
          | (with_reducible refine wpList_store_n rfl 24 (.tmp 3) (.tmp 12) rfl (w.heap.size + 2) (lims (p + p).val) 4 rfl rfl rfl _ hO3 Tryd.infoSc rfl w.heap.size w b3 (by omega) ?_
             intro w4 hO4 o4 s4 b4
             have hA4 := hA3.oth o4 (by omega)
             have hC4 := hC3.oth o4 (by omega)
             have cE4 := CE.out w4 hA4))
        go_roundw
        case rel => exact ⟨j, by omega, by go_num, by rw [Hq.out]; exact hO4, hA4, hC4, b4⟩
        case measure => simp [intOf]
end Go.Proofs.YthhcjknkmdaeeaaDoor
