/-
  The program's points in bytes: its variables; what is plain.
  The program's points in bytes: a point's bytes.
  The program's points in bytes: the point of a second number whose first one is even.
-/
import Derived.Test.YtlfkohanfeejfaaDoorMan
import Derived.Test.YtlfkohanfeejfaaDoorMas
import Derived.Test.YtlfkohanfeejfaaDoorMau
import Derived.Test.YtlfkohanfeejfaaDoorMbc
import Derived.Test.YtlfkohanfeejfaaDoorMbd
import Derived.Test.YtlfkohanfeejfaaDoorMbf
namespace Go.Proofs.YtlfkohanfeejfaaDoor
open Go.RowKit
namespace Pnt
open Crv

/-- All four variables. -/
structure Laid (W : World) : Prop where
  cv : Crv.Laid W
  fr : LaidF W
def lsz : Nat := max Crv.lsz (max (1 + 1) (2 + 1))
theorem Laid.size {W : World} (h : Laid W) : lsz ≤ W.heap.size := by
  have h1 := h.cv.size
  have h2 := h.fr.size
  unfold lsz
  omega
theorem Laid.keep {W W' : World} (h : Laid W) {D : Nat} (hb : Below D W W') (hD : lsz ≤ D) : Laid W' := by
  unfold lsz at hD
  exact ⟨h.cv.keep hb (by omega), h.fr.keep hb (by omega)⟩
theorem Laid.hid {w : World} (L0 : Laid w) : Hid (∀ W, Below w.heap.size w W → Laid W) := Lib.hid fun _ hb => L0.keep hb L0.size

theorem pair_true {q : F × Bool} (h : q.2 = true) : q = (q.1, true) := by
  obtain ⟨a, b⟩ := q
  exact congrArg (Prod.mk a) h
theorem froot_scale {c u v : F} (hc : c ≠ 0) : froot (c * u) (c * v) = froot u v := by
  cases h : (froot u v).2 with
  | true =>
    obtain ⟨h1, h2⟩ := froot_sol h
    have hz : v = 0 → (froot u v).1 = 0 := fun hv => by rw [hv, froot_zero]
    rw [pair_true h]
    generalize (froot u v).1 = x at *
    clear h
    refine froot_unique ?_ h2 fun h0 => ?_
    · rw [← h1]; grind
    · exact hz (F.cancel hc (by rw [h0]; grind))
  | false =>
    rw [froot_none h]
    refine froot_only fun x hx => ?_
    have : v * (x * x) = u := F.cancel hc (by rw [← hx]; grind)
    rw [froot_ok this] at h
    cases h
theorem over_ne : toF 121666 ≠ 0 := by decide +kernel
theorem over_dd : toF 121666 * dd = -toF 121665 := Fin.ext (by decide +kernel)
theorem scaled {c d e : F} (y : F) (h : c * e = -d) (hc : c ≠ 0) : froot (c * (y * y - 1)) (c - d * (y * y)) = froot (y * y - 1) (1 + e * (y * y)) := by
  rw [show c - d * (y * y) = c * (1 + e * (y * y)) by grind]
  exact froot_scale hc
/-- Both sides, so many times. -/
theorem xr_scaled (y : F) : froot (toF 121666 * (y * y - 1)) (toF 121666 - toF 121665 * (y * y)) = xr y := scaled y over_dd over_ne
theorem high_iff (l : List UInt8) (hl : l.length = 32) (h31 : 31 < l.length) : (TW ≤ leNum l) ↔ 128 ≤ (l[31]'h31).toNat := by
  have h := num_last l hl
  have h1 := last_lt l hl
  have e : TW = 256 ^ 31 * 128 := by decide
  rw [e, h]
  generalize leNum (l.take 31) = n at *
  generalize (l[31]'h31).toNat = x at *
  generalize (256 : Nat) ^ 31 = B at *
  constructor
  · intro h2
    rcases Nat.lt_or_ge x 128 with h3 | h3
    · have : B * x ≤ B * 127 := Nat.mul_le_mul_left _ (by omega)
      omega
    · exact h3
  · intro h2
    have : B * 128 ≤ B * x := Nat.mul_le_mul_left _ h2
    omega
theorem and_high (x : UInt8) : (bits .and .u8 (x.toNat : Int) 128 = 0) ↔ ¬ 128 ≤ x.toNat := by
  have h : ∀ a : Fin 256, (bits .and .u8 (((UInt8.ofNat a.val).toNat : Nat) : Int) 128 = 0) ↔ ¬ 128 ≤ (UInt8.ofNat a.val).toNat := by decide +kernel
  have e : UInt8.ofNat x.toNat = x := UInt8.ofNat_toNat
  have := h ⟨x.toNat, x.toNat_lt⟩
  simp only [e] at this
  exact this
theorem high_bit (l : List UInt8) (hl : l.length = 32) (h31 : 31 < l.length) : (bits .and .u8 ((l[31]'h31).toNat : Int) 128 != 0) = decide (TW ≤ leNum l) := by
  by_cases h : TW ≤ leNum l
  · rw [decide_eq_true h]
    exact bne_iff_ne.2 (fun h2 => (and_high _).1 h2 ((high_iff l hl h31).1 h))
  · rw [decide_eq_false h, (and_high _).2 (fun h2 => h ((high_iff l hl h31).2 h2))]
    rfl
theorem not_high (x : UInt8) : bits .andNot .u8 (x.toNat : Int) 128 = ((x &&& 127).toNat : Int) := by
  have h : ∀ a : Fin 256, bits .andNot .u8 (((UInt8.ofNat a.val).toNat : Nat) : Int) 128 = ((UInt8.ofNat a.val &&& 127).toNat : Int) := by decide +kernel
  have e : UInt8.ofNat x.toNat = x := UInt8.ofNat_toNat
  have := h ⟨x.toNat, x.toNat_lt⟩
  simp only [e] at this
  exact this
/-- The root that is tried: with the highest bit the odd one. -/
def pick (b : Bool) (x : F) : F := if b = true then -x else x
theorem pick_miss {l : List UInt8} (hk : (xr (yof l)).2 = true) (hm : enc (pick (decide (TW ≤ leNum l)) (xr (yof l)).1, yof l) ≠ l) : dec l = (pzero, false) := by
  have he : fodd (xr (yof l)).1 = false := (froot_sol hk).2
  have ho : ∀ x, enc (x, yof l) = l → fodd x = decide (TW ≤ leNum l) := fun x hx => by rw [← odd_enc (x, yof l), hx]
  unfold pick at hm
  by_cases hh : TW ≤ leNum l
  · rw [if_pos (decide_eq_true hh)] at hm
    refine dec_miss hk (fun h => ?_) hm
    have := ho _ h
    rw [he, decide_eq_true hh] at this
    cases this
  · rw [if_neg (by simp [hh])] at hm
    refine dec_miss hk hm (fun h => ?_)
    have h1 := ho _ h
    rw [decide_eq_false hh] at h1
    by_cases h0 : (xr (yof l)).1 = 0
    · rw [h0, show -(0 : F) = 0 by grind] at h
      rw [h0] at hm
      exact hm h
    · rw [fodd_neg h0, he] at h1
      cases h1
theorem pick_on {y : F} (h : On ((xr y).1, y)) (b : Bool) : On (pick b (xr y).1, y) := by
  unfold pick
  split
  · exact on_minus h
  · exact h
end Pnt
end Go.Proofs.YtlfkohanfeejfaaDoor

namespace Go.Proofs.YtlfkohanfeejfaaDoor
open Go.RowKit
namespace Pnt
open Crv

set_option maxRecDepth 100000 in
set_option maxHeartbeats 4000000 in
theorem Encode_any (x y : Nat) (w : World) (hx : x < big) (hy : y < big) (L0 : Laid w) :
    Calls Tryd.prog 10 #[.agg ((limsL [x, y]).map nv).toArray] w (GaveL w (enc (pOf x y))) := by
  have LK := L0.hid
  obtain ⟨p, hp⟩ : ∃ p, p = pOf x y := ⟨_, rfl⟩
  obtain ⟨b, hbo⟩ : ∃ b : Bool, b = decide (On (toF x, toF y)) := ⟨_, rfl⟩
  obtain ⟨nx, hnx⟩ : ∃ n : Nat, n = if b = true then x else 0 := ⟨_, rfl⟩
  obtain ⟨ny, hny⟩ : ∃ n : Nat, n = if b = true then y else 1 := ⟨_, rfl⟩
  have hnxb : nx < big := by rw [hnx]; split <;> first | assumption | decide
  have hnyb : ny < big := by rw [hny]; split <;> first | assumption | decide
  have e12 : toF nx = p.1 ∧ toF ny = p.2 := by
    rw [hnx, hny, hp]
    unfold pOf
    cases hc : b with
    | true =>
      rw [hbo, decide_eq_true_eq] at hc
      rw [if_pos hc]
      exact ⟨rfl, rfl⟩
    | false =>
      rw [hbo, decide_eq_false_iff_not] at hc
      rw [if_neg hc]
      exact ⟨rfl, rfl⟩
  have CK : Hid (∀ W, Below w.heap.size w W → Calls Tryd.prog 16 #[.agg ((limsL [x, y]).map nv).toArray] W fun e w' => e = .returned (.bool b) ∧ Below W.heap.size W w') := Lib.hid fun W hb => by
    rw [hbo]
    exact check_q (x, y) W ⟨hx, hy⟩ (LK.out W hb).cv
  have BY : Hid (∀ W, Calls Tryd.prog 33 #[.agg ((lims ny).map nv).toArray] W fun e w' => e = .returned (.agg ((leBytes p.2.val 32).map bv).toArray) ∧ Below W.heap.size W w') := Lib.hid fun W => by
    have h := Bytes_any ny W hnyb
    rw [e12.2] at h
    exact h
  have OD : Hid (∀ W, Calls Tryd.prog 34 #[.agg ((lims nx).map nv).toArray] W fun e w' => e = .returned (.bool (fodd p.1)) ∧ Below W.heap.size W w') := Lib.hid fun W => by
    have h := Odd_any nx W hnxb
    rw [e12.1] at h
    exact h
  have ZE : Hid (b = false → ∀ W, Below w.heap.size w W → Calls Tryd.prog 18 #[] W fun e w' => e = .returned (.agg ((limsL [nx, ny]).map nv).toArray) ∧ Below W.heap.size W w') := Lib.hid fun h W hb => by
    rw [hnx, hny, h]
    exact Zero_any W (LK.out W hb).cv
  have HE := Lib.hid (@enc_even p)
  have HO : Hid (∀ h31 : 31 < (leBytes p.2.val 32).length, fodd p.1 = true → (leBytes p.2.val 32).set 31 ((leBytes p.2.val 32)[31]'h31 ||| 128) = enc p) := Lib.hid fun _ h => enc_odd h
  have HL := Lib.hid (leBytes_length p.2.val 32)
  have HN := Lib.hid (enc_length p)
  rw [← hp]
  clear hp hx hy hbo hnxb hnyb e12 L0 LK
  obtain ⟨hA, hC, hb⟩ := enc_start w x y
  unfold GaveL
  generalize enc p = res at *
  generalize hl : leBytes p.2.val 32 = l at *
  generalize fodd p.1 = od at *
  clear hl p
  go_enter Tryd.func10, Tryd.ntmps10
  cases b with
  | true =>
    obtain rfl : nx = x := hnx
    obtain rfl : ny = y := hny
    clear ZE
    go_upto_region 3 with (first
      | (with_reducible refine wpList_load_pt rfl 26 (.tmp 1) rfl w.heap.size rfl (limsL [nx, ny]) 8 (by with_unfolding_all exact hA) rfl Tryd.underlying26 Tryd.infoPt ?_)
      | (go_at_call 16
         with_reducible refine (CK.out _ (by with_unfolding_all exact hb)).mono ?_
         rintro e w3 ⟨rfl, hb3⟩
         have hA3 : HoldsN w3 26 w.heap.size (limsL [nx, ny]) := hA.keep (by with_unfolding_all exact hb3) hA.lt
         have hC3 : HoldsB w3 27 (w.heap.size + 1) (List.replicate 32 0) := hC.keep (by with_unfolding_all exact hb3) hC.lt
         have b3 : Below w.heap.size w w3 := hb.trans (by with_unfolding_all exact hb3.mono hb.size))
      | fail)
    clear hA hC hb hb3 CK
    have hx3 : w3.rangeAt w.heap.size 0 ((lims nx).map nv) := range_at hA3 0 (by simp)
    have hy3 : w3.rangeAt w.heap.size 4 ((lims ny).map nv) := range_at hA3 1 (by simp)
    have l3 := hC3.lt
    go_upto_region 4 with (first
      | (with_reducible refine wpList_load_mid rfl 24 (.tmp 8) rfl w.heap.size 4 rfl ((lims ny).map nv) _ hy3 Tryd.underlying24 rfl (by rw [Tryd.infoFe, List.length_map, lims_length]) ?_)
      | (go_at_call 33
         with_reducible refine (BY.out _).mono ?_
         rintro e w4 ⟨rfl, hb4⟩
         have hA4 := hA3.keep hb4 hA3.lt
         have hC4 := hC3.keep hb4 hC3.lt
         have b4 := b3.trans (hb4.mono b3.size)
         have l4 := hC4.lt
         have z4 : HoldsB (w4.alloc (.cells zb 27)) 27 w4.heap.size (List.replicate 32 0) := holdsB_new w4 _ _ _ _ rfl rfl
         have b4a := b4.alloc b4.size (.cells zb 27)
         have hA4a := hA4.alloc (.cells zb 27)
         have hC4a := hC4.alloc (.cells zb 27))
      | (with_reducible refine wpList_store_b rfl 27 (.tmp 3) (.tmp 10) rfl w4.heap.size l rfl rfl HL.out (List.replicate 32 0) (by with_unfolding_all exact z4) Tryd.infoB32 (by simp) w.heap.size w (by with_unfolding_all exact b4a) b4.size ?_
         intro w5 hB5 o5 s5 b5
         have hA5 : HoldsN w5 26 w.heap.size (limsL [nx, ny]) := (o5 _ (by omega)).trans (by with_unfolding_all exact hA4a)
         have hC5 : HoldsB w5 27 (w.heap.size + 1) (List.replicate 32 0) := (o5 _ (by omega)).trans (by with_unfolding_all exact hC4a)
         clear s5)
      | fail)
    have hg4 : w.heap.size + 1 < w4.heap.size := l4
    clear hA3 hC3 hx3 hy3 b3 l3 hA4 hC4 b4 l4 z4 b4a hA4a hC4a hb4 o5 BY
    generalize w4.heap.size = g at *
    have hx5 : w5.rangeAt w.heap.size 0 ((lims nx).map nv) := range_at hA5 0 (by simp)
    cases od with
    | false =>
      obtain rfl : l = res := HE.out rfl
      clear HE HO
      go_upto_region 6 with (first
        | (with_reducible refine wpList_load_mid rfl 24 (.tmp 11) rfl w.heap.size 0 rfl ((lims nx).map nv) _ hx5 Tryd.underlying24 rfl (by rw [Tryd.infoFe, List.length_map, lims_length]) ?_)
        | (go_at_call 34
           with_reducible refine (OD.out _).mono ?_
           rintro e w6 ⟨rfl, hb6⟩
           have hB6 := hB5.keep hb6 hB5.lt
           have hC6 := hC5.keep hb6 hC5.lt
           have b6 := b5.trans (hb6.mono b5.size))
        | fail)
      clear hA5 hx5 hB5 hC5 b5 hb6 OD
      clear HL
      go_wp2_with (first
        | (with_reducible refine wpList_load_b rfl 27 (.tmp 3) rfl g rfl l hB6 HN.out Tryd.underlying27 Tryd.infoB32 ?_)
        | (with_reducible refine wpList_store_b rfl 27 (.tmp 2) (.tmp 18) rfl (w.heap.size + 1) l rfl rfl HN.out _ hC6 Tryd.infoB32 (by simp) w.heap.size w b6 (by omega) ?_; intro w7 Hg _ _ hb7)
        | fail)
      exact bodyPost_ret (results_cell_row rfl _ _ (w.heap.size + 1) _ _ _ _ rfl Hg Tryd.underlying27 rfl (by rw [Tryd.infoB32]; simp [HN.out])) rfl ⟨rfl, hb7⟩
    | true =>
      have h31 : 31 < l.length := by rw [HL.out]; omega
      have e := Lib.hid (HO.out h31 rfl)
      clear HE HO
      go_upto_region 5 with (first
        | (with_reducible refine wpList_load_mid rfl 24 (.tmp 11) rfl w.heap.size 0 rfl ((lims nx).map nv) _ hx5 Tryd.underlying24 rfl (by rw [Tryd.infoFe, List.length_map, lims_length]) ?_)
        | (go_at_call 34
           with_reducible refine (OD.out _).mono ?_
           rintro e w6 ⟨rfl, hb6⟩
           have hB6 := hB5.keep hb6 hB5.lt
           have hC6 := hC5.keep hb6 hC5.lt
           have b6 := b5.trans (hb6.mono b5.size))
        | fail)
      clear hA5 hx5 hB5 hC5 b5 hb6 OD
      have cB := hB6.cell h31
      have fB := hB6.frozen 31
      have hor := or_high (l[31]'h31)
      have hset := hB6.set 31 (l[31]'h31 ||| 128)
      rw [e.out] at hset
      have hC7 := hC6.setOther ⟨g, 31, none⟩ (.int .u8 ((l[31]'h31 ||| 128).toNat : Int)) (by simp; omega)
      have b7 := b6.setCell (p := ⟨g, 31, none⟩) (by simp; omega) (.int .u8 ((l[31]'h31 ||| 128).toNat : Int))
      clear e
      generalize (l[31]'h31 ||| 128).toNat = y1 at *
      generalize (l[31]'h31).toNat = x1 at *
      go_wp2_with (first
        | (with_reducible refine wpList_load_b rfl 27 (.tmp 3) rfl g rfl res hset HN.out Tryd.underlying27 Tryd.infoB32 ?_)
        | (with_reducible refine wpList_store_b rfl 27 (.tmp 2) (.tmp 18) rfl (w.heap.size + 1) res rfl rfl HN.out _ hC7 Tryd.infoB32 (by simp) w.heap.size w b7 (by omega) ?_; intro w7 Hg _ _ hb7)
        | fail)
      exact bodyPost_ret (results_cell_row rfl _ _ (w.heap.size + 1) _ _ _ _ rfl Hg Tryd.underlying27 rfl (by rw [Tryd.infoB32]; simp [HN.out])) rfl ⟨rfl, hb7⟩
  | false =>
    replace ZE := Lib.hid (ZE.out rfl)
    clear hnx hny
    go_upto_region 2 with (first
      | (with_reducible refine wpList_load_pt rfl 26 (.tmp 1) rfl w.heap.size rfl (limsL [x, y]) 8 (by with_unfolding_all exact hA) rfl Tryd.underlying26 Tryd.infoPt ?_)
      | (go_at_call 16
         with_reducible refine (CK.out _ (by with_unfolding_all exact hb)).mono ?_
         rintro e w1 ⟨rfl, hb1⟩
         have hA1 : HoldsN w1 26 w.heap.size (limsL [x, y]) := hA.keep (by with_unfolding_all exact hb1) hA.lt
         have hC1 : HoldsB w1 27 (w.heap.size + 1) (List.replicate 32 0) := hC.keep (by with_unfolding_all exact hb1) hC.lt
         have b1 : Below w.heap.size w w1 := hb.trans (by with_unfolding_all exact hb1.mono hb.size))
      | fail)
    clear hA hC hb hb1 CK
    go_upto_region 3 with (first
      | (go_at_call 18
         with_reducible refine (ZE.out _ b1).mono ?_
         rintro e w2 ⟨rfl, hb2⟩
         have hA2 := hA1.keep hb2 hA1.lt
         have hC2 := hC1.keep hb2 hC1.lt
         have b2 := b1.trans (hb2.mono b1.size))
      | (with_reducible refine wpList_store_n rfl 26 (.tmp 1) (.tmp 7) rfl w.heap.size (limsL [nx, ny]) 8 rfl rfl rfl (limsL [x, y]) hA2 Tryd.infoPt rfl w.heap.size w b2 (Nat.le_refl _) ?_
         intro w3 hA3 o3 s3 b3
         have hC3 := hC2.oth o3 (by omega)
         clear s3)
      | fail)
    clear hA1 hC1 b1 hb2 hA2 hC2 b2 o3 ZE
    have hx3 : w3.rangeAt w.heap.size 0 ((lims nx).map nv) := range_at hA3 0 (by simp)
    have hy3 : w3.rangeAt w.heap.size 4 ((lims ny).map nv) := range_at hA3 1 (by simp)
    have l3 := hC3.lt
    go_upto_region 4 with (first
      | (with_reducible refine wpList_load_mid rfl 24 (.tmp 8) rfl w.heap.size 4 rfl ((lims ny).map nv) _ hy3 Tryd.underlying24 rfl (by rw [Tryd.infoFe, List.length_map, lims_length]) ?_)
      | (go_at_call 33
         with_reducible refine (BY.out _).mono ?_
         rintro e w4 ⟨rfl, hb4⟩
         have hA4 := hA3.keep hb4 hA3.lt
         have hC4 := hC3.keep hb4 hC3.lt
         have b4 := b3.trans (hb4.mono b3.size)
         have l4 := hC4.lt
         have z4 : HoldsB (w4.alloc (.cells zb 27)) 27 w4.heap.size (List.replicate 32 0) := holdsB_new w4 _ _ _ _ rfl rfl
         have b4a := b4.alloc b4.size (.cells zb 27)
         have hA4a := hA4.alloc (.cells zb 27)
         have hC4a := hC4.alloc (.cells zb 27))
      | (with_reducible refine wpList_store_b rfl 27 (.tmp 3) (.tmp 10) rfl w4.heap.size l rfl rfl HL.out (List.replicate 32 0) (by with_unfolding_all exact z4) Tryd.infoB32 (by simp) w.heap.size w (by with_unfolding_all exact b4a) b4.size ?_
         intro w5 hB5 o5 s5 b5
         have hA5 : HoldsN w5 26 w.heap.size (limsL [nx, ny]) := (o5 _ (by omega)).trans (by with_unfolding_all exact hA4a)
         have hC5 : HoldsB w5 27 (w.heap.size + 1) (List.replicate 32 0) := (o5 _ (by omega)).trans (by with_unfolding_all exact hC4a)
         clear s5)
      | fail)
    have hg4 : w.heap.size + 1 < w4.heap.size := l4
    clear hA3 hC3 hx3 hy3 b3 l3 hA4 hC4 b4 l4 z4 b4a hA4a hC4a hb4 o5 BY
    generalize w4.heap.size = g at *
    have hx5 : w5.rangeAt w.heap.size 0 ((lims nx).map nv) := range_at hA5 0 (by simp)
    cases od with
    | false =>
      obtain rfl : l = res := HE.out rfl
      clear HE HO
      go_upto_region 6 with (first
        | (with_reducible refine wpList_load_mid rfl 24 (.tmp 11) rfl w.heap.size 0 rfl ((lims nx).map nv) _ hx5 Tryd.underlying24 rfl (by rw [Tryd.infoFe, List.length_map, lims_length]) ?_)
        | (go_at_call 34
           with_reducible refine (OD.out _).mono ?_
           rintro e w6 ⟨rfl, hb6⟩
           have hB6 := hB5.keep hb6 hB5.lt
           have hC6 := hC5.keep hb6 hC5.lt
           have b6 := b5.trans (hb6.mono b5.size))
        | fail)
      clear hA5 hx5 hB5 hC5 b5 hb6 OD
      clear HL
      go_wp2_with (first
        | (with_reducible refine wpList_load_b rfl 27 (.tmp 3) rfl g rfl l hB6 HN.out Tryd.underlying27 Tryd.infoB32 ?_)
        | (with_reducible refine wpList_store_b rfl 27 (.tmp 2) (.tmp 18) rfl (w.heap.size + 1) l rfl rfl HN.out _ hC6 Tryd.infoB32 (by simp) w.heap.size w b6 (by omega) ?_; intro w7 Hg _ _ hb7)
        | fail)
      exact bodyPost_ret (results_cell_row rfl _ _ (w.heap.size + 1) _ _ _ _ rfl Hg Tryd.underlying27 rfl (by rw [Tryd.infoB32]; simp [HN.out])) rfl ⟨rfl, hb7⟩
    | true =>
      have h31 : 31 < l.length := by rw [HL.out]; omega
      have e := Lib.hid (HO.out h31 rfl)
      clear HE HO
      go_upto_region 5 with (first
        | (with_reducible refine wpList_load_mid rfl 24 (.tmp 11) rfl w.heap.size 0 rfl ((lims nx).map nv) _ hx5 Tryd.underlying24 rfl (by rw [Tryd.infoFe, List.length_map, lims_length]) ?_)
        | (go_at_call 34
           with_reducible refine (OD.out _).mono ?_
           rintro e w6 ⟨rfl, hb6⟩
           have hB6 := hB5.keep hb6 hB5.lt
           have hC6 := hC5.keep hb6 hC5.lt
           have b6 := b5.trans (hb6.mono b5.size))
        | fail)
      clear hA5 hx5 hB5 hC5 b5 hb6 OD
      have cB := hB6.cell h31
      have fB := hB6.frozen 31
      have hor := or_high (l[31]'h31)
      have hset := hB6.set 31 (l[31]'h31 ||| 128)
      rw [e.out] at hset
      have hC7 := hC6.setOther ⟨g, 31, none⟩ (.int .u8 ((l[31]'h31 ||| 128).toNat : Int)) (by simp; omega)
      have b7 := b6.setCell (p := ⟨g, 31, none⟩) (by simp; omega) (.int .u8 ((l[31]'h31 ||| 128).toNat : Int))
      clear e
      generalize (l[31]'h31 ||| 128).toNat = y1 at *
      generalize (l[31]'h31).toNat = x1 at *
      go_wp2_with (first
        | (with_reducible refine wpList_load_b rfl 27 (.tmp 3) rfl g rfl res hset HN.out Tryd.underlying27 Tryd.infoB32 ?_)
        | (with_reducible refine wpList_store_b rfl 27 (.tmp 2) (.tmp 18) rfl (w.heap.size + 1) res rfl rfl HN.out _ hC7 Tryd.infoB32 (by simp) w.heap.size w b7 (by omega) ?_; intro w7 Hg _ _ hb7)
        | fail)
      exact bodyPost_ret (results_cell_row rfl _ _ (w.heap.size + 1) _ _ _ _ rfl Hg Tryd.underlying27 rfl (by rw [Tryd.infoB32]; simp [HN.out])) rfl ⟨rfl, hb7⟩
end Pnt
end Go.Proofs.YtlfkohanfeejfaaDoor

namespace Go.Proofs.YtlfkohanfeejfaaDoor
open Go.RowKit
namespace Pnt
open Crv

section
attribute [local go_sem ↓] load_pt load_fe
set_option maxRecDepth 100000 in
set_option maxHeartbeats 8000000 in
theorem even_el (y : F) (w : World) (L0 : Laid w) :
    Calls Tryd.prog 23 #[.agg ((lims y.val).map nv).toArray] w fun e w' => e = .returned (.tuple #[.agg ((limsL [(xr y).1.val, y.val]).map nv).toArray, .bool (xr y).2]) ∧ Below w.heap.size w w' := by
  have LK := L0.hid
  obtain ⟨yy, hyy⟩ : ∃ z, z = y * y := ⟨_, rfl⟩
  obtain ⟨un, hun⟩ : ∃ z, z = toF 121666 := ⟨_, rfl⟩
  obtain ⟨ov, hov⟩ : ∃ z, z = toF 121665 := ⟨_, rfl⟩
  obtain ⟨one, hone⟩ : ∃ z : F, z = 1 := ⟨_, rfl⟩
  obtain ⟨s1, hs1⟩ : ∃ z, z = yy - one := ⟨_, rfl⟩
  obtain ⟨u, hu⟩ : ∃ z, z = un * s1 := ⟨_, rfl⟩
  obtain ⟨m1, hm1⟩ : ∃ z, z = ov * yy := ⟨_, rfl⟩
  obtain ⟨v, hv⟩ : ∃ z, z = un - m1 := ⟨_, rfl⟩
  obtain ⟨r, hr⟩ : ∃ z, z = (xr y).1 := ⟨_, rfl⟩
  obtain ⟨ok1, hok⟩ : ∃ z, z = (xr y).2 := ⟨_, rfl⟩
  have K1 : Hid (∀ W, Calls Tryd.prog 43 #[.agg ((lims y.val).map nv).toArray, .agg ((lims y.val).map nv).toArray] W fun e w' => e = .returned (.agg ((lims yy.val).map nv).toArray) ∧ Below W.heap.size W w') := Lib.hid fun W => by rw [hyy]; exact fMul y y W
  have K2 : Hid (∀ W, Calls Tryd.prog 47 #[.int .u64 121666] W fun e w' => e = .returned (.agg ((lims un.val).map nv).toArray) ∧ Below W.heap.size W w') := Lib.hid fun W => by rw [hun]; exact Small_any 121666 W (by decide)
  have K3 : Hid (∀ W, Calls Tryd.prog 47 #[.int .u64 121665] W fun e w' => e = .returned (.agg ((lims ov.val).map nv).toArray) ∧ Below W.heap.size W w') := Lib.hid fun W => by rw [hov]; exact Small_any 121665 W (by decide)
  have K4 : Hid (∀ W, Calls Tryd.prog 47 #[.int .u64 1] W fun e w' => e = .returned (.agg ((lims one.val).map nv).toArray) ∧ Below W.heap.size W w') := Lib.hid fun W => by rw [hone]; exact fSmall W
  have K5 : Hid (∀ W, Below w.heap.size w W → Calls Tryd.prog 45 #[.agg ((lims yy.val).map nv).toArray, .agg ((lims one.val).map nv).toArray] W fun e w' => e = .returned (.agg ((lims s1.val).map nv).toArray) ∧ Below W.heap.size W w') := Lib.hid fun W hb => by rw [hs1]; exact fSub yy one W (LK.out W hb).cv
  have K6 : Hid (∀ W, Calls Tryd.prog 43 #[.agg ((lims un.val).map nv).toArray, .agg ((lims s1.val).map nv).toArray] W fun e w' => e = .returned (.agg ((lims u.val).map nv).toArray) ∧ Below W.heap.size W w') := Lib.hid fun W => by rw [hu]; exact fMul un s1 W
  have K7 : Hid (∀ W, Calls Tryd.prog 43 #[.agg ((lims ov.val).map nv).toArray, .agg ((lims yy.val).map nv).toArray] W fun e w' => e = .returned (.agg ((lims m1.val).map nv).toArray) ∧ Below W.heap.size W w') := Lib.hid fun W => by rw [hm1]; exact fMul ov yy W
  have K8 : Hid (∀ W, Below w.heap.size w W → Calls Tryd.prog 45 #[.agg ((lims un.val).map nv).toArray, .agg ((lims m1.val).map nv).toArray] W fun e w' => e = .returned (.agg ((lims v.val).map nv).toArray) ∧ Below W.heap.size W w') := Lib.hid fun W hb => by rw [hv]; exact fSub un m1 W (LK.out W hb).cv
  have K9 : Hid (∀ W, Below w.heap.size w W → Calls Tryd.prog 55 #[.agg ((lims u.val).map nv).toArray, .agg ((lims v.val).map nv).toArray] W fun e w' => e = .returned (.tuple #[.agg ((lims r.val).map nv).toArray, .bool ok1]) ∧ Below W.heap.size W w') := Lib.hid fun W hb => by
    have h := Root_any u.val v.val W (F.lt_big _) (F.lt_big _) (LK.out W hb).fr
    simp only [toF_of] at h
    have e : froot u v = xr y := by rw [hu, hv, hs1, hm1, hyy, hun, hov, hone]; exact xr_scaled y
    rw [e, ← hr, ← hok] at h
    exact h
  rw [← hr, ← hok]
  clear hyy hun hov hone hs1 hu hm1 hv hr hok L0 LK
  have hbu := Lib.hid (Tryd.builtPt r.val y.val)
  have F1 : Bs w (w.heap.size + 1 + 1) [(w.heap.size + 1, 26, ((limsL [0, 0]).map nv).toArray), (w.heap.size, 24, ((lims y.val).map nv).toArray)] ((w.alloc (.cells ((lims y.val).map nv).toArray 24)).alloc (.cells #[.int .u64 0, .int .u64 0, .int .u64 0, .int .u64 0, .int .u64 0, .int .u64 0, .int .u64 0, .int .u64 0] 26)) := (Bs.nil.alloc rfl).alloc (World.size_alloc ..).symm
  go_enter Tryd.func23, Tryd.ntmps23
  go_upto_region 1 with (fail)
  generalize (w.alloc (.cells ((lims y.val).map nv).toArray 24)).alloc (.cells #[.int .u64 0, .int .u64 0, .int .u64 0, .int .u64 0, .int .u64 0, .int .u64 0, .int .u64 0, .int .u64 0] 26) = wv at *
  have hY := F1.getN (g := w.heap.size) (l := lims y.val) (by repeat (first | exact List.mem_cons_self .. | refine List.mem_cons_of_mem _ ?_))
  go_upto_region 2 with (first
    | (with_reducible refine wpList_load_n rfl 24 (.tmp 1) rfl w.heap.size rfl (lims y.val) 4 hY rfl Tryd.underlying24 Tryd.infoFe ?_)
    | (go_at_call 43
       with_reducible refine (K1.out _).mono ?_
       rintro e w2 ⟨rfl, hb2⟩
       have F2 := Bs.stay _ _ F1 hb2
       have F2a := Bs.stay _ _ F2 ((Below.refl _ w2).alloc (Nat.le_refl _) (.cells #[.int .u64 0, .int .u64 0, .int .u64 0, .int .u64 0] 24))
       have z2 := fe_new w2)
    | (with_reducible refine wpList_store_n rfl 24 (.tmp 4) (.tmp 9) rfl w2.heap.size (lims yy.val) 4 rfl rfl rfl (lims 0) (by with_unfolding_all exact z2) Tryd.infoFe rfl w.heap.size w (by with_unfolding_all exact F2a.below) F2.below.size ?_
       intro w3 H3 o3 s3 b3
       have F3 := Bs.add (by with_unfolding_all exact F2a) F2.len H3 o3 b3
       clear s3)
    | fail)
  have hg4 := F2.len
  clear hY hb2 F1 F2 F2a z2 H3 o3 b3 K1
  generalize w2.heap.size = g4 at *
  try dsimp only [Act.put]
  go_cut [5, 6] (fun vp vb wx => vb = .bool ok1 ∧ ∃ g, vp = .pointer (some ⟨g, 0, none⟩) ∧ g4 < g ∧ Bs w (g + 1) [(g, 24, ((lims r.val).map nv).toArray), (g4, 24, ((lims yy.val).map nv).toArray), (w.heap.size + 1, 26, ((limsL [0, 0]).map nv).toArray), (w.heap.size, 24, ((lims y.val).map nv).toArray)] wx)
  case first =>
    refine wp_region_lexS 16 15 14 5 (MadeT 24 #[.int .u64 0, .int .u64 0, .int .u64 0, .int .u64 0] (g4 + 1) 0) (HeldT 24 ((lims r.val).map nv).toArray (g4 + 1)) (Bs w (g4 + 1) [(g4, 24, ((lims yy.val).map nv).toArray), (w.heap.size + 1, 26, ((limsL [0, 0]).map nv).toArray), (w.heap.size, 24, ((lims y.val).map nv).toArray)]) (by kernel_rfl) (by kernel_rfl) F3.drew Bs.stay MadeT.stayS HeldT.stay (made_tS run_alloc_fe6 Bs.size rfl) ?_
    simp only [List.take_succ_cons, List.take_zero, List.drop_succ_cons, List.drop_zero]
    refine' lexS_call (by rfl) (by rfl) (by rfl) (fun W hW => ?_) (fun W hW => ?_) ?_
    rotate_left 3
    · go_simp <;> first | with_reducible rfl | exact ⟨rfl, rfl⟩
    · with_reducible exact K2.out W
    simp only [Act.put, List.setIfInBounds_toArray, List.set_cons_zero, List.set_cons_succ]
    refine lexS_value (v := ?_) (by rfl) (by rfl) (by rfl) (fun W hW => ?_) ?_
    rotate_left
    · have l1 := run_loadFe (hW.getN (g := g4) (l := lims yy.val) (by repeat (first | exact List.mem_cons_self .. | refine List.mem_cons_of_mem _ ?_))); go_simp <;> with_reducible rfl
    simp only [Act.put, List.setIfInBounds_toArray, List.set_cons_zero, List.set_cons_succ]
    refine' lexS_call (by rfl) (by rfl) (by rfl) (fun W hW => ?_) (fun W hW => ?_) ?_
    rotate_left 3
    · go_simp <;> first | with_reducible rfl | exact ⟨rfl, rfl⟩
    · with_reducible exact K4.out W
    simp only [Act.put, List.setIfInBounds_toArray, List.set_cons_zero, List.set_cons_succ]
    refine' lexS_call (by rfl) (by rfl) (by rfl) (fun W hW => ?_) (fun W hW => ?_) ?_
    rotate_left 3
    · go_simp <;> first | with_reducible rfl | exact ⟨rfl, rfl⟩
    · with_reducible exact K5.out W hW.below
    simp only [Act.put, List.setIfInBounds_toArray, List.set_cons_zero, List.set_cons_succ]
    refine' lexS_call (by rfl) (by rfl) (by rfl) (fun W hW => ?_) (fun W hW => ?_) ?_
    rotate_left 3
    · go_simp <;> first | with_reducible rfl | exact ⟨rfl, rfl⟩
    · with_reducible exact K6.out W
    simp only [Act.put, List.setIfInBounds_toArray, List.set_cons_zero, List.set_cons_succ]
    refine' lexS_call (by rfl) (by rfl) (by rfl) (fun W hW => ?_) (fun W hW => ?_) ?_
    rotate_left 3
    · go_simp <;> first | with_reducible rfl | exact ⟨rfl, rfl⟩
    · with_reducible exact K2.out W
    simp only [Act.put, List.setIfInBounds_toArray, List.set_cons_zero, List.set_cons_succ]
    refine' lexS_call (by rfl) (by rfl) (by rfl) (fun W hW => ?_) (fun W hW => ?_) ?_
    rotate_left 3
    · go_simp <;> first | with_reducible rfl | exact ⟨rfl, rfl⟩
    · with_reducible exact K3.out W
    simp only [Act.put, List.setIfInBounds_toArray, List.set_cons_zero, List.set_cons_succ]
    refine lexS_value (v := ?_) (by rfl) (by rfl) (by rfl) (fun W hW => ?_) ?_
    rotate_left
    · have l1 := run_loadFe (hW.getN (g := g4) (l := lims yy.val) (by repeat (first | exact List.mem_cons_self .. | refine List.mem_cons_of_mem _ ?_))); go_simp <;> with_reducible rfl
    simp only [Act.put, List.setIfInBounds_toArray, List.set_cons_zero, List.set_cons_succ]
    refine' lexS_call (by rfl) (by rfl) (by rfl) (fun W hW => ?_) (fun W hW => ?_) ?_
    rotate_left 3
    · go_simp <;> first | with_reducible rfl | exact ⟨rfl, rfl⟩
    · with_reducible exact K7.out W
    simp only [Act.put, List.setIfInBounds_toArray, List.set_cons_zero, List.set_cons_succ]
    refine' lexS_call (by rfl) (by rfl) (by rfl) (fun W hW => ?_) (fun W hW => ?_) ?_
    rotate_left 3
    · go_simp <;> first | with_reducible rfl | exact ⟨rfl, rfl⟩
    · with_reducible exact K8.out W hW.below
    simp only [Act.put, List.setIfInBounds_toArray, List.set_cons_zero, List.set_cons_succ]
    refine' lexS_call (by rfl) (by rfl) (by rfl) (fun W hW => ?_) (fun W hW => ?_) ?_
    rotate_left 3
    · go_simp <;> first | with_reducible rfl | exact ⟨rfl, rfl⟩
    · with_reducible exact K9.out W hW.below
    simp only [Act.put, List.setIfInBounds_toArray, List.set_cons_zero, List.set_cons_succ]
    refine lexS_value (v := ?_) (by rfl) (by rfl) (by rfl) (fun W hW => ?_) ?_
    rotate_left
    · skip; go_simp <;> with_reducible rfl
    simp only [Act.put, List.setIfInBounds_toArray, List.set_cons_zero, List.set_cons_succ]
    refine lexS_value (v := ?_) (by rfl) (by rfl) (by rfl) (fun W hW => ?_) ?_
    rotate_left
    · skip; go_simp <;> with_reducible rfl
    simp only [Act.put, List.setIfInBounds_toArray, List.set_cons_zero, List.set_cons_succ]
    refine lexS_value (v := ?_) (by rfl) (by rfl) (by rfl) (fun W hW => ?_) ?_
    rotate_left
    · skip; go_simp <;> with_reducible rfl
    simp only [Act.put, List.setIfInBounds_toArray, List.set_cons_zero, List.set_cons_succ]
    refine lexS_free (by rfl) ?_
    refine lexS_store (by rfl) (by rfl) (stores_t rfl (by rfl) (by simp) (by rfl) (by rw [Tryd.infoFe]; simp [lims_length]) (by simp [lims_length]) (n_one _)) ?_
    simp only [Act.put]
    refine lexS_nil (fun W8 v8 F8 E8 => ?_)
    obtain ⟨g, rfl, hg, hX⟩ := E8
    simp only [List.setIfInBounds_toArray, List.set_cons_zero, List.set_cons_succ]
    go_wp2_with fail
    go_meet
    exact ⟨rfl, g, rfl, hg, F8.addHeld hg hX⟩
  case rest =>
    obtain ⟨rfl, g5, rfl, hg5, F8⟩ := hcut
    have hp5 := F8.pos
    clear F3 K2 K3 K4 K5 K6 K7 K8 K9
    go_upto_region 3 with (fail)
    rename_i W8
    have hX := F8.getN (g := g5) (l := lims r.val) (by repeat (first | exact List.mem_cons_self .. | refine List.mem_cons_of_mem _ ?_))
    have hY := F8.getN (g := w.heap.size) (l := lims y.val) (by repeat (first | exact List.mem_cons_self .. | refine List.mem_cons_of_mem _ ?_))
    have hR := F8.getN (g := w.heap.size + 1) (l := limsL [0, 0]) (by repeat (first | exact List.mem_cons_self .. | refine List.mem_cons_of_mem _ ?_))
    have b8 := F8.below
    clear F8
    go_wp2_with (first
      | (with_reducible refine wpList_load_n rfl 24 (.tmp 5) rfl g5 rfl (lims r.val) 4 hX rfl Tryd.underlying24 Tryd.infoFe ?_)
      | (with_reducible refine wpList_load_n rfl 24 (.tmp 1) rfl w.heap.size rfl (lims y.val) 4 hY rfl Tryd.underlying24 Tryd.infoFe ?_)
      | ((with_reducible refine wpList_buildTo rfl 26 #[(0, .tmp 24), (1, .tmp 25)] rfl (some 26) rfl ((limsL [r.val, y.val]).map nv).toArray ?_ ?_)
         · with_unfolding_all exact hbu.out)
      | (with_reducible refine wpList_store_n rfl 26 (.tmp 2) (.tmp 26) rfl (w.heap.size + 1) (limsL [r.val, y.val]) 8 rfl rfl rfl (limsL [0, 0]) hR Tryd.infoPt rfl w.heap.size w b8 (by omega) ?_; intro w10 Hg _ _ b10)
      | fail)
    exact bodyPost_ret (results_cell_slot rfl _ _ (w.heap.size + 1) _ _ _ _ rfl Hg Tryd.underlying26 rfl (by rw [Tryd.infoPt]; rfl)) rfl ⟨rfl, b10⟩
end
end Pnt
end Go.Proofs.YtlfkohanfeejfaaDoor
