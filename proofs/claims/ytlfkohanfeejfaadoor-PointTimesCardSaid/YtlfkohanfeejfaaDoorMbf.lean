/-
  The document's bytes of points: the point that bytes are.
  Bytes of a point with the highest bit turned. Pure.
  Arrays of sixty-four bytes compared; unlike arrays of bytes.
-/
import Derived.Test.YtlfkohanfeejfaaDoorMab
import Derived.Test.YtlfkohanfeejfaaDoorMai
import Derived.Test.YtlfkohanfeejfaaDoorMbd
import Derived.Test.YtlfkohanfeejfaaDoorMbe
namespace Go.Proofs.YtlfkohanfeejfaaDoor
open Go.RowKit
namespace Crv

theorem Tryd.builtY (y : Nat) : Tryd.prog.built 26 [(1, .agg ((lims y).map nv).toArray)] = some ((limsL [0, y]).map nv).toArray := by kernel_rfl
theorem dec_hit {l : List UInt8} {p : F × F} (hp : On p) (h : enc p = l) : dec l = (p, true) := by rw [← h]; exact dec_enc hp
theorem dec_miss {l : List UInt8} (h : (xr (yof l)).2 = true) (h1 : enc ((xr (yof l)).1, yof l) ≠ l) (h2 : enc (-(xr (yof l)).1, yof l) ≠ l) : dec l = (pzero, false) := by
  unfold dec
  rw [if_pos h, if_neg h1, if_neg h2]
theorem dec_none {l : List UInt8} (h : (xr (yof l)).2 = false) : dec l = (pzero, false) := by
  unfold dec
  rw [if_neg (by rw [h]; decide)]
/-- What Decode gives. -/
def dnum (l : List UInt8) : Nat × Nat := vals (dec l).1
def derr (l : List UInt8) : Int := if (dec l).2 = true then 0 else 70
theorem set_and (l : List UInt8) (h : l.length = 32) (h31 : 31 < l.length) : leNum (l.set 31 (l[31]'h31 &&& 127)) = leNum l % TW := low_num l h
/-- What is tried in turn. -/
def trial (r : F) (k : Nat) : F := if k % 2 = 0 then r else -r
theorem trial_succ (r : F) (k : Nat) : -trial r k = trial r (k + 1) := by
  unfold trial
  rcases Nat.mod_two_eq_zero_or_one k with h | h
  · rw [if_pos h, if_neg (by omega)]
  · rw [if_neg (by omega), if_pos (by omega)]; grind
theorem trial_on {r y : F} (h : On (r, y)) (k : Nat) : On (trial r k, y) := by
  unfold trial
  split
  · exact h
  · exact on_minus h
theorem enc_num_pt (x y : F) (h : On (x, y)) : enc (pOf x.val y.val) = enc (x, y) := by rw [show pOf x.val y.val = (x, y) from pOf_of (p := (x, y)) h]
theorem zero_vals : vals (pzero, false).1 = (0, 1) := by decide +kernel
theorem run_alloc_fe6 (f : Operand → Value) (o : Oper) (w : World) (ho : o.op = .alloc 24) :
    (execOp f o).run Tryd.prog w = .ok (.value (.pointer (some ⟨w.heap.size, 0, none⟩))) (w.alloc (.cells #[.int .u64 0, .int .u64 0, .int .u64 0, .int .u64 0] 24)) := by
  obtain ⟨dst, op, type, pos, after, guard⟩ := o
  obtain rfl : op = .alloc 24 := ho
  go_simp
theorem vals_pair (x y : F) : vals (x, y) = (x.val, y.val) := rfl

section
attribute [local go_sem ↓] load_pt load_fe Byt.load_by
set_option maxRecDepth 100000 in
set_option maxHeartbeats 8000000 in
theorem rDecode_any (l : List UInt8) (w : World) (hl : l.length = 32) :
    Calls Tryd.prog 9 #[.agg (l.map bv).toArray] w fun e w' => e = .returned (.tuple #[.agg ((limsL [(dnum l).1, (dnum l).2]).map nv).toArray, .int .i64 (derr l)]) ∧ Below w.heap.size w w' := by
  have h31 : 31 < l.length := by omega
  obtain ⟨l7, hl7⟩ : ∃ m, m = l.set 31 (l[31]'h31 &&& 127) := ⟨_, rfl⟩
  have HL7 : Hid (l7.length = 32) := Lib.hid (by rw [hl7, List.length_set, hl])
  obtain ⟨y0, hy0⟩ : ∃ y, y = yof l := ⟨_, rfl⟩
  obtain ⟨yy, hyy⟩ : ∃ y, y = y0 * y0 := ⟨_, rfl⟩
  obtain ⟨u, hu⟩ : ∃ y, y = yy - 1 := ⟨_, rfl⟩
  obtain ⟨dy, hdy⟩ : ∃ y, y = dd * yy := ⟨_, rfl⟩
  obtain ⟨v, hv⟩ : ∃ y, y = 1 + dy := ⟨_, rfl⟩
  obtain ⟨r, hr⟩ : ∃ y, y = (xr y0).1 := ⟨_, rfl⟩
  obtain ⟨ok, hok⟩ : ∃ y, y = (xr y0).2 := ⟨_, rfl⟩
  have OF : Hid (∀ W, Calls Tryd.prog 25 #[.agg (l7.map bv).toArray] W fun e w' => e = .returned (.agg ((lims y0.val).map nv).toArray) ∧ Below W.heap.size W w') := Lib.hid fun W => by
    have h := rOf_any l7 W HL7.out
    rw [hl7, set_and l hl h31, ← hl7, show toF (leNum l % TW) = y0 from hy0.symm] at h
    exact h
  have MU : Hid (∀ W, Calls Tryd.prog 26 #[.agg ((lims y0.val).map nv).toArray, .agg ((lims y0.val).map nv).toArray] W fun e w' => e = .returned (.agg ((lims yy.val).map nv).toArray) ∧ Below W.heap.size W w') := Lib.hid fun W => by
    have h := rMul_any y0.val y0.val W (F.lt_big _) (F.lt_big _)
    simp only [toF_of] at h
    rw [← hyy] at h
    exact h
  have SU : Hid (∀ W, Calls Tryd.prog 28 #[.agg ((lims yy.val).map nv).toArray, .agg #[.int .u64 1, .int .u64 0, .int .u64 0, .int .u64 0]] W fun e w' => e = .returned (.agg ((lims u.val).map nv).toArray) ∧ Below W.heap.size W w') := Lib.hid fun W => by
    have h := rSub_any yy.val 1 W (F.lt_big _) (by decide)
    simp only [toF_one, toF_of] at h
    rw [← hu, ← lit_one] at h
    exact h
  have DE : Hid (∀ W, Calls Tryd.prog 30 #[] W fun e w' => e = .returned (.agg ((lims dd.val).map nv).toArray) ∧ Below W.heap.size W w') := Lib.hid fun W => rDee_any W
  have MD : Hid (∀ W, Calls Tryd.prog 26 #[.agg ((lims dd.val).map nv).toArray, .agg ((lims yy.val).map nv).toArray] W fun e w' => e = .returned (.agg ((lims dy.val).map nv).toArray) ∧ Below W.heap.size W w') := Lib.hid fun W => by
    have h := rMul_any dd.val yy.val W (F.lt_big _) (F.lt_big _)
    simp only [toF_of] at h
    rw [← hdy] at h
    exact h
  have AD : Hid (∀ W, Calls Tryd.prog 29 #[.agg #[.int .u64 1, .int .u64 0, .int .u64 0, .int .u64 0], .agg ((lims dy.val).map nv).toArray] W fun e w' => e = .returned (.agg ((lims v.val).map nv).toArray) ∧ Below W.heap.size W w') := Lib.hid fun W => by
    have h := rAdd_any 1 dy.val W (by decide) (F.lt_big _)
    simp only [toF_one, toF_of] at h
    rw [← hv, ← lit_one] at h
    exact h
  have RO : Hid (∀ W, Calls Tryd.prog 27 #[.agg ((lims u.val).map nv).toArray, .agg ((lims v.val).map nv).toArray] W fun e w' => e = .returned (.tuple #[.agg ((lims r.val).map nv).toArray, .bool ok]) ∧ Below W.heap.size W w') := Lib.hid fun W => by
    have h := rRoot_any u.val v.val W (F.lt_big _) (F.lt_big _)
    simp only [toF_of] at h
    have e : froot u v = xr y0 := by rw [hu, hv, hdy, hyy]; rfl
    rw [e, ← hr, ← hok] at h
    exact h
  have NE : Hid (∀ k W, Calls Tryd.prog 31 #[.agg ((lims (trial r k).val).map nv).toArray] W fun e w' => e = .returned (.agg ((lims (trial r (k + 1)).val).map nv).toArray) ∧ Below W.heap.size W w') := Lib.hid fun k W => by
    have h := rNeg_any (trial r k).val W (F.lt_big _)
    rw [toF_of, trial_succ] at h
    exact h
  have ON : Hid (ok = true → ∀ k, On (trial r k, y0)) := Lib.hid fun h k => trial_on (by rw [hr]; exact xr_on (hok.symm.trans h)) k
  have EN : Hid (ok = true → ∀ k W, Calls Tryd.prog 11 #[.agg ((limsL [(trial r k).val, y0.val]).map nv).toArray] W fun e w' => e = .returned (.agg ((enc (trial r k, y0)).map bv).toArray) ∧ Below W.heap.size W w') := Lib.hid fun h k W => by
    have h2 := rEncode_any (trial r k).val y0.val W (F.lt_big _) (F.lt_big _)
    rw [enc_num_pt _ _ (ON.out h k)] at h2
    exact h2
  have ZE : Hid (∀ W, Calls Tryd.prog 32 #[] W fun e w' => e = .returned (.agg ((limsL [0, 1]).map nv).toArray) ∧ Below W.heap.size W w') := Lib.hid fun W => rZero_any W
  have HIT : Hid (ok = true → ∀ k, enc (trial r k, y0) = l → (dnum l).1 = (trial r k).val ∧ (dnum l).2 = y0.val ∧ derr l = 0) := Lib.hid fun h k he => by
    have hd := dec_hit (ON.out h k) he
    unfold dnum derr
    rw [hd]
    exact ⟨rfl, rfl, if_pos rfl⟩
  have MISS : Hid (ok = false ∨ (enc (trial r 0, y0) ≠ l ∧ enc (trial r 1, y0) ≠ l) → dnum l = (0, 1) ∧ derr l = 70) := Lib.hid fun h => by
    have hd : dec l = (pzero, false) := by
      cases hc : ok with
      | false => exact dec_none (by rw [← hy0, ← hok, hc])
      | true =>
        rcases h with h | h
        · rw [hc] at h; cases h
        · rw [show trial r 0 = r from rfl, show trial r 1 = -r from rfl] at h
          exact dec_miss (by rw [← hy0, ← hok, hc]) (by rw [← hy0, ← hr]; exact h.1) (by rw [← hy0, ← hr]; exact h.2)
    unfold dnum derr
    rw [hd]
    exact ⟨zero_vals, if_neg (by decide)⟩
  have EQ : Hid (∀ k W, (binOp .eql 27 (.agg ((enc (trial r k, y0)).map bv).toArray) (.agg (l.map bv).toArray)).run Tryd.prog W = .ok (.bool (decide (enc (trial r k, y0) = l))) W) := Lib.hid fun k W => Byt.run_eql_b _ _ (enc_length _) hl W
  have GU := fun (x y : Operand) (a b : Array Value) (W : World) => Byt.run_guard_b x y a b W
  have BY := fun y : Nat => Lib.hid (Tryd.builtY y)
  have HL := Lib.hid hl
  clear hy0 hyy hu hdy hv hr hok ON
  generalize dnum l = rn at *
  generalize derr l = re at *
  have F0 : HoldsB ((w.alloc (.cells (l.map bv).toArray 27)).alloc (.cells #[.int .u64 0, .int .u64 0, .int .u64 0, .int .u64 0, .int .u64 0, .int .u64 0, .int .u64 0, .int .u64 0] 26)) 27 w.heap.size l ∧ HoldsN ((w.alloc (.cells (l.map bv).toArray 27)).alloc (.cells #[.int .u64 0, .int .u64 0, .int .u64 0, .int .u64 0, .int .u64 0, .int .u64 0, .int .u64 0, .int .u64 0] 26)) 26 (w.heap.size + 1) (limsL [0, 0]) ∧ Below w.heap.size w ((w.alloc (.cells (l.map bv).toArray 27)).alloc (.cells #[.int .u64 0, .int .u64 0, .int .u64 0, .int .u64 0, .int .u64 0, .int .u64 0, .int .u64 0, .int .u64 0] 26)) := by
    have e1 : (w.alloc (.cells (l.map bv).toArray 27)).heap.size = w.heap.size + 1 := World.size_alloc ..
    exact ⟨(holdsB_new w _ _ _ _ rfl rfl).alloc _, holdsN_new _ _ _ _ _ e1.symm (by kernel_rfl), ((Below.refl _ w).alloc (Nat.le_refl _) _).alloc (by omega) _⟩
  obtain ⟨hA, hR, hb⟩ := F0
  have hlA := hR.lt
  go_enter Tryd.func9, Tryd.ntmps9
  go_upto_region 1 with (fail)
  generalize (w.alloc (.cells (l.map bv).toArray 27)).alloc (.cells #[.int .u64 0, .int .u64 0, .int .u64 0, .int .u64 0, .int .u64 0, .int .u64 0, .int .u64 0, .int .u64 0] 26) = wv at *
  have z1 : HoldsB (wv.alloc (.cells zb 27)) 27 wv.heap.size (List.replicate 32 0) := holdsB_new wv _ _ _ _ rfl rfl
  have b1a := hb.alloc hb.size (.cells zb 27)
  have hA1a := hA.alloc (.cells zb 27)
  have hR1a := hR.alloc (.cells zb 27)
  go_upto_region 2 with (first
    | (with_reducible refine wpList_load_b rfl 27 (.tmp 1) rfl w.heap.size rfl l hA HL.out Tryd.underlying27 Tryd.infoB32 ?_)
    | (with_reducible refine wpList_store_b rfl 27 (.tmp 4) (.tmp 10) rfl wv.heap.size l rfl rfl HL.out (List.replicate 32 0) (by with_unfolding_all exact z1) Tryd.infoB32 (by simp) w.heap.size w (by with_unfolding_all exact b1a) hb.size ?_
       intro w2 hB2 o2 s2 b2
       have hA2 : HoldsB w2 27 w.heap.size l := (o2 _ (by omega)).trans (by with_unfolding_all exact hA1a)
       have hR2 : HoldsN w2 26 (w.heap.size + 1) (limsL [0, 0]) := (o2 _ (by omega)).trans (by with_unfolding_all exact hR1a)
       clear s2)
    | fail)
  clear hA hR hb z1 b1a hA1a hR1a o2
  generalize hg4' : wv.heap.size = g4 at *
  have c31 := hB2.cell h31
  have f31 := hB2.frozen 31
  have hand := and_seven (l[31]'h31)
  have hB3 := hB2.set 31 (l[31]'h31 &&& 127)
  rw [← hl7] at hB3
  have hA3 := hA2.setOther ⟨g4, 31, none⟩ (.int .u8 ((l[31]'h31 &&& 127).toNat : Int)) (by simp; omega)
  have hR3 := hR2.setOther ⟨g4, 31, none⟩ (.int .u8 ((l[31]'h31 &&& 127).toNat : Int)) (by simp; omega)
  have b3 := b2.setCell (p := ⟨g4, 31, none⟩) (by simp; omega) (.int .u8 ((l[31]'h31 &&& 127).toNat : Int))
  clear hl7
  generalize (l[31]'h31 &&& 127).toNat = x127 at *
  generalize (l[31]'h31).toNat = x31 at *
  clear h31 hB2 hA2 hR2 b2 hg4'
  go_upto_region 3 with (fail)
  generalize w2.setCell ⟨g4, 31, none⟩ (.int .u8 (x127 : Int)) = w3 at *
  have hbu := BY y0.val
  go_upto_region 4 with (first
    | (with_reducible refine wpList_load_b rfl 27 (.tmp 4) rfl g4 rfl l7 hB3 HL7.out Tryd.underlying27 Tryd.infoB32 ?_)
    | (go_at_call 25
       with_reducible refine (OF.out _).mono ?_
       rintro e w4 ⟨rfl, hb4⟩
       have hA4 := hA3.keep hb4 hA3.lt
       have hR4 := hR3.keep hb4 hR3.lt
       have b4 := b3.trans (hb4.mono b3.size)
       have l4 := hR4.lt
       have z4 : HoldsN (w4.alloc (.cells #[.int .u64 0, .int .u64 0, .int .u64 0, .int .u64 0, .int .u64 0, .int .u64 0, .int .u64 0, .int .u64 0] 26)) 26 w4.heap.size (limsL [0, 0]) := holdsN_new w4 _ _ _ _ rfl (by kernel_rfl)
       have b4a := b4.alloc b4.size (.cells #[.int .u64 0, .int .u64 0, .int .u64 0, .int .u64 0, .int .u64 0, .int .u64 0, .int .u64 0, .int .u64 0] 26)
       have hA4a := hA4.alloc (.cells #[.int .u64 0, .int .u64 0, .int .u64 0, .int .u64 0, .int .u64 0, .int .u64 0, .int .u64 0, .int .u64 0] 26)
       have hR4a := hR4.alloc (.cells #[.int .u64 0, .int .u64 0, .int .u64 0, .int .u64 0, .int .u64 0, .int .u64 0, .int .u64 0, .int .u64 0] 26))
    | ((with_reducible refine wpList_buildTo rfl 26 #[(1, .tmp 16)] rfl (some 17) rfl ((limsL [0, y0.val]).map nv).toArray ?_ ?_)
       · with_unfolding_all exact hbu.out)
    | (with_reducible refine wpList_store_n rfl 26 (.tmp 5) (.tmp 17) rfl w4.heap.size (limsL [0, y0.val]) 8 rfl rfl rfl (limsL [0, 0]) (by with_unfolding_all exact z4) Tryd.infoPt rfl w.heap.size w (by with_unfolding_all exact b4a) b4.size ?_
       intro w5 hP5 o5 s5 b5
       have hA5 : HoldsB w5 27 w.heap.size l := (o5 _ (by omega)).trans (by with_unfolding_all exact hA4a)
       have hR5 : HoldsN w5 26 (w.heap.size + 1) (limsL [0, 0]) := (o5 _ (by omega)).trans (by with_unfolding_all exact hR4a)
       clear s5)
    | fail)
  clear hB3 hA3 hR3 b3 hA4 hR4 b4 z4 b4a hA4a hR4a hb4 o5 OF BY hbu
  have hg5 : w.heap.size + 1 < w4.heap.size := l4
  generalize w4.heap.size = g5 at *
  clear l4
  have hy5 : w5.rangeAt g5 4 ((lims y0.val).map nv) := range_at hP5 1 (by simp)
  go_upto_region 5 with (first
    | (with_reducible refine wpList_load_mid rfl 24 (.tmp 18) rfl g5 4 rfl ((lims y0.val).map nv) _ hy5 Tryd.underlying24 rfl (by rw [Tryd.infoFe, List.length_map, lims_length]) ?_)
    | (with_reducible refine wpList_load_mid rfl 24 (.tmp 20) rfl g5 4 rfl ((lims y0.val).map nv) _ hy5 Tryd.underlying24 rfl (by rw [Tryd.infoFe, List.length_map, lims_length]) ?_)
    | (go_at_call 26
       with_reducible refine (MU.out _).mono ?_
       rintro e w6 ⟨rfl, hb6⟩
       have hA6 := hA5.keep hb6 hA5.lt
       have hR6 := hR5.keep hb6 hR5.lt
       have hP6 := hP5.keep hb6 hP5.lt
       have b6 := b5.trans (hb6.mono b5.size)
       have l6 := hP6.lt
       have z6 : HoldsN (w6.alloc (.cells #[.int .u64 0, .int .u64 0, .int .u64 0, .int .u64 0] 24)) 24 w6.heap.size (lims 0) := holdsN_new w6 _ _ _ _ rfl (by kernel_rfl)
       have b6a := b6.alloc b6.size (.cells #[.int .u64 0, .int .u64 0, .int .u64 0, .int .u64 0] 24)
       have hA6a := hA6.alloc (.cells #[.int .u64 0, .int .u64 0, .int .u64 0, .int .u64 0] 24)
       have hR6a := hR6.alloc (.cells #[.int .u64 0, .int .u64 0, .int .u64 0, .int .u64 0] 24)
       have hP6a := hP6.alloc (.cells #[.int .u64 0, .int .u64 0, .int .u64 0, .int .u64 0] 24))
    | (with_reducible refine wpList_store_n rfl 24 (.tmp 6) (.tmp 22) rfl w6.heap.size (lims yy.val) 4 rfl rfl rfl (lims 0) (by with_unfolding_all exact z6) Tryd.infoFe rfl w.heap.size w (by with_unfolding_all exact b6a) b6.size ?_
       intro w7 hY7 o7 s7 b7
       have hA7 : HoldsB w7 27 w.heap.size l := (o7 _ (by omega)).trans (by with_unfolding_all exact hA6a)
       have hR7 : HoldsN w7 26 (w.heap.size + 1) (limsL [0, 0]) := (o7 _ (by omega)).trans (by with_unfolding_all exact hR6a)
       have hP7 : HoldsN w7 26 g5 (limsL [0, y0.val]) := (o7 _ (by omega)).trans (by with_unfolding_all exact hP6a)
       clear s7)
    | fail)
  clear hy5 hP5 hA5 hR5 b5 hA6 hR6 hP6 b6 z6 b6a hA6a hR6a hP6a hb6 o7 MU
  have hg6 : g5 < w6.heap.size := l6
  generalize w6.heap.size = g6 at *
  clear l6
  have F7 : Bs w (g6 + 1) [(g6, 24, ((lims yy.val).map nv).toArray), (g5, 26, ((limsL [0, y0.val]).map nv).toArray), (w.heap.size, 27, (l.map bv).toArray), (w.heap.size + 1, 26, ((limsL [0, 0]).map nv).toArray)] w7 := ⟨fun p hp => by
    simp only [List.mem_cons, List.not_mem_nil, or_false] at hp
    rcases hp with rfl | rfl | rfl | rfl
    · exact ⟨Nat.lt_succ_self _, hY7⟩
    · exact ⟨by simp only; omega, hP7⟩
    · exact ⟨by simp only; omega, hA7⟩
    · exact ⟨by simp only; omega, hR7⟩, hY7.lt, by omega, b7⟩
  clear hY7 hP7 hA7 hR7 b7
  try dsimp only [Act.put]
  go_cut [7, 8] (fun vp vb wx => vb = .bool ok ∧ ∃ g, vp = .pointer (some ⟨g, 0, none⟩) ∧ g6 < g ∧ Bs w (g + 1) [(g, 24, ((lims r.val).map nv).toArray), (g5, 26, ((limsL [0, y0.val]).map nv).toArray), (w.heap.size, 27, (l.map bv).toArray), (w.heap.size + 1, 26, ((limsL [0, 0]).map nv).toArray)] wx)
  case first =>
    refine wp_region_lexS 14 13 12 7 (MadeT 24 #[.int .u64 0, .int .u64 0, .int .u64 0, .int .u64 0] (g6 + 1) 0) (HeldT 24 ((lims r.val).map nv).toArray (g6 + 1)) (Bs w (g6 + 1) [(g6, 24, ((lims yy.val).map nv).toArray), (g5, 26, ((limsL [0, y0.val]).map nv).toArray), (w.heap.size, 27, (l.map bv).toArray), (w.heap.size + 1, 26, ((limsL [0, 0]).map nv).toArray)]) (by kernel_rfl) (by kernel_rfl) F7.drew Bs.stay MadeT.stayS HeldT.stay (made_tS run_alloc_fe6 Bs.size rfl) ?_
    simp only [List.take_succ_cons, List.take_zero, List.drop_succ_cons, List.drop_zero]
    refine lexS_value (v := ?_) (by rfl) (by rfl) (by rfl) (fun W hW => ?_) ?_
    rotate_left
    · have l1 := run_loadFe (hW.getN (g := g6) (l := lims yy.val) (by repeat (first | exact List.mem_cons_self .. | refine List.mem_cons_of_mem _ ?_))); go_simp <;> with_reducible rfl
    simp only [Act.put, List.setIfInBounds_toArray, List.set_cons_zero, List.set_cons_succ]
    refine lexS_value (v := ?_) (by rfl) (by rfl) (by rfl) (fun W hW => ?_) ?_
    rotate_left
    · skip; go_simp <;> with_reducible rfl
    simp only [Act.put, List.setIfInBounds_toArray, List.set_cons_zero, List.set_cons_succ]
    refine' lexS_call (by rfl) (by rfl) (by rfl) (fun W hW => ?_) (fun W hW => ?_) ?_
    rotate_left 3
    · go_simp <;> first | with_reducible rfl | exact ⟨rfl, rfl⟩
    · with_reducible exact SU.out W
    simp only [Act.put, List.setIfInBounds_toArray, List.set_cons_zero, List.set_cons_succ]
    refine lexS_value (v := ?_) (by rfl) (by rfl) (by rfl) (fun W hW => ?_) ?_
    rotate_left
    · skip; go_simp <;> with_reducible rfl
    simp only [Act.put, List.setIfInBounds_toArray, List.set_cons_zero, List.set_cons_succ]
    refine' lexS_call (by rfl) (by rfl) (by rfl) (fun W hW => ?_) (fun W hW => ?_) ?_
    rotate_left 3
    · go_simp <;> first | with_reducible rfl | exact ⟨rfl, rfl⟩
    · with_reducible exact DE.out W
    simp only [Act.put, List.setIfInBounds_toArray, List.set_cons_zero, List.set_cons_succ]
    refine lexS_value (v := ?_) (by rfl) (by rfl) (by rfl) (fun W hW => ?_) ?_
    rotate_left
    · have l1 := run_loadFe (hW.getN (g := g6) (l := lims yy.val) (by repeat (first | exact List.mem_cons_self .. | refine List.mem_cons_of_mem _ ?_))); go_simp <;> with_reducible rfl
    simp only [Act.put, List.setIfInBounds_toArray, List.set_cons_zero, List.set_cons_succ]
    refine' lexS_call (by rfl) (by rfl) (by rfl) (fun W hW => ?_) (fun W hW => ?_) ?_
    rotate_left 3
    · go_simp <;> first | with_reducible rfl | exact ⟨rfl, rfl⟩
    · with_reducible exact MD.out W
    simp only [Act.put, List.setIfInBounds_toArray, List.set_cons_zero, List.set_cons_succ]
    refine' lexS_call (by rfl) (by rfl) (by rfl) (fun W hW => ?_) (fun W hW => ?_) ?_
    rotate_left 3
    · go_simp <;> first | with_reducible rfl | exact ⟨rfl, rfl⟩
    · with_reducible exact AD.out W
    simp only [Act.put, List.setIfInBounds_toArray, List.set_cons_zero, List.set_cons_succ]
    refine' lexS_call (by rfl) (by rfl) (by rfl) (fun W hW => ?_) (fun W hW => ?_) ?_
    rotate_left 3
    · go_simp <;> first | with_reducible rfl | exact ⟨rfl, rfl⟩
    · with_reducible exact RO.out W
    simp only [Act.put, List.setIfInBounds_toArray, List.set_cons_zero, List.set_cons_succ]
    refine lexS_value (v := ?_) (by rfl) (by rfl) (by rfl) (fun W hW => ?_) ?_
    rotate_left
    · skip; go_simp <;> with_reducible rfl
    simp only [Act.put, List.setIfInBounds_toArray, List.set_cons_zero, List.set_cons_succ]
    refine lexS_value (v := ?_) (by rfl) (by rfl) (by rfl) (fun W hW => ?_) ?_
    rotate_left
    · skip; go_simp <;> with_reducible rfl
    simp only [Act.put, List.setIfInBounds_toArray, List.set_cons_zero, List.set_cons_succ]
    refine lexS_value (v := ?_) (by rfl) (by rfl) (by rfl) (fun W hW => ?_) ?_
    rotate_left
    · skip; go_simp <;> with_reducible rfl
    simp only [Act.put, List.setIfInBounds_toArray, List.set_cons_zero, List.set_cons_succ]
    refine lexS_free (by rfl) ?_
    refine lexS_store (by rfl) (by rfl) (stores_t rfl (by rfl) (by simp) (by rfl) (by rw [Tryd.infoFe]; simp [lims_length]) (by simp [lims_length]) (n_one _)) ?_
    simp only [Act.put]
    refine lexS_nil (fun W8 v8 F8 E8 => ?_)
    obtain ⟨g, rfl, hg, hX⟩ := E8
    simp only [List.setIfInBounds_toArray, List.set_cons_zero, List.set_cons_succ]
    go_wp2_with fail
    go_meet
    exact ⟨rfl, g, rfl, hg, (F8.addHeld hg hX).sub (by intro p hp; simp only [List.mem_cons, List.not_mem_nil, or_false] at hp ⊢; rcases hp with rfl | rfl | rfl | rfl <;> simp)⟩
  case rest =>
    obtain ⟨rfl, g7, rfl, hg7, F8⟩ := hcut
    clear F7 SU DE MD AD RO
    have T0 : trial r 0 = r := rfl
    rw [← T0] at F8
    clear T0
    go_upto_region 6 with (fail)
    go_wp2_with (fail)
    go_loopw [9] (fun vi wr => ∃ (k X : Nat), k ≤ 2 ∧ vi = .int .i64 (k : Int) ∧ Hid (∀ j, j < k → enc (trial r j, y0) ≠ l) ∧ Bs w (g7 + 1) [(g7, 24, ((lims (trial r k).val).map nv).toArray), (g5, 26, ((limsL [X, y0.val]).map nv).toArray), (w.heap.size, 27, (l.map bv).toArray), (w.heap.size + 1, 26, ((limsL [0, 0]).map nv).toArray)] wr)
      (fun vi _ => 2 - (intOf vi).toNat)
    case atStart => exact ⟨0, 0, Nat.zero_le _, rfl, Lib.hid (fun j hj => absurd hj (Nat.not_lt_zero j)), F8⟩
    case round =>
      clear F8
      obtain ⟨k, X, hk, rfl, HM, FB⟩ := hrel
      rename_i wr
      have hT : HoldsN wr 24 g7 (lims (trial r k).val) := FB.getN (by repeat (first | exact List.mem_cons_self .. | refine List.mem_cons_of_mem _ ?_))
      have hP : HoldsN wr 26 g5 (limsL [X, y0.val]) := FB.getN (by repeat (first | exact List.mem_cons_self .. | refine List.mem_cons_of_mem _ ?_))
      have hA : HoldsB wr 27 w.heap.size l := FB.getB (by repeat (first | exact List.mem_cons_self .. | refine List.mem_cons_of_mem _ ?_))
      have hR : HoldsN wr 26 (w.heap.size + 1) (limsL [0, 0]) := FB.getN (by repeat (first | exact List.mem_cons_self .. | refine List.mem_cons_of_mem _ ?_))
      have hb := FB.below
      clear FB
      cases ok with
      | false =>
        have hm := MISS.out (Or.inl rfl)
        clear NE EN HIT MISS EQ HM hT hP hA
        go_wp2_with (first
          | (go_at_call 32
             with_reducible refine (ZE.out _).mono ?_
             rintro e w9 ⟨rfl, hb9⟩
             have hR9 := hR.keep hb9 hR.lt
             have b9 := hb.trans (hb9.mono hb.size))
          | (with_reducible refine wpList_store_n rfl 26 (.tmp 2) (.tmp 51) rfl (w.heap.size + 1) (limsL [0, 1]) 8 rfl rfl rfl (limsL [0, 0]) hR9 Tryd.infoPt rfl w.heap.size w b9 (by omega) ?_; intro w10 Hg _ _ b10)
          | fail)
        exact bodyPost_ret (results_cell_slot rfl _ _ (w.heap.size + 1) _ _ _ _ rfl Hg Tryd.underlying26 rfl (by rw [Tryd.infoPt]; rfl)) rfl ⟨by rw [hm.1, hm.2]; rfl, b10⟩
      | true =>
        by_cases hlt : k < 2
        · have hlt2 : (k : Int) < 2 := by omega
          have EK := Lib.hid (EN.out rfl k)
          have NK := Lib.hid (NE.out k)
          have QK := EQ.out k
          have HK := Lib.hid (HIT.out rfl k)
          have HM2 : Hid (enc (trial r k, y0) ≠ l → ∀ j, j < k + 1 → enc (trial r j, y0) ≠ l) := Lib.hid fun h j hj => by
            rcases Nat.lt_succ_iff_lt_or_eq.1 hj with h1 | h1
            · exact HM.out j h1
            · rw [h1]; exact h
          clear EN NE EQ HIT MISS HM
          generalize ht1 : trial r (k + 1) = t1 at *
          have HT1 := Lib.hid ht1
          clear ht1
          generalize henc : enc (trial r k, y0) = el at *
          generalize trial r k = t0 at *
          clear henc
          go_upto_region 10 with (first
            | (with_reducible refine wpList_load_n rfl 24 (.tmp 7) rfl g7 rfl (lims t0.val) 4 hT rfl Tryd.underlying24 Tryd.infoFe ?_)
            | (with_reducible refine wpList_store_field rfl 24 (.tmp 43) (.tmp 42) rfl g5 0 (lims t0.val) 4 rfl rfl rfl 26 (limsL [X, y0.val]) (limsL [t0.val, y0.val]) hP (by rw [limsL_length]; simp) rfl Tryd.infoFe w.heap.size w hb (by omega) ?_
               intro w9 hP9 o9 s9 b9
               have hT9 := hT.oth o9 (by omega)
               have hA9 := hA.oth o9 (by omega)
               have hR9 := hR.oth o9 (by omega)
               clear s9)
            | fail)
          have hg := hT9.lt
          have F9 : Bs w (g7 + 1) [(g7, 24, ((lims t0.val).map nv).toArray), (g5, 26, ((limsL [t0.val, y0.val]).map nv).toArray), (w.heap.size, 27, (l.map bv).toArray), (w.heap.size + 1, 26, ((limsL [0, 0]).map nv).toArray)] w9 := ⟨fun p hp => by
            simp only [List.mem_cons, List.not_mem_nil, or_false] at hp
            rcases hp with rfl | rfl | rfl | rfl
            · exact ⟨Nat.lt_succ_self _, hT9⟩
            · exact ⟨by simp only; omega, hP9⟩
            · exact ⟨by simp only; omega, hA9⟩
            · exact ⟨by simp only; omega, hR9⟩, hg, by omega, b9⟩
          clear hT hP hA hR hb hT9 hP9 hA9 hR9 b9 o9 hg
          by_cases he : el = l
          · rw [decide_eq_true he] at QK
            have hm := HK.out he
            clear HK HM2 he
            refine wp_region_lex 3 (fun _ => false) (fun _ _ _ => True) (Bs w (g7 + 1) [(g7, 24, ((lims t0.val).map nv).toArray), (g5, 26, ((limsL [t0.val, y0.val]).map nv).toArray), (w.heap.size, 27, (l.map bv).toArray), (w.heap.size + 1, 26, ((limsL [0, 0]).map nv).toArray)]) (by kernel_rfl) (by kernel_rfl) F9.drew Bs.stay (fun _ _ _ _ _ _ => trivial) lex_none ?_
            simp only [List.take_succ_cons, List.take_zero, List.drop_succ_cons, List.drop_zero]
            refine lexW_value (v := ?_) (by rfl) (by rfl) (fun W hW => ?_) ?_
            rotate_left
            · have l1 := run_loadPt (hW.getN (g := g5) (l := limsL [t0.val, y0.val]) (by repeat (first | exact List.mem_cons_self .. | refine List.mem_cons_of_mem _ ?_))); go_simp <;> with_reducible rfl
            simp only [Act.put, List.setIfInBounds_toArray, List.set_cons_zero, List.set_cons_succ]
            refine' lexW_call (by rfl) (by rfl) (fun W hW => ?_) (fun W hW => ?_) ?_
            rotate_left 3
            · go_simp <;> first | with_reducible rfl | exact ⟨rfl, rfl⟩
            · with_reducible exact EK.out W
            simp only [Act.put, List.setIfInBounds_toArray, List.set_cons_zero, List.set_cons_succ]
            refine lexW_value (v := ?_) (by rfl) (by rfl) (fun W hW => ?_) ?_
            rotate_left
            · have l1 := Byt.run_loadBy (hW.getB (g := w.heap.size) (l := l) (by repeat (first | exact List.mem_cons_self .. | refine List.mem_cons_of_mem _ ?_))) HL.out; go_simp <;> with_reducible rfl
            simp only [Act.put, List.setIfInBounds_toArray, List.set_cons_zero, List.set_cons_succ]
            refine lexW_nil (fun b8 W8 F8 E8 => ?_)
            obtain rfl := lexEnd_none E8
            have hP8 : HoldsN W8 26 g5 (limsL [t0.val, y0.val]) := F8.getN (by repeat (first | exact List.mem_cons_self .. | refine List.mem_cons_of_mem _ ?_))
            have hR8 : HoldsN W8 26 (w.heap.size + 1) (limsL [0, 0]) := F8.getN (by repeat (first | exact List.mem_cons_self .. | refine List.mem_cons_of_mem _ ?_))
            have b8 := F8.below
            go_wp2_with (first
              | (with_reducible refine wpList_load_pt rfl 26 (.tmp 5) rfl g5 rfl (limsL [t0.val, y0.val]) 8 hP8 rfl Tryd.underlying26 Tryd.infoPt ?_)
              | (with_reducible refine wpList_store_n rfl 26 (.tmp 2) (.tmp 48) rfl (w.heap.size + 1) (limsL [t0.val, y0.val]) 8 rfl rfl rfl (limsL [0, 0]) hR8 Tryd.infoPt rfl w.heap.size w b8 (by omega) ?_; intro w10 Hg _ _ b10)
              | fail)
            exact bodyPost_ret (results_cell_slot rfl _ _ (w.heap.size + 1) _ _ _ _ rfl Hg Tryd.underlying26 rfl (by rw [Tryd.infoPt]; rfl)) rfl ⟨by rw [hm.1, hm.2.1, hm.2.2]; rfl, b10⟩
          · rw [decide_eq_false he] at QK
            have HM3 := Lib.hid (HM2.out he)
            clear HK HM2 he
            refine wp_region_lex 3 (fun _ => false) (fun _ _ _ => True) (Bs w (g7 + 1) [(g7, 24, ((lims t0.val).map nv).toArray), (g5, 26, ((limsL [t0.val, y0.val]).map nv).toArray), (w.heap.size, 27, (l.map bv).toArray), (w.heap.size + 1, 26, ((limsL [0, 0]).map nv).toArray)]) (by kernel_rfl) (by kernel_rfl) F9.drew Bs.stay (fun _ _ _ _ _ _ => trivial) lex_none ?_
            simp only [List.take_succ_cons, List.take_zero, List.drop_succ_cons, List.drop_zero]
            refine lexW_value (v := ?_) (by rfl) (by rfl) (fun W hW => ?_) ?_
            rotate_left
            · have l1 := run_loadPt (hW.getN (g := g5) (l := limsL [t0.val, y0.val]) (by repeat (first | exact List.mem_cons_self .. | refine List.mem_cons_of_mem _ ?_))); go_simp <;> with_reducible rfl
            simp only [Act.put, List.setIfInBounds_toArray, List.set_cons_zero, List.set_cons_succ]
            refine' lexW_call (by rfl) (by rfl) (fun W hW => ?_) (fun W hW => ?_) ?_
            rotate_left 3
            · go_simp <;> first | with_reducible rfl | exact ⟨rfl, rfl⟩
            · with_reducible exact EK.out W
            simp only [Act.put, List.setIfInBounds_toArray, List.set_cons_zero, List.set_cons_succ]
            refine lexW_value (v := ?_) (by rfl) (by rfl) (fun W hW => ?_) ?_
            rotate_left
            · have l1 := Byt.run_loadBy (hW.getB (g := w.heap.size) (l := l) (by repeat (first | exact List.mem_cons_self .. | refine List.mem_cons_of_mem _ ?_))) HL.out; go_simp <;> with_reducible rfl
            simp only [Act.put, List.setIfInBounds_toArray, List.set_cons_zero, List.set_cons_succ]
            refine lexW_nil (fun b8 W8 F8 E8 => ?_)
            obtain rfl := lexEnd_none E8
            have hT8 : HoldsN W8 24 g7 (lims t0.val) := F8.getN (by repeat (first | exact List.mem_cons_self .. | refine List.mem_cons_of_mem _ ?_))
            go_wp2_with (first
              | (with_reducible refine wpList_load_n rfl 24 (.tmp 7) rfl g7 rfl (lims t0.val) 4 hT8 rfl Tryd.underlying24 Tryd.infoFe ?_)
              | (go_at_call 31
                 with_reducible refine (NK.out _).mono ?_
                 rintro e w11 ⟨rfl, hb11⟩
                 have F11 := Bs.stay _ _ F8 hb11
                 have hT11 : HoldsN w11 24 g7 (lims t0.val) := F11.getN (by repeat (first | exact List.mem_cons_self .. | refine List.mem_cons_of_mem _ ?_)))
              | (with_reducible refine wpList_store_n rfl 24 (.tmp 7) (.tmp 50) rfl g7 (lims t1.val) 4 rfl rfl rfl (lims t0.val) hT11 Tryd.infoFe rfl w.heap.size w F11.below (by omega) ?_
                 intro w12 hT12 o12 s12 b12
                 have F12 := F11.turn (by simp; omega) hT12 o12 (Nat.le_of_eq s12.symm) b12
                 clear s12)
              | fail)
            go_roundw
            case rel => exact ⟨k + 1, t0.val, by omega, by go_num, HM3, by rw [HT1.out]; exact F12⟩
            case measure => simp [intOf]; omega
        · obtain rfl : k = 2 := by omega
          have hm := MISS.out (Or.inr ⟨HM.out 0 (by omega), HM.out 1 (by omega)⟩)
          clear NE EN HIT MISS EQ HM hT hP hA
          go_wp2_with (first
            | (go_at_call 32
               with_reducible refine (ZE.out _).mono ?_
               rintro e w9 ⟨rfl, hb9⟩
               have hR9 := hR.keep hb9 hR.lt
               have b9 := hb.trans (hb9.mono hb.size))
            | (with_reducible refine wpList_store_n rfl 26 (.tmp 2) (.tmp 51) rfl (w.heap.size + 1) (limsL [0, 1]) 8 rfl rfl rfl (limsL [0, 0]) hR9 Tryd.infoPt rfl w.heap.size w b9 (by omega) ?_; intro w10 Hg _ _ b10)
            | fail)
          exact bodyPost_ret (results_cell_slot rfl _ _ (w.heap.size + 1) _ _ _ _ rfl Hg Tryd.underlying26 rfl (by rw [Tryd.infoPt]; rfl)) rfl ⟨by rw [hm.1, hm.2]; rfl, b10⟩
end
end Crv
end Go.Proofs.YtlfkohanfeejfaaDoor

namespace Go.Proofs.YtlfkohanfeejfaaDoor
open Go.RowKit

/-- The highest bit turned. -/
def flip (p : F × F) : List UInt8 := leBytes (p.2.val + if fodd p.1 = true then 0 else TW) 32
theorem flip_length (p : F × F) : (flip p).length = 32 := leBytes_length _ _
theorem flip_num (p : F × F) : leNum (flip p) = p.2.val + if fodd p.1 = true then 0 else TW := by
  unfold flip
  rw [leNum_leBytes]
  refine Nat.mod_eq_of_lt ?_
  have h := F.lt_TW p.2
  have e : (256 : Nat) ^ 32 = 2 * TW := by decide
  rw [e]
  split <;> omega
theorem flip_set (p : F × F) (h31 : 31 < (enc p).length) : (enc p).set 31 ((enc p)[31]'h31 ^^^ 128) = flip p := by
  have hl := enc_length p
  refine leNum_inj (by rw [List.length_set, hl, flip_length]) ?_
  rw [set_last _ _ hl, flip_num]
  have h0 := num_last (enc p) hl
  have h1 := last_lt (enc p) hl
  rw [enc_num] at h0
  have hy := F.lt_TW p.2
  have hb := ((enc p)[31]'h31).toNat_lt
  have e : TW = 256 ^ 31 * 128 := by decide
  rw [UInt8.toNat_xor]
  have hx : ∀ a : Fin 256, (a.val : Nat) ^^^ (128 : UInt8).toNat = if a.val < 128 then a.val + 128 else a.val - 128 := by decide +kernel
  have hx' := hx ⟨((enc p)[31]'h31).toNat, hb⟩
  simp only at hx'
  rw [hx']
  generalize ((enc p)[31]'h31).toNat = x at *
  generalize leNum ((enc p).take 31) = n at *
  generalize p.2.val = y at *
  rw [e] at *
  generalize (256 : Nat) ^ 31 = B at *
  cases hf : fodd p.1 with
  | true =>
    rw [hf] at h0
    simp only [if_true] at h0 ⊢
    have h2 : 128 ≤ x := by
      rcases Nat.lt_or_ge x 128 with h | h
      · have : B * x ≤ B * 127 := Nat.mul_le_mul_left _ (by omega)
        omega
      · exact h
    rw [if_neg (by omega)]
    obtain ⟨z, rfl⟩ : ∃ z, x = z + 128 := ⟨x - 128, by omega⟩
    rw [Nat.add_sub_cancel]
    rw [Nat.mul_add] at h0
    omega
  | false =>
    rw [hf] at h0
    simp only [Bool.false_eq_true, if_false] at h0 ⊢
    have h2 : x < 128 := by
      rcases Nat.lt_or_ge x 128 with h | h
      · exact h
      · have : B * 128 ≤ B * x := Nat.mul_le_mul_left _ h
        omega
    rw [if_pos h2, Nat.mul_add]
    omega
theorem flip_neg {p : F × F} (h : p.1 ≠ 0) : flip p = enc (pneg p) := by
  unfold flip enc pneg
  simp only
  rw [fodd_neg h]
  cases fodd p.1 <;> rfl
theorem flip_none {p : F × F} (hp : On p) (h : p.1 = 0) : (dec (flip p)).2 = false := by
  have hno : ∀ q, On q → enc q ≠ flip p := fun q hq he => by
    have h1 := enc_num q
    rw [he, flip_num, h, fodd_zero, if_neg (by decide)] at h1
    have hy := F.lt_TW p.2
    have hz := F.lt_TW q.2
    cases hf : fodd q.1 with
    | true =>
      rw [hf, if_pos rfl] at h1
      have e : q.2 = p.2 := Fin.ext (by omega)
      obtain ⟨x1, y1⟩ := p
      obtain ⟨x2, y2⟩ := q
      simp only at e h hf
      subst e h
      rcases on_two hq hp with e | e
      · rw [e, fodd_zero] at hf; cases hf
      · rw [e, show -(0 : F) = 0 by grind, fodd_zero] at hf; cases hf
    | false =>
      rw [hf, if_neg (by decide)] at h1
      omega
  cases hc : (dec (flip p)).2 with
  | false => rfl
  | true =>
    rcases dec_cases (flip p) with ⟨h1, _, h3⟩ | ⟨h1, _⟩
    · exact absurd h3 (hno _ h1)
    · rw [h1] at hc; cases hc
end Go.Proofs.YtlfkohanfeejfaaDoor

namespace Go.Proofs.YtlfkohanfeejfaaDoor
open Go.RowKit
namespace Byt
theorem eq_bytesx (n : Nat) (a b : List UInt8) (ha : a.length = n) (hb : b.length = n) : (List.range n).all (fun i => (a.map fun x : UInt8 => (x.toNat : Int)).getD i 0 == (b.map fun x : UInt8 => (x.toNat : Int)).getD i 0) = decide (a = b) := by
  rw [Bool.eq_iff_iff, List.all_eq_true, decide_eq_true_eq]
  constructor
  · intro h
    refine List.ext_getElem (by rw [ha, hb]) fun i h1 h2 => ?_
    have := h i (List.mem_range.2 (by omega))
    rw [List.getD_eq_getElem?_getD, List.getD_eq_getElem?_getD, List.getElem?_map, List.getElem?_map, List.getElem?_eq_getElem h1, List.getElem?_eq_getElem h2] at this
    simp only [Option.map_some, Option.getD_some, beq_iff_eq] at this
    exact UInt8.toNat_inj.1 (by omega)
  · rintro rfl i _
    simp
theorem run_equalIn_b (a b : List UInt8) (ha : a.length = 32) (hb : b.length = 32) (w : World) : (Op.equalIn 10000 27 (.agg (a.map bv).toArray) (.agg (b.map bv).toArray)).run Tryd.prog w = .ok (decide (a = b)) w := by
  obtain ⟨i, hi, _⟩ := info_parts Tryd.infoU8
  have em : ∀ l : List UInt8, l.map bv = (l.map fun x : UInt8 => (x.toNat : Int)).map (Value.int .u8) := fun l => by rw [List.map_map]; rfl
  rw [em, em]
  have h := run_equalIn_array (P := Tryd.prog) w 9999 ((a.map fun x : UInt8 => (x.toNat : Int)).map (Value.int .u8)).toArray ((b.map fun x : UInt8 => (x.toNat : Int)).map (Value.int .u8)).toArray Tryd.underlying27 hi
  rw [Tryd.cellsU8, eqItems_ints Tryd.underlying5 Tryd.plainU8 9998 _ _ _ (fun i hi => by simp only [List.length_map, ha, hb]; exact ⟨List.mem_range.1 hi, List.mem_range.1 hi⟩), eq_bytesx 32 a b ha hb] at h
  exact h
theorem run_equal_b (a b : List UInt8) (ha : a.length = 32) (hb : b.length = 32) (w : World) : (Op.equal 27 (.agg (a.map bv).toArray) (.agg (b.map bv).toArray)).run Tryd.prog w = .ok (decide (a = b)) w := by
  obtain ⟨i, hi, _⟩ := info_parts Tryd.infoU8
  have em : ∀ l : List UInt8, l.map bv = (l.map fun x : UInt8 => (x.toNat : Int)).map (Value.int .u8) := fun l => by rw [List.map_map]; rfl
  rw [em, em]
  have h := run_equalIn_array (P := Tryd.prog) w 9999 ((a.map fun x : UInt8 => (x.toNat : Int)).map (Value.int .u8)).toArray ((b.map fun x : UInt8 => (x.toNat : Int)).map (Value.int .u8)).toArray Tryd.underlying27 hi
  rw [Tryd.cellsU8, eqItems_ints Tryd.underlying5 Tryd.plainU8 9998 _ _ _ (fun i hi => by simp only [List.length_map, ha, hb]; exact ⟨List.mem_range.1 hi, List.mem_range.1 hi⟩), eq_bytesx 32 a b ha hb] at h
  generalize ((a.map fun x : UInt8 => (x.toNat : Int)).map (Value.int .u8)).toArray = xs at *
  generalize ((b.map fun x : UInt8 => (x.toNat : Int)).map (Value.int .u8)).toArray = ys at *
  simp [Op.equal, Op.maxDepth, h]
theorem run_neq_b (a b : List UInt8) (ha : a.length = 32) (hb : b.length = 32) (w : World) : (binOp .neq 27 (.agg (a.map bv).toArray) (.agg (b.map bv).toArray)).run Tryd.prog w = .ok (.bool (!decide (a = b))) w := by
  have h := run_equal_b a b ha hb w
  generalize (a.map bv).toArray = xs at *
  generalize (b.map bv).toArray = ys at *
  simp only [binOp]
  simp [h]
theorem run_guardn_b (x y : Operand) (a b : Array Value) (w : World) : (eqGuard .neq 27 x y (.agg a) (.agg b)).run Tryd.prog w = .ok () w := by
  simp [eqGuard]
end Byt
end Go.Proofs.YtlfkohanfeejfaaDoor
