/-
  The program's points in bytes: the point that bytes are.
  The program's points in bytes: which points have a small order; the first point so many times, in bytes.
  What the laws want of the program's points in bytes, and of what is below them.
  What the head of layer 7's statements names: bytes of the first point, bytes that are none. Pure.
-/
import Derived.Test.YtlfkohanfeejfaaDoorMac
import Derived.Test.YtlfkohanfeejfaaDoorMbf
import Derived.Test.YtlfkohanfeejfaaDoorMbg
namespace Go.Proofs.YtlfkohanfeejfaaDoor
open Go.RowKit
namespace Pnt
open Crv

section
attribute [local go_sem ↓] load_pt load_fe Byt.load_by
theorem neg_pt {x y : F} (h : On (x, y)) : nums (pt (x.val, y.val)).opp = ((-x).val, y.val) := by
  have e : pt (x.val, y.val) = ⟨(x, y), h⟩ := Subtype.ext (pOf_of (p := (x, y)) h)
  rw [e]
  rfl
theorem dec_pick {l : List UInt8} (hk : (xr (yof l)).2 = true) (h : enc (pick (decide (TW ≤ leNum l)) (xr (yof l)).1, yof l) = l) : dnum l = ((pick (decide (TW ≤ leNum l)) (xr (yof l)).1).val, (yof l).val) ∧ derr l = 0 := by
  have hd := dec_hit (pick_on (xr_on hk) _) h
  unfold dnum derr
  rw [hd]
  exact ⟨rfl, if_pos rfl⟩
theorem dec_zero {l : List UInt8} (h : dec l = (pzero, false)) : dnum l = (0, 1) ∧ derr l = 70 := by
  unfold dnum derr
  rw [h]
  exact ⟨zero_vals, if_neg (by decide)⟩

set_option maxRecDepth 100000 in
set_option maxHeartbeats 8000000 in
theorem Decode_any (l : List UInt8) (w : World) (hl : l.length = 32) (L0 : Laid w) :
    Calls Tryd.prog 8 #[.agg (l.map bv).toArray] w fun e w' => e = .returned (.tuple #[.agg ((limsL [(dnum l).1, (dnum l).2]).map nv).toArray, .int .i64 (derr l)]) ∧ Below w.heap.size w w' := by
  have LK := L0.hid
  have h31 : 31 < l.length := by omega
  obtain ⟨l7, hl7⟩ : ∃ m, m = l.set 31 (l[31]'h31 &&& 127) := ⟨_, rfl⟩
  have HL7 : Hid (l7.length = 32) := Lib.hid (by rw [hl7, List.length_set, hl])
  obtain ⟨y0, hy0⟩ : ∃ y, y = yof l := ⟨_, rfl⟩
  obtain ⟨r, hr⟩ : ∃ y, y = (xr y0).1 := ⟨_, rfl⟩
  obtain ⟨ok1, hok⟩ : ∃ y, y = (xr y0).2 := ⟨_, rfl⟩
  obtain ⟨hi, hhi⟩ : ∃ b : Bool, b = decide (TW ≤ leNum l) := ⟨_, rfl⟩
  obtain ⟨q, hq⟩ : ∃ x, x = pick hi r := ⟨_, rfl⟩
  have OF : Hid (∀ W, Calls Tryd.prog 24 #[.agg (l7.map bv).toArray] W fun e w' => e = .returned (.agg ((lims y0.val).map nv).toArray) ∧ Below W.heap.size W w') := Lib.hid fun W => by
    have h := Of_any l7 W HL7.out
    rw [hl7, set_and l hl h31, ← hl7, show toF (leNum l % TW) = y0 from hy0.symm] at h
    exact h
  have EV : Hid (∀ W, Below w.heap.size w W → Calls Tryd.prog 23 #[.agg ((lims y0.val).map nv).toArray] W fun e w' => e = .returned (.tuple #[.agg ((limsL [r.val, y0.val]).map nv).toArray, .bool ok1]) ∧ Below W.heap.size W w') := Lib.hid fun W hb => by rw [hr, hok]; exact even_el y0 W (LK.out W hb)
  have ZE : Hid (∀ W, Below w.heap.size w W → Calls Tryd.prog 18 #[] W fun e w' => e = .returned (.agg ((limsL [0, 1]).map nv).toArray) ∧ Below W.heap.size W w') := Lib.hid fun W hb => Zero_any W (LK.out W hb).cv
  have NE : Hid (ok1 = true → hi = true → ∀ W, Below w.heap.size w W → Calls Tryd.prog 19 #[.agg ((limsL [r.val, y0.val]).map nv).toArray] W fun e w' => e = .returned (.agg ((limsL [q.val, y0.val]).map nv).toArray) ∧ Below W.heap.size W w') := Lib.hid fun h h1 W hb => by
    have hon : On (r, y0) := by rw [hr]; exact xr_on (hok.symm.trans h)
    have h2 := Crv.neg_q (r.val, y0.val) W ⟨F.lt_big _, F.lt_big _⟩ (LK.out W hb).cv
    rw [neg_pt hon] at h2
    rw [hq, h1]
    exact h2
  have EN : Hid (ok1 = true → ∀ W, Below w.heap.size w W → Calls Tryd.prog 10 #[.agg ((limsL [q.val, y0.val]).map nv).toArray] W fun e w' => e = .returned (.agg ((enc (q, y0)).map bv).toArray) ∧ Below W.heap.size W w') := Lib.hid fun h W hb => by
    have h2 := Encode_any q.val y0.val W (F.lt_big _) (F.lt_big _) (LK.out W hb)
    rw [enc_num_pt _ _ (by rw [hq, hr]; exact pick_on (xr_on (hok.symm.trans h)) hi)] at h2
    exact h2
  have QF : Hid (hi = false → q = r) := Lib.hid fun h => by rw [hq, h]; rfl
  have HIT : Hid (ok1 = true → enc (q, y0) = l → (dnum l).1 = q.val ∧ (dnum l).2 = y0.val ∧ derr l = 0) := Lib.hid fun h he => by
    have h2 := dec_pick (l := l) (by rw [← hy0, ← hok, h]) (by rw [← hy0, ← hr, ← hhi, ← hq]; exact he)
    rw [← hy0, ← hr, ← hhi, ← hq] at h2
    exact ⟨congrArg Prod.fst h2.1, congrArg Prod.snd h2.1, h2.2⟩
  have MISS : Hid (ok1 = false ∨ enc (q, y0) ≠ l → dnum l = (0, 1) ∧ derr l = 70) := Lib.hid fun h => by
    refine dec_zero ?_
    cases hc : ok1 with
    | false => exact dec_none (by rw [← hy0, ← hok, hc])
    | true =>
      rcases h with h | h
      · rw [hc] at h; cases h
      · exact pick_miss (by rw [← hy0, ← hok, hc]) (by rw [← hy0, ← hr, ← hhi, ← hq]; exact h)
  have NQ : Hid (∀ W, (Op.equalIn 10000 27 (.agg ((enc (q, y0)).map bv).toArray) (.agg (l.map bv).toArray)).run Tryd.prog W = .ok (decide (enc (q, y0) = l)) W) := Lib.hid fun W => Byt.run_equalIn_b _ _ (enc_length _) hl W
  have GU := fun (x y : Operand) (a b : Array Value) (W : World) => Byt.run_guardn_b x y a b W
  have HB : Hid ((bits .and .u8 ((l[31]'h31).toNat : Int) 128 != 0) = hi) := Lib.hid (by rw [hhi]; exact high_bit l hl h31)
  have HL := Lib.hid hl
  clear hy0 hr hok hhi hq L0 LK
  generalize dnum l = rn at *
  generalize derr l = re at *
  have F0 : HoldsB ((w.alloc (.cells (l.map bv).toArray 27)).alloc (.cells #[.int .u64 0, .int .u64 0, .int .u64 0, .int .u64 0, .int .u64 0, .int .u64 0, .int .u64 0, .int .u64 0] 26)) 27 w.heap.size l ∧ HoldsN ((w.alloc (.cells (l.map bv).toArray 27)).alloc (.cells #[.int .u64 0, .int .u64 0, .int .u64 0, .int .u64 0, .int .u64 0, .int .u64 0, .int .u64 0, .int .u64 0] 26)) 26 (w.heap.size + 1) (limsL [0, 0]) ∧ Below w.heap.size w ((w.alloc (.cells (l.map bv).toArray 27)).alloc (.cells #[.int .u64 0, .int .u64 0, .int .u64 0, .int .u64 0, .int .u64 0, .int .u64 0, .int .u64 0, .int .u64 0] 26)) := by
    have e1 : (w.alloc (.cells (l.map bv).toArray 27)).heap.size = w.heap.size + 1 := World.size_alloc ..
    exact ⟨(holdsB_new w _ _ _ _ rfl rfl).alloc _, holdsN_new _ _ _ _ _ e1.symm (by kernel_rfl), ((Below.refl _ w).alloc (Nat.le_refl _) _).alloc (by omega) _⟩
  obtain ⟨hA, hR, hb⟩ := F0
  have hlA := hR.lt
  go_enter Tryd.func8, Tryd.ntmps8
  go_upto_region 1 with (fail)
  generalize (w.alloc (.cells (l.map bv).toArray 27)).alloc (.cells #[.int .u64 0, .int .u64 0, .int .u64 0, .int .u64 0, .int .u64 0, .int .u64 0, .int .u64 0, .int .u64 0] 26) = wv at *
  have z1 : HoldsB (wv.alloc (.cells zb 27)) 27 wv.heap.size (List.replicate 32 0) := holdsB_new wv _ _ _ _ rfl rfl
  have b1a := hb.alloc hb.size (.cells zb 27)
  have hA1a := hA.alloc (.cells zb 27)
  have hR1a := hR.alloc (.cells zb 27)
  go_upto_region 2 with (first
    | (with_reducible refine wpList_load_b rfl 27 (.tmp 1) rfl w.heap.size rfl l hA HL.out Tryd.underlying27 Tryd.infoB32 ?_)
    | (with_reducible refine wpList_store_b rfl 27 (.tmp 4) (.tmp 7) rfl wv.heap.size l rfl rfl HL.out (List.replicate 32 0) (by with_unfolding_all exact z1) Tryd.infoB32 (by simp) w.heap.size w (by with_unfolding_all exact b1a) hb.size ?_
       intro w2 hB2 o2 s2 b2
       have hA2 : HoldsB w2 27 w.heap.size l := (o2 _ (by omega)).trans (by with_unfolding_all exact hA1a)
       have hR2 : HoldsN w2 26 (w.heap.size + 1) (limsL [0, 0]) := (o2 _ (by omega)).trans (by with_unfolding_all exact hR1a)
       clear s2)
    | fail)
  clear hA hR hb z1 b1a hA1a hR1a o2
  generalize hg4' : wv.heap.size = g4 at *
  have c31 := hB2.cell h31
  have f31 := hB2.frozen 31
  have hand := not_high (l[31]'h31)
  have hB3 := hB2.set 31 (l[31]'h31 &&& 127)
  rw [← hl7] at hB3
  have hA3 := hA2.setOther ⟨g4, 31, none⟩ (.int .u8 ((l[31]'h31 &&& 127).toNat : Int)) (by simp; omega)
  have hR3 := hR2.setOther ⟨g4, 31, none⟩ (.int .u8 ((l[31]'h31 &&& 127).toNat : Int)) (by simp; omega)
  have b3 := b2.setCell (p := ⟨g4, 31, none⟩) (by simp; omega) (.int .u8 ((l[31]'h31 &&& 127).toNat : Int))
  clear hl7
  generalize (l[31]'h31 &&& 127).toNat = x127 at *
  clear hB2 hA2 hR2 b2 hg4'
  have hx31 : Hid (∀ W : World, HoldsB W 27 w.heap.size l → W.cell? ⟨w.heap.size, 31, none⟩ = some (.int .u8 ((l[31]'h31).toNat : Int))) := Lib.hid fun W hW => hW.cell h31
  generalize (l[31]'h31).toNat = x31 at *
  clear h31
  go_upto_region 3 with (fail)
  generalize w2.setCell ⟨g4, 31, none⟩ (.int .u8 (x127 : Int)) = w3 at *
  go_upto_region 4 with (first
    | (with_reducible refine wpList_load_b rfl 27 (.tmp 4) rfl g4 rfl l7 hB3 HL7.out Tryd.underlying27 Tryd.infoB32 ?_)
    | (go_at_call 24
       with_reducible refine (OF.out _).mono ?_
       rintro e w4 ⟨rfl, hb4⟩
       have hA4 := hA3.keep hb4 hA3.lt
       have hR4 := hR3.keep hb4 hR3.lt
       have b4 := b3.trans (hb4.mono b3.size))
    | (go_at_call 23
       with_reducible refine (EV.out _ b4).mono ?_
       rintro e w5 ⟨rfl, hb5⟩
       have hA5 := hA4.keep hb5 hA4.lt
       have hR5 := hR4.keep hb5 hR4.lt
       have b5 := b4.trans (hb5.mono b4.size)
       have l5 := hR5.lt
       have z5 : HoldsN (w5.alloc (.cells #[.int .u64 0, .int .u64 0, .int .u64 0, .int .u64 0, .int .u64 0, .int .u64 0, .int .u64 0, .int .u64 0] 26)) 26 w5.heap.size (limsL [0, 0]) := holdsN_new w5 _ _ _ _ rfl (by kernel_rfl)
       have b5a := b5.alloc b5.size (.cells #[.int .u64 0, .int .u64 0, .int .u64 0, .int .u64 0, .int .u64 0, .int .u64 0, .int .u64 0, .int .u64 0] 26)
       have hA5a := hA5.alloc (.cells #[.int .u64 0, .int .u64 0, .int .u64 0, .int .u64 0, .int .u64 0, .int .u64 0, .int .u64 0, .int .u64 0] 26)
       have hR5a := hR5.alloc (.cells #[.int .u64 0, .int .u64 0, .int .u64 0, .int .u64 0, .int .u64 0, .int .u64 0, .int .u64 0, .int .u64 0] 26))
    | (with_reducible refine wpList_store_n rfl 26 (.tmp 5) (.tmp 16) rfl w5.heap.size (limsL [r.val, y0.val]) 8 rfl rfl rfl (limsL [0, 0]) (by with_unfolding_all exact z5) Tryd.infoPt rfl w.heap.size w (by with_unfolding_all exact b5a) b5.size ?_
       intro w6 hP6 o6 s6 b6
       have hA6 : HoldsB w6 27 w.heap.size l := (o6 _ (by omega)).trans (by with_unfolding_all exact hA5a)
       have hR6 : HoldsN w6 26 (w.heap.size + 1) (limsL [0, 0]) := (o6 _ (by omega)).trans (by with_unfolding_all exact hR5a)
       clear s6)
    | fail)
  clear hB3 hA3 hR3 b3 hA4 hR4 b4 z5 b5a hA5a hR5a hb4 hb5 hA5 hR5 b5 o6 OF EV
  have hg5 : w.heap.size + 1 < w5.heap.size := l5
  generalize w5.heap.size = g5 at *
  clear l5
  cases ok1 with
  | false =>
    have hm := MISS.out (Or.inl rfl)
    clear HIT MISS NE EN QF NQ GU HB hP6 hA6
    go_upto_region 6 with (fail)
    go_wp2_with (first
      | (go_at_call 18
         with_reducible refine (ZE.out _ b6).mono ?_
         rintro e w7 ⟨rfl, hb7⟩
         have hR7 := hR6.keep hb7 hR6.lt
         have b7 := b6.trans (hb7.mono b6.size))
      | (with_reducible refine wpList_store_n rfl 26 (.tmp 2) (.tmp 26) rfl (w.heap.size + 1) (limsL [0, 1]) 8 rfl rfl rfl (limsL [0, 0]) hR7 Tryd.infoPt rfl w.heap.size w b7 (by omega) ?_; intro w8 Hg _ _ b8)
      | fail)
    exact bodyPost_ret (results_cell_slot rfl _ _ (w.heap.size + 1) _ _ _ _ rfl Hg Tryd.underlying26 rfl (by rw [Tryd.infoPt]; rfl)) rfl ⟨by rw [hm.1, hm.2]; rfl, b8⟩
  | true =>
    replace EN := Lib.hid (EN.out rfl)
    replace HIT := Lib.hid (HIT.out rfl)
    replace MISS := Lib.hid (fun h => MISS.out (Or.inr h))
    replace NE := Lib.hid (NE.out rfl)
    have c31 := hx31.out _ hA6
    have f31 := hA6.frozen 31
    cases hi with
    | true =>
      replace NE := Lib.hid (NE.out rfl)
      have hb0 := HB.out
      clear HB QF
      go_upto_region 7 with (fail)
      go_upto_region 8 with (first
        | (with_reducible refine wpList_load_pt rfl 26 (.tmp 5) rfl g5 rfl (limsL [r.val, y0.val]) 8 hP6 rfl Tryd.underlying26 Tryd.infoPt ?_)
        | (go_at_call 19
           with_reducible refine (NE.out _ b6).mono ?_
           rintro e w8 ⟨rfl, hb8⟩
           have hA8 := hA6.keep hb8 hA6.lt
           have hR8 := hR6.keep hb8 hR6.lt
           have hP8 := hP6.keep hb8 hP6.lt
           have b8 := b6.trans (hb8.mono b6.size))
        | (with_reducible refine wpList_store_n rfl 26 (.tmp 5) (.tmp 28) rfl g5 (limsL [q.val, y0.val]) 8 rfl rfl rfl (limsL [r.val, y0.val]) hP8 Tryd.infoPt rfl w.heap.size w b8 (by omega) ?_
           intro w9 hP9 o9 s9 b9
           have hA9 := hA8.oth o9 (by omega)
           have hR9 := hR8.oth o9 (by omega)
           clear s9)
        | fail)
      clear hP6 hA6 hR6 b6 hP8 hA8 hR8 b8 hb8 o9 NE c31 f31 hb0
      have F9 : Bs w (g5 + 1) [(g5, 26, ((limsL [q.val, y0.val]).map nv).toArray), (w.heap.size + 1, 26, ((limsL [0, 0]).map nv).toArray), (w.heap.size, 27, (l.map bv).toArray)] w9 := ⟨fun p hp => by
        simp only [List.mem_cons, List.not_mem_nil, or_false] at hp
        rcases hp with rfl | rfl | rfl
        · exact ⟨Nat.lt_succ_self _, hP9⟩
        · exact ⟨by simp only; omega, hR9⟩
        · exact ⟨by simp only; omega, hA9⟩, hP9.lt, by omega, b9⟩
      clear hP9 hR9 hA9 b9
      by_cases he : enc (q, y0) = l
      · have hm := HIT.out he
        rw [decide_eq_true he] at NQ
        clear HIT MISS he
        generalize enc (q, y0) = el at *
        refine wp_region_lex 3 (fun _ => false) (fun _ _ _ => True) (Bs w (g5 + 1) [(g5, 26, ((limsL [q.val, y0.val]).map nv).toArray), (w.heap.size + 1, 26, ((limsL [0, 0]).map nv).toArray), (w.heap.size, 27, (l.map bv).toArray)]) (by kernel_rfl) (by kernel_rfl) F9.drew Bs.stay (fun _ _ _ _ _ _ => trivial) lex_none ?_
        simp only [List.take_succ_cons, List.take_zero, List.drop_succ_cons, List.drop_zero]
        refine lexW_value (v := ?_) (by rfl) (by rfl) (fun W hW => ?_) ?_
        rotate_left
        · have l1 := run_loadPt (hW.getN (g := g5) (l := limsL [q.val, y0.val]) (by repeat (first | exact List.mem_cons_self .. | refine List.mem_cons_of_mem _ ?_))); go_simp <;> with_reducible rfl
        simp only [Act.put, List.setIfInBounds_toArray, List.set_cons_zero, List.set_cons_succ]
        refine' lexW_call (by rfl) (by rfl) (fun W hW => ?_) (fun W hW => ?_) ?_
        rotate_left 3
        · go_simp <;> first | with_reducible rfl | exact ⟨rfl, rfl⟩
        · with_reducible exact EN.out W hW.below
        simp only [Act.put, List.setIfInBounds_toArray, List.set_cons_zero, List.set_cons_succ]
        refine lexW_value (v := ?_) (by rfl) (by rfl) (fun W hW => ?_) ?_
        rotate_left
        · have l1 := Byt.run_loadBy (hW.getB (g := w.heap.size) (l := l) (by repeat (first | exact List.mem_cons_self .. | refine List.mem_cons_of_mem _ ?_))) HL.out; go_simp <;> with_reducible rfl
        simp only [Act.put, List.setIfInBounds_toArray, List.set_cons_zero, List.set_cons_succ]
        refine lexW_nil (fun b8 W8 F8 E8 => ?_)
        obtain rfl := lexEnd_none E8
        have hP8 : HoldsN W8 26 g5 (limsL [q.val, y0.val]) := F8.getN (by repeat (first | exact List.mem_cons_self .. | refine List.mem_cons_of_mem _ ?_))
        have hR8 : HoldsN W8 26 (w.heap.size + 1) (limsL [0, 0]) := F8.getN (by repeat (first | exact List.mem_cons_self .. | refine List.mem_cons_of_mem _ ?_))
        have b8 := F8.below
        have nq8 := NQ.out W8
        go_wp2_with (first
          | (with_reducible refine wpList_load_pt rfl 26 (.tmp 5) rfl g5 rfl (limsL [q.val, y0.val]) 8 hP8 rfl Tryd.underlying26 Tryd.infoPt ?_)
          | (with_reducible refine wpList_store_n rfl 26 (.tmp 2) (.tmp 34) rfl (w.heap.size + 1) (limsL [q.val, y0.val]) 8 rfl rfl rfl (limsL [0, 0]) hR8 Tryd.infoPt rfl w.heap.size w b8 (by omega) ?_; intro w10 Hg _ _ b10)
          | fail)
        exact bodyPost_ret (results_cell_slot rfl _ _ (w.heap.size + 1) _ _ _ _ rfl Hg Tryd.underlying26 rfl (by rw [Tryd.infoPt]; rfl)) rfl ⟨by rw [hm.1, hm.2.1, hm.2.2]; rfl, b10⟩
      · have hm := MISS.out he
        rw [decide_eq_false he] at NQ
        clear HIT MISS he
        generalize enc (q, y0) = el at *
        refine wp_region_lex 3 (fun _ => false) (fun _ _ _ => True) (Bs w (g5 + 1) [(g5, 26, ((limsL [q.val, y0.val]).map nv).toArray), (w.heap.size + 1, 26, ((limsL [0, 0]).map nv).toArray), (w.heap.size, 27, (l.map bv).toArray)]) (by kernel_rfl) (by kernel_rfl) F9.drew Bs.stay (fun _ _ _ _ _ _ => trivial) lex_none ?_
        simp only [List.take_succ_cons, List.take_zero, List.drop_succ_cons, List.drop_zero]
        refine lexW_value (v := ?_) (by rfl) (by rfl) (fun W hW => ?_) ?_
        rotate_left
        · have l1 := run_loadPt (hW.getN (g := g5) (l := limsL [q.val, y0.val]) (by repeat (first | exact List.mem_cons_self .. | refine List.mem_cons_of_mem _ ?_))); go_simp <;> with_reducible rfl
        simp only [Act.put, List.setIfInBounds_toArray, List.set_cons_zero, List.set_cons_succ]
        refine' lexW_call (by rfl) (by rfl) (fun W hW => ?_) (fun W hW => ?_) ?_
        rotate_left 3
        · go_simp <;> first | with_reducible rfl | exact ⟨rfl, rfl⟩
        · with_reducible exact EN.out W hW.below
        simp only [Act.put, List.setIfInBounds_toArray, List.set_cons_zero, List.set_cons_succ]
        refine lexW_value (v := ?_) (by rfl) (by rfl) (fun W hW => ?_) ?_
        rotate_left
        · have l1 := Byt.run_loadBy (hW.getB (g := w.heap.size) (l := l) (by repeat (first | exact List.mem_cons_self .. | refine List.mem_cons_of_mem _ ?_))) HL.out; go_simp <;> with_reducible rfl
        simp only [Act.put, List.setIfInBounds_toArray, List.set_cons_zero, List.set_cons_succ]
        refine lexW_nil (fun b8 W8 F8 E8 => ?_)
        obtain rfl := lexEnd_none E8
        have hR8 : HoldsN W8 26 (w.heap.size + 1) (limsL [0, 0]) := F8.getN (by repeat (first | exact List.mem_cons_self .. | refine List.mem_cons_of_mem _ ?_))
        have b8 := F8.below
        have nq8 := NQ.out W8
        go_wp2_with (first
          | (go_at_call 18
             with_reducible refine (ZE.out _ b8).mono ?_
             rintro e w10 ⟨rfl, hb10⟩
             have hR10 := hR8.keep hb10 hR8.lt
             have b10 := b8.trans (hb10.mono b8.size))
          | (with_reducible refine wpList_store_n rfl 26 (.tmp 2) (.tmp 33) rfl (w.heap.size + 1) (limsL [0, 1]) 8 rfl rfl rfl (limsL [0, 0]) hR10 Tryd.infoPt rfl w.heap.size w b10 (by omega) ?_; intro w11 Hg _ _ b11)
          | fail)
        exact bodyPost_ret (results_cell_slot rfl _ _ (w.heap.size + 1) _ _ _ _ rfl Hg Tryd.underlying26 rfl (by rw [Tryd.infoPt]; rfl)) rfl ⟨by rw [hm.1, hm.2]; rfl, b11⟩
    | false =>
      have hb0 := HB.out
      obtain rfl := QF.out rfl
      clear HB QF NE
      go_upto_region 8 with (fail)
      generalize w6 = w9 at *
      have hP9 := hP6
      have hA9 := hA6
      have hR9 := hR6
      have b9 := b6
      clear hP6 hA6 hR6 b6
      clear c31 f31 hb0
      have F9 : Bs w (g5 + 1) [(g5, 26, ((limsL [q.val, y0.val]).map nv).toArray), (w.heap.size + 1, 26, ((limsL [0, 0]).map nv).toArray), (w.heap.size, 27, (l.map bv).toArray)] w9 := ⟨fun p hp => by
        simp only [List.mem_cons, List.not_mem_nil, or_false] at hp
        rcases hp with rfl | rfl | rfl
        · exact ⟨Nat.lt_succ_self _, hP9⟩
        · exact ⟨by simp only; omega, hR9⟩
        · exact ⟨by simp only; omega, hA9⟩, hP9.lt, by omega, b9⟩
      clear hP9 hR9 hA9 b9
      by_cases he : enc (q, y0) = l
      · have hm := HIT.out he
        rw [decide_eq_true he] at NQ
        clear HIT MISS he
        generalize enc (q, y0) = el at *
        refine wp_region_lex 3 (fun _ => false) (fun _ _ _ => True) (Bs w (g5 + 1) [(g5, 26, ((limsL [q.val, y0.val]).map nv).toArray), (w.heap.size + 1, 26, ((limsL [0, 0]).map nv).toArray), (w.heap.size, 27, (l.map bv).toArray)]) (by kernel_rfl) (by kernel_rfl) F9.drew Bs.stay (fun _ _ _ _ _ _ => trivial) lex_none ?_
        simp only [List.take_succ_cons, List.take_zero, List.drop_succ_cons, List.drop_zero]
        refine lexW_value (v := ?_) (by rfl) (by rfl) (fun W hW => ?_) ?_
        rotate_left
        · have l1 := run_loadPt (hW.getN (g := g5) (l := limsL [q.val, y0.val]) (by repeat (first | exact List.mem_cons_self .. | refine List.mem_cons_of_mem _ ?_))); go_simp <;> with_reducible rfl
        simp only [Act.put, List.setIfInBounds_toArray, List.set_cons_zero, List.set_cons_succ]
        refine' lexW_call (by rfl) (by rfl) (fun W hW => ?_) (fun W hW => ?_) ?_
        rotate_left 3
        · go_simp <;> first | with_reducible rfl | exact ⟨rfl, rfl⟩
        · with_reducible exact EN.out W hW.below
        simp only [Act.put, List.setIfInBounds_toArray, List.set_cons_zero, List.set_cons_succ]
        refine lexW_value (v := ?_) (by rfl) (by rfl) (fun W hW => ?_) ?_
        rotate_left
        · have l1 := Byt.run_loadBy (hW.getB (g := w.heap.size) (l := l) (by repeat (first | exact List.mem_cons_self .. | refine List.mem_cons_of_mem _ ?_))) HL.out; go_simp <;> with_reducible rfl
        simp only [Act.put, List.setIfInBounds_toArray, List.set_cons_zero, List.set_cons_succ]
        refine lexW_nil (fun b8 W8 F8 E8 => ?_)
        obtain rfl := lexEnd_none E8
        have hP8 : HoldsN W8 26 g5 (limsL [q.val, y0.val]) := F8.getN (by repeat (first | exact List.mem_cons_self .. | refine List.mem_cons_of_mem _ ?_))
        have hR8 : HoldsN W8 26 (w.heap.size + 1) (limsL [0, 0]) := F8.getN (by repeat (first | exact List.mem_cons_self .. | refine List.mem_cons_of_mem _ ?_))
        have b8 := F8.below
        have nq8 := NQ.out W8
        go_wp2_with (first
          | (with_reducible refine wpList_load_pt rfl 26 (.tmp 5) rfl g5 rfl (limsL [q.val, y0.val]) 8 hP8 rfl Tryd.underlying26 Tryd.infoPt ?_)
          | (with_reducible refine wpList_store_n rfl 26 (.tmp 2) (.tmp 34) rfl (w.heap.size + 1) (limsL [q.val, y0.val]) 8 rfl rfl rfl (limsL [0, 0]) hR8 Tryd.infoPt rfl w.heap.size w b8 (by omega) ?_; intro w10 Hg _ _ b10)
          | fail)
        exact bodyPost_ret (results_cell_slot rfl _ _ (w.heap.size + 1) _ _ _ _ rfl Hg Tryd.underlying26 rfl (by rw [Tryd.infoPt]; rfl)) rfl ⟨by rw [hm.1, hm.2.1, hm.2.2]; rfl, b10⟩
      · have hm := MISS.out he
        rw [decide_eq_false he] at NQ
        clear HIT MISS he
        generalize enc (q, y0) = el at *
        refine wp_region_lex 3 (fun _ => false) (fun _ _ _ => True) (Bs w (g5 + 1) [(g5, 26, ((limsL [q.val, y0.val]).map nv).toArray), (w.heap.size + 1, 26, ((limsL [0, 0]).map nv).toArray), (w.heap.size, 27, (l.map bv).toArray)]) (by kernel_rfl) (by kernel_rfl) F9.drew Bs.stay (fun _ _ _ _ _ _ => trivial) lex_none ?_
        simp only [List.take_succ_cons, List.take_zero, List.drop_succ_cons, List.drop_zero]
        refine lexW_value (v := ?_) (by rfl) (by rfl) (fun W hW => ?_) ?_
        rotate_left
        · have l1 := run_loadPt (hW.getN (g := g5) (l := limsL [q.val, y0.val]) (by repeat (first | exact List.mem_cons_self .. | refine List.mem_cons_of_mem _ ?_))); go_simp <;> with_reducible rfl
        simp only [Act.put, List.setIfInBounds_toArray, List.set_cons_zero, List.set_cons_succ]
        refine' lexW_call (by rfl) (by rfl) (fun W hW => ?_) (fun W hW => ?_) ?_
        rotate_left 3
        · go_simp <;> first | with_reducible rfl | exact ⟨rfl, rfl⟩
        · with_reducible exact EN.out W hW.below
        simp only [Act.put, List.setIfInBounds_toArray, List.set_cons_zero, List.set_cons_succ]
        refine lexW_value (v := ?_) (by rfl) (by rfl) (fun W hW => ?_) ?_
        rotate_left
        · have l1 := Byt.run_loadBy (hW.getB (g := w.heap.size) (l := l) (by repeat (first | exact List.mem_cons_self .. | refine List.mem_cons_of_mem _ ?_))) HL.out; go_simp <;> with_reducible rfl
        simp only [Act.put, List.setIfInBounds_toArray, List.set_cons_zero, List.set_cons_succ]
        refine lexW_nil (fun b8 W8 F8 E8 => ?_)
        obtain rfl := lexEnd_none E8
        have hR8 : HoldsN W8 26 (w.heap.size + 1) (limsL [0, 0]) := F8.getN (by repeat (first | exact List.mem_cons_self .. | refine List.mem_cons_of_mem _ ?_))
        have b8 := F8.below
        have nq8 := NQ.out W8
        go_wp2_with (first
          | (go_at_call 18
             with_reducible refine (ZE.out _ b8).mono ?_
             rintro e w10 ⟨rfl, hb10⟩
             have hR10 := hR8.keep hb10 hR8.lt
             have b10 := b8.trans (hb10.mono b8.size))
          | (with_reducible refine wpList_store_n rfl 26 (.tmp 2) (.tmp 33) rfl (w.heap.size + 1) (limsL [0, 1]) 8 rfl rfl rfl (limsL [0, 0]) hR10 Tryd.infoPt rfl w.heap.size w b10 (by omega) ?_; intro w11 Hg _ _ b11)
          | fail)
        exact bodyPost_ret (results_cell_slot rfl _ _ (w.heap.size + 1) _ _ _ _ rfl Hg Tryd.underlying26 rfl (by rw [Tryd.infoPt]; rfl)) rfl ⟨by rw [hm.1, hm.2]; rfl, b11⟩
end
end Pnt
end Go.Proofs.YtlfkohanfeejfaaDoor

namespace Go.Proofs.YtlfkohanfeejfaaDoor
open Go.RowKit
namespace Pnt
open Crv

set_option maxRecDepth 100000 in
set_option maxHeartbeats 4000000 in
theorem small_q (s : Nat × Nat) (w : World) (hs : ok s) (L0 : Laid w) :
    Calls Tryd.prog 12 #[.agg ((limsL [s.1, s.2]).map nv).toArray] w fun e w' => e = .returned (.bool (decide (Pt.times 8 (pt s) = Pt.none))) ∧ Below w.heap.size w w' := by
  have LK := L0.hid
  obtain ⟨q, hq⟩ : ∃ q, q = nums (Pt.times 8 (pt s)) := ⟨_, rfl⟩
  obtain ⟨z, hz⟩ : ∃ z, z = nums Pt.none := ⟨_, rfl⟩
  have CL : Hid (∀ W, Below w.heap.size w W → Calls Tryd.prog 38 #[.agg ((limsL [s.1, s.2]).map nv).toArray] W fun e w' => e = .returned (.agg ((limsL [q.1, q.2]).map nv).toArray) ∧ Below W.heap.size W w') := Lib.hid fun W hb => by rw [hq]; exact clear_q s W hs (LK.out W hb).cv
  have ZE : Hid (∀ W, Below w.heap.size w W → Calls Tryd.prog 18 #[] W fun e w' => e = .returned (.agg ((limsL [z.1, z.2]).map nv).toArray) ∧ Below W.heap.size W w') := Lib.hid fun W hb => by rw [hz]; exact Crv.zero_q W (LK.out W hb).cv
  have SA : Hid (∀ W, Below w.heap.size w W → Calls Tryd.prog 17 #[.agg ((limsL [q.1, q.2]).map nv).toArray, .agg ((limsL [z.1, z.2]).map nv).toArray] W fun e w' => e = .returned (.bool (decide (Pt.times 8 (pt s) = Pt.none))) ∧ Below W.heap.size W w') := Lib.hid fun W hb => by
    have h := Crv.same_q q z W (by rw [hq]; exact nums_ok _) (by rw [hz]; exact nums_ok _) (LK.out W hb).cv
    rw [hq, hz, pt_nums, pt_nums, ← hq, ← hz] at h
    exact h
  have F0 : Bs w (w.heap.size + 1) [(w.heap.size, 26, ((limsL [s.1, s.2]).map nv).toArray)] (w.alloc (.cells ((limsL [s.1, s.2]).map nv).toArray 26)) := Bs.nil.alloc rfl
  clear hq hz hs L0 LK
  generalize decide (Pt.times 8 (pt s) = Pt.none) = bl at *
  go_enter Tryd.func12, Tryd.ntmps12
  go_upto_region 1 with (fail)
  generalize w.alloc (.cells ((limsL [s.1, s.2]).map nv).toArray 26) = wv at *
  have hA : HoldsN wv 26 w.heap.size (limsL [s.1, s.2]) := F0.getN (by simp)
  have hb := F0.below
  go_wp2_with (first
    | (with_reducible refine wpList_load_pt rfl 26 (.tmp 1) rfl w.heap.size rfl (limsL [s.1, s.2]) 8 hA rfl Tryd.underlying26 Tryd.infoPt ?_)
    | (go_at_call 38
       with_reducible refine (CL.out _ hb).mono ?_
       rintro e w2 ⟨rfl, hb2⟩
       have b2 := hb.trans (hb2.mono hb.size))
    | (go_at_call 18
       with_reducible refine (ZE.out _ b2).mono ?_
       rintro e w3 ⟨rfl, hb3⟩
       have b3 := b2.trans (hb3.mono b2.size))
    | (go_at_call 17
       with_reducible refine (SA.out _ b3).mono ?_
       rintro e w4 ⟨rfl, hb4⟩
       have b4 := b3.trans (hb4.mono b3.size))
    | fail)
  go_ret
  exact ⟨rfl, b4⟩

section
attribute [local go_sem ↓] load_s6
set_option maxRecDepth 100000 in
set_option maxHeartbeats 4000000 in
theorem times_q (k : Nat) (w : World) (hk : k < big) (L0 : Laid w) :
    Calls Tryd.prog 14 #[.agg ((lims k).map nv).toArray] w (GaveL w (enc (Pt.times (toS k).val pbase).1)) := by
  have LK := L0.hid
  obtain ⟨b, hbb⟩ : ∃ b, b = nums pbase := ⟨_, rfl⟩
  obtain ⟨p, hp⟩ : ∃ p, p = nums (Pt.times (toS k).val pbase) := ⟨_, rfl⟩
  have BA : Hid (∀ W, Below w.heap.size w W → Calls Tryd.prog 22 #[] W fun e w' => e = .returned (.agg ((limsL [b.1, b.2]).map nv).toArray) ∧ Below W.heap.size W w') := Lib.hid fun W hb => by rw [hbb]; exact Crv.base_q W (LK.out W hb).cv
  have MU : Hid (∀ W, Below w.heap.size w W → Calls Tryd.prog 40 #[.agg ((lims k).map nv).toArray, .agg ((limsL [b.1, b.2]).map nv).toArray] W fun e w' => e = .returned (.agg ((limsL [p.1, p.2]).map nv).toArray) ∧ Below W.heap.size W w') := Lib.hid fun W hb => by
    have h := mul_q k b W hk (by rw [hbb]; exact nums_ok _) (LK.out W hb).cv
    rw [hbb, pt_nums, ← hp, ← hbb] at h
    exact h
  have EN : Hid (∀ W, Below w.heap.size w W → Calls Tryd.prog 10 #[.agg ((limsL [p.1, p.2]).map nv).toArray] W fun e w' => e = .returned (.agg ((enc (Pt.times (toS k).val pbase).1).map bv).toArray) ∧ Below W.heap.size W w') := Lib.hid fun W hb => by
    have h := Encode_any p.1 p.2 W (by rw [hp]; exact (nums_ok _).1) (by rw [hp]; exact (nums_ok _).2) (LK.out W hb)
    rw [show pOf p.1 p.2 = (Pt.times (toS k).val pbase).1 by rw [hp]; exact congrArg Subtype.val (pt_nums _)] at h
    exact h
  have HN := Lib.hid (enc_length (Pt.times (toS k).val pbase).1)
  unfold GaveL
  clear hbb hp hk L0 LK
  generalize enc (Pt.times (toS k).val pbase).1 = res at *
  have F0 : Bs w (w.heap.size + 1 + 1) [(w.heap.size + 1, 27, ((List.replicate 32 (0 : UInt8)).map bv).toArray), (w.heap.size, 28, ((lims k).map nv).toArray)] ((w.alloc (.cells ((lims k).map nv).toArray 28)).alloc (.cells ((List.replicate 32 (0 : UInt8)).map bv).toArray 27)) := (Bs.nil.alloc rfl).alloc (World.size_alloc ..).symm
  go_enter Tryd.func14, Tryd.ntmps14
  go_upto_region 1 with (fail)
  refine wp_region_lex 4 (fun _ => false) (fun _ _ _ => True) (Bs w (w.heap.size + 1 + 1) [(w.heap.size + 1, 27, ((List.replicate 32 (0 : UInt8)).map bv).toArray), (w.heap.size, 28, ((lims k).map nv).toArray)]) (by kernel_rfl) (by kernel_rfl) (by with_unfolding_all exact F0.drew) Bs.stay (fun _ _ _ _ _ _ => trivial) lex_none ?_
  simp only [List.take_succ_cons, List.take_zero, List.drop_succ_cons, List.drop_zero]
  refine lexW_value (v := ?_) (by rfl) (by rfl) (fun W hW => ?_) ?_
  rotate_left
  · have l1 := run_ldS (hW.getN (g := w.heap.size) (l := lims k) (by repeat (first | exact List.mem_cons_self .. | refine List.mem_cons_of_mem _ ?_))); go_simp <;> with_reducible rfl
  simp only [Act.put, List.setIfInBounds_toArray, List.set_cons_zero, List.set_cons_succ]
  refine' lexW_call (by rfl) (by rfl) (fun W hW => ?_) (fun W hW => ?_) ?_
  rotate_left 3
  · go_simp <;> first | with_reducible rfl | exact ⟨rfl, rfl⟩
  · with_reducible exact BA.out W hW.below
  simp only [Act.put, List.setIfInBounds_toArray, List.set_cons_zero, List.set_cons_succ]
  refine' lexW_call (by rfl) (by rfl) (fun W hW => ?_) (fun W hW => ?_) ?_
  rotate_left 3
  · go_simp <;> first | with_reducible rfl | exact ⟨rfl, rfl⟩
  · with_reducible exact MU.out W hW.below
  simp only [Act.put, List.setIfInBounds_toArray, List.set_cons_zero, List.set_cons_succ]
  refine' lexW_call (by rfl) (by rfl) (fun W hW => ?_) (fun W hW => ?_) ?_
  rotate_left 3
  · go_simp <;> first | with_reducible rfl | exact ⟨rfl, rfl⟩
  · with_reducible exact EN.out W hW.below
  simp only [Act.put, List.setIfInBounds_toArray, List.set_cons_zero, List.set_cons_succ]
  refine lexW_nil (fun b8 W8 F8 E8 => ?_)
  obtain rfl := lexEnd_none E8
  have hR := F8.getB (g := w.heap.size + 1) (l := List.replicate 32 0) (List.mem_cons_self ..)
  go_wp2_with (with_reducible refine wpList_store_b rfl 27 (.tmp 2) (.tmp 6) rfl (w.heap.size + 1) res rfl rfl HN.out (List.replicate 32 0) hR Tryd.infoB32 (by simp) w.heap.size w F8.below (by omega) ?_; intro w9 Hg _ _ b9)
  exact bodyPost_ret (results_cell_row rfl _ _ (w.heap.size + 1) _ _ _ _ rfl Hg Tryd.underlying27 rfl (by rw [Tryd.infoB32]; simp [HN.out])) rfl ⟨rfl, b9⟩
end
end Pnt
end Go.Proofs.YtlfkohanfeejfaaDoor

namespace Go.Proofs.YtlfkohanfeejfaaDoor
open Go.RowKit
namespace Pnt
open Crv

theorem base_q (w : World) (L : Laid w) : Calls Tryd.prog 22 #[] w (Gave w (nums pbase)) := Crv.base_q w L.cv
theorem zero_q (w : World) (L : Laid w) : Calls Tryd.prog 18 #[] w (Gave w (nums Pt.none)) := Crv.zero_q w L.cv
theorem check_q (s : Nat × Nat) (w : World) (hs : ok s) (L : Laid w) : Calls Tryd.prog 16 #[.agg ((limsL [s.1, s.2]).map nv).toArray] w fun e w' => e = .returned (.bool (decide (On (toF s.1, toF s.2)))) ∧ Below w.heap.size w w' := Crv.check_q s w hs L.cv
theorem same_q (s t : Nat × Nat) (w : World) (hs : ok s) (ht : ok t) (L : Laid w) : Calls Tryd.prog 17 #[.agg ((limsL [s.1, s.2]).map nv).toArray, .agg ((limsL [t.1, t.2]).map nv).toArray] w fun e w' => e = .returned (.bool (decide (pt s = pt t))) ∧ Below w.heap.size w w' := Crv.same_q s t w hs ht L.cv
theorem neg_q (s : Nat × Nat) (w : World) (hs : ok s) (L : Laid w) : Calls Tryd.prog 19 #[.agg ((limsL [s.1, s.2]).map nv).toArray] w (Gave w (nums (pt s).opp)) := Crv.neg_q s w hs L.cv
theorem encode_q (s : Nat × Nat) (w : World) (hs : ok s) (L : Laid w) : Calls Tryd.prog 10 #[.agg ((limsL [s.1, s.2]).map nv).toArray] w (GaveL w (enc (pt s).1)) := Encode_any s.1 s.2 w hs.1 hs.2 L
theorem decode_q (l : List UInt8) (w : World) (hl : l.length = 32) (L : Laid w) : Calls Tryd.prog 8 #[.agg (l.map bv).toArray] w fun e w' => e = .returned (.tuple #[.agg ((limsL [(dnum l).1, (dnum l).2]).map nv).toArray, .int .i64 (derr l)]) ∧ Below w.heap.size w w' := Decode_any l w hl L
theorem add_q (s t : Nat × Nat) (w : World) (hs : ok s) (ht : ok t) (L : Laid w) : Calls Tryd.prog 21 #[.agg ((limsL [s.1, s.2]).map nv).toArray, .agg ((limsL [t.1, t.2]).map nv).toArray] w (Gave w (nums ((pt s).plus (pt t)))) := Crv.add_q s t w hs ht L.cv
theorem sadd_q (a b : Nat) (w : World) (ha : a < big) (hb : b < big) (L : Laid w) : Calls Tryd.prog 20 #[.agg ((lims a).map nv).toArray, .agg ((lims b).map nv).toArray] w fun e w' => e = .returned (.agg ((lims (toS a + toS b).val).map nv).toArray) ∧ Below w.heap.size w w' := Crv.sadd_q a b w ha hb L.cv
end Pnt
end Go.Proofs.YtlfkohanfeejfaaDoor

namespace Go.Proofs.YtlfkohanfeejfaaDoor
open Go.RowKit

theorem none_B3 : (dec [1, 0, 0, 0, 0, 0, 0, 0, 0, 0, 0, 0, 0, 0, 0, 0, 0, 0, 0, 0, 0, 0, 0, 0, 0, 0, 0, 0, 0, 0, 0, 128]).2 = false := by
  have e : flip pzero = [1, 0, 0, 0, 0, 0, 0, 0, 0, 0, 0, 0, 0, 0, 0, 0, 0, 0, 0, 0, 0, 0, 0, 0, 0, 0, 0, 0, 0, 0, 0, 128] := by decide +kernel
  rw [← e]
  exact flip_none on_zero rfl
theorem chi_two : chi (3 * (4 * dd + 1)) = -1 := by
  unfold chi
  have h := powMod_eq PP 256 ((3 * (4 * DEE + 1)) % PP) ((PP - 1) / 2) 1 (by decide)
  have h3 : powMod PP 256 ((3 * (4 * DEE + 1)) % PP) ((PP - 1) / 2) 1 = PP - 1 := by decide +kernel
  rw [Nat.one_mul, h3] at h
  refine Fin.ext ?_
  have hv : (3 * (4 * dd + 1) : F).val = (3 * (4 * DEE + 1)) % PP := by decide +kernel
  rw [fpow_val, hv, ← h]
  rfl
theorem none_two (x : F) : ¬ On (x, 2) := fun h => by
  have h2 : (x * (4 * dd + 1)) * (x * (4 * dd + 1)) = 3 * (4 * dd + 1) := by
    unfold On at h
    grind
  rcases (sq_iff (3 * (4 * dd + 1))).1 ⟨_, h2⟩ with e | e
  · have := chi_two
    rw [e, chi_zero] at this
    exact absurd this (by decide +kernel)
  · exact one_ne_neg (e.symm.trans chi_two)
theorem none_B2 : (dec [2, 0, 0, 0, 0, 0, 0, 0, 0, 0, 0, 0, 0, 0, 0, 0, 0, 0, 0, 0, 0, 0, 0, 0, 0, 0, 0, 0, 0, 0, 0, 0]).2 = false := by
  generalize hl : [2, 0, 0, 0, 0, 0, 0, 0, 0, 0, 0, 0, 0, 0, 0, 0, 0, 0, 0, 0, 0, 0, 0, 0, 0, 0, 0, 0, 0, 0, 0, (0 : UInt8)] = l
  have hy : yof l = 2 := by rw [← hl]; decide +kernel
  cases hc : (dec l).2 with
  | false => rfl
  | true =>
    rcases dec_cases l with ⟨h1, _, h3⟩ | ⟨h1, _⟩
    · rw [← h3, yof_enc] at hy
      generalize (dec l).1 = q at *
      obtain ⟨x, y⟩ := q
      simp only at hy
      subst hy
      exact absurd h1 (none_two x)
    · rw [h1] at hc; cases hc
theorem base_B0 : ((enc pbase.1).getD 0 0).toNat = 88 := by decide +kernel
theorem base_B31 : ((enc pbase.1).getD 31 0).toNat = 102 := by decide +kernel
theorem none_enc : enc Pt.none.1 = [1, 0, 0, 0, 0, 0, 0, 0, 0, 0, 0, 0, 0, 0, 0, 0, 0, 0, 0, 0, 0, 0, 0, 0, 0, 0, 0, 0, 0, 0, 0, 0] := by decide +kernel
theorem base_small : Pt.times 8 pbase ≠ Pt.none := fun h => absurd ((times_none_iff 8 8 BX BY pbase rfl (by decide)).1 h) (by decide +kernel)
end Go.Proofs.YtlfkohanfeejfaaDoor
