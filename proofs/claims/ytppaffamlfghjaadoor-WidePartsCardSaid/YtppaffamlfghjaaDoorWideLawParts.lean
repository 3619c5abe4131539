/-
  WideParts: it does not matter in which parts a text comes, and what is handed in stays. For every input.
-/
import Derived.Test.YtppaffamlfghjaaDoorWideLawTells
import Derived.Test.YtppaffamlfghjaaDoorWideText
import Derived.Deep.DeepCutAuto
import Derived.Deep.CutBlock
import Derived.StillTailTactics
import Derived.IntWalk
namespace Go.Proofs.YtppaffamlfghjaaDoor
open Go.RowKit

attribute [local go_sem ↓] load_veil load_veilH

set_option maxRecDepth 100000 in
set_option maxHeartbeats 1000000 in
theorem WideParts_big (A A2 : Option Addr) (n c n2 c2 : Nat) (w : World) (hb : 500 < n) (L : Laid w) :
    Calls Tryd.prog 8 #[.slice A n c, .slice A2 n2 c2] w (Yes w) := by
  have B0 := Below.refl w.heap.size w
  have AW : Hid (∀ W, Below w.heap.size w W → Calls Tryd.prog 21 #[] W (Yes W)) := Lib.hid fun W hW => awake_any W (L.keep hW L.size)
  have h1' : (500 : Int) < n := by omega
  go_enter Tryd.func8, Tryd.ntmps8
  go_wp2_with (go_at_call 21
               refine (AW.out _ B0).mono ?_
               rintro e w1 ⟨rfl, hb1⟩)
  go_ret
  exact ⟨rfl, hb1⟩

theorem take_part (b : List UInt8) {k t : Nat} (h : k ≤ t) : b.take k ++ (b.drop k).take (t - k) = b.take t := by
  rw [← List.take_append_drop k (b.take t), List.take_take, Nat.min_eq_left h, List.drop_take]

/-- What the state is between two parts. -/
def Held (w wx : World) (b : List UInt8) (g k : Nat) : Prop := ∃ (N : Nat) (A3 : Option Addr) (c3 : Nat), (left (b.take k)).length = N ∧ HoldsH wx g (absorb st0 (b.take k)) A3 N c3 k ∧ SeesIn wx A3 N c3 ((left (b.take k)).map bv) (fun x => x ≠ g) ∧ Below w.heap.size w wx

/-- What a part more leaves: the new state in a block of its own, and the one that was. -/
def Parted (w wx : World) (b : List UInt8) (g k t : Nat) (va : Value) : Prop := ∃ (g' N5 : Nat) (A5 : Option Addr) (c5 : Nat) (A3 : Option Addr) (N c3 : Nat), va = .pointer (some ⟨g', 0, none⟩) ∧ (left (b.take t)).length = N5 ∧ HoldsH wx g' (absorb st0 (b.take t)) A5 N5 c5 t ∧
  SeesIn wx A5 N5 c5 ((left (b.take t)).map bv) (fun x => x ≠ g) ∧ HoldsH wx g (absorb st0 (b.take k)) A3 N c3 k ∧ g' ≠ g ∧ w.heap.size ≤ g' ∧ Below w.heap.size w wx

/-- The whole text, in a block of its own. -/
def Summed (w wx : World) (b : List UInt8) (n : Nat) (va : Value) : Prop := ∃ (g N5 : Nat) (A5 : Option Addr) (c5 : Nat), va = .pointer (some ⟨g, 0, none⟩) ∧ (left b).length = N5 ∧ HoldsH wx g (absorb st0 b) A5 N5 c5 n ∧ Sees wx wx.heap.size A5 N5 c5 ((left b).map bv) ∧ w.heap.size ≤ g ∧ Below w.heap.size w wx

set_option maxRecDepth 100000 in
set_option maxHeartbeats 2000000 in
theorem WideParts_small (A A2 : Option Addr) (n c m c2 B : Nat) (b : List UInt8) (zs : List Int) (w : World) (h : Sees w B A n c (b.map bv)) (h2 : Sees w B A2 m c2 (zs.map (Value.int .u16))) (hz : ∀ z ∈ zs, 0 ≤ z ∧ z < 65536) (hB : B ≤ w.heap.size) (hn : n ≤ 500) (L : Laid w) :
    Calls Tryd.prog 8 #[.slice A n c, .slice A2 m c2] w (Yes w) := by
  have hla : b.length = n := by have := h.len; simpa using this
  have hlz : zs.length = m := by have := h2.len; simpa using this
  have HLA := Lib.hid hla
  have HLZ := Lib.hid hlz
  have hmm := Nat.le_trans h2.le h2.max
  unfold maxLen at hmm
  have AW : Hid (∀ W, Below w.heap.size w W → Calls Tryd.prog 21 #[] W (Yes W)) := Lib.hid fun W hW => awake_any W (L.keep hW L.size)
  have G1 : Hid (∀ W, Below w.heap.size w W → Calls Tryd.prog 27 #[] W fun e w' => e = .returned (hv st0 none 0 0 0) ∧ Below W.heap.size W w') := Lib.hid fun W hW => Begin_any W (L.keep hW L.size)
  have h1' : ¬ (500 : Int) < n := by omega
  have B0 := Below.refl w.heap.size w
  clear hla hlz
  go_enter Tryd.func8, Tryd.ntmps8
  go_upto_block 0 with (first
    | (go_at_call 21
       refine (AW.out _ B0).mono ?_
       rintro e w1 ⟨rfl, hb1⟩
       have B1 := B0.trans (hb1.mono B0.size)
       have kc : (convert 24 9 (.slice A n c)).run Tryd.prog w1 = .ok (.string (strOf b)) w1 := run_convert_sees (P := Tryd.prog) 24 9 5 Tryd.underlying24 Tryd.underlying5 Tryd.underlying9 (h.upTo B1 hB)
       clear hb1)
    | (go_at_call 27
       refine (G1.out w1 B1).mono ?_
       rintro e w2 ⟨rfl, hb2⟩
       have B2 := B1.trans (hb2.mono B1.size)
       have z2 := hx_start w2
       have B2a := B2.alloc B2.size (.cells #[.int .u64 0, .int .u64 0, .int .u64 0, .int .u64 0, .int .u64 0, .int .u64 0, .int .u64 0, .int .u64 0, .slice none 0 0, .int .u64 0] 45)
       clear hb2)
    | (with_reducible refine wpList_store_h rfl (.tmp 7) (.tmp 26) rfl w2.heap.size st0 none 0 0 0 rfl rfl sz none 0 0 0 (by with_unfolding_all exact z2) Tryd.infoH w.heap.size w (by with_unfolding_all exact B2a) B2.size ?_
       intro w3 X3 o3 s3 B3
       have lX3 := X3.lt
       clear z2 B2a s3 o3)
    | fail)
  have HE0 : Held w w3 b w2.heap.size 0 := ⟨0, none, 0, by rw [List.take_zero, left_nil]; rfl, by rw [List.take_zero, absorb_nil]; exact X3, by rw [List.take_zero, left_nil]; exact ⟨Sees.none_, fun _ _ h => by cases h⟩, B3⟩
  have hg2 : w.heap.size ≤ w2.heap.size := B2.size
  clear X3
  go_cut [8] (fun va wx => ∃ k : Nat, k ≤ n ∧ va = .int .i64 k ∧ Held w wx b w2.heap.size k)
  case first =>
    go_wp2_with fail
    go_loopw [8, 9] (fun va vi wx => ∃ k q : Nat, k ≤ n ∧ q ≤ 8 ∧ va = .int .i64 k ∧ vi = .int .i64 q ∧ Held w wx b w2.heap.size k) (fun _ vi _ => 8 - (intOf vi).toNat)
    case atStart => exact ⟨0, 0, by omega, by omega, rfl, rfl, HE0⟩
    case round =>
      obtain ⟨k, q, hk, hq, rfl, rfl, HE⟩ := hrel
      by_cases hcq : q < m ∧ q < 8
      · obtain ⟨hq1, hq2⟩ := hcq
        have hq1' : (q : Int) < m := by omega
        have hq2' : (q : Int) < 8 := by omega
        obtain ⟨N, A3, c3, hN, HX, HS, HB⟩ := HE
        obtain ⟨z, hzq⟩ : ∃ z, z = zs[q]'(by rw [HLZ.out]; exact hq1) := ⟨_, rfl⟩
        have hz1 := hz z (by rw [hzq]; exact List.getElem_mem _)
        obtain ⟨bz, oz, u, rfl, hbz, hu, hcz⟩ := (h2.upTo HB hB).cell hq1
        have hu' : u = .int .u16 z := by
          rw [List.getElem?_map, List.getElem?_eq_getElem (by rw [HLZ.out]; exact hq1)] at hu
          rw [hzq]; exact (Option.some.inj hu).symm
        subst hu'
        have hz0 := hz1.1
        have hz2 := hz1.2
        obtain ⟨t, ht⟩ : ∃ t : Nat, (t : Int) = k + z % ((n : Int) - k + 1) := ⟨(k + z % ((n : Int) - k + 1)).toNat, by have := Int.emod_nonneg z (b := (n : Int) - k + 1) (by omega); omega⟩
        have ht1 : k ≤ t := by have := Int.emod_nonneg z (b := (n : Int) - k + 1) (by omega); omega
        have ht2 : t ≤ n := by have := Int.emod_lt_of_pos z (b := (n : Int) - k + 1) (by omega); omega
        have HT := Lib.hid ht
        clear ht hu hzq hz1
        go_upto_region 11 with (fail)
        have hw10 : wrap64 ((k : Int) + z % ((n : Int) - k + 1)) = (t : Int) := by rw [← HT.out, IntWalk.wrap64_in _ (by omega)]
        rw [hw10]
        clear hw10
        have hkt' : (k : Int) ≤ t := by omega
        have htc : (t : Int) ≤ c := by have := h.le; omega
        obtain ⟨N5, hN5⟩ : ∃ N5, (left (b.take t)).length = N5 := ⟨_, rfl⟩
        have HN5 := Lib.hid hN5
        have HN := Lib.hid hN
        have MC : Hid (∀ W, Below w.heap.size w W → Sees W W.heap.size A3 N c3 ((left (b.take k)).map bv) → Calls Tryd.prog 22 #[hv (absorb st0 (b.take k)) A3 N c3 k, .slice (if c = k then A else A.map (·.add k)) (t - k) (c - k)] W (GaveM W (absorb st0 (b.take t)) N5 (left (b.take t)) t 0)) := Lib.hid fun W hW hs => by
          have hp := (h.upTo hW hB).cut ht1 ht2
          rw [← List.map_drop, ← List.map_take] at hp
          have := More_text (b.take k) ((b.drop k).take (t - k)) A3 (if c = k then A else A.map (·.add k)) N c3 (t - k) (c - k) k N5 t W.heap.size W HN.out (by rw [List.length_take, HLA.out]; omega) (by rw [List.length_take, List.length_drop, HLA.out]; omega) (by rw [take_part b ht1]; exact HN5.out) (by rw [take_part b ht1, List.length_take, HLA.out]; omega) (by omega) hs (hp.more (Nat.le_trans hB hW.size)) (Nat.le_refl _) (L.keep hW L.size)
          rwa [take_part b ht1] at this
        clear hN hN5 hcz
        go_cut [11, 12] (fun va vb wx => vb = .int .i64 0 ∧ Parted w wx b w2.heap.size k t va)
        case first =>
          refine wp_region_noPanic ?_
          refine wp_region_held_drew (S := (fun W => (loadVeil 45 ⟨w2.heap.size, 0, none⟩).run Tryd.prog W = .ok (hv (absorb st0 (b.take k)) A3 N c3 k) W)) (by kernel_rfl) (by (try dsimp only); (first | exact run_loadVeilH (w := wr.drew) HX | exact run_loadVeilH X5 | exact run_loadVeilH (HoldsH.alloc (W := wr.drew) HX _) | exact run_loadVeilH (X5.alloc _) | exact run_loadVeilH X6)) (fun hHeld => ?_)
          refine wpAnyH_take (i := 0) (v := ?_) rfl (by kernel_rfl) (by kernel_rfl) (by kernel_rfl) (fun _ _ _ h => h) (Or.inl ⟨by rfl, ?_⟩) (by assumption) ?_
          rotate_left
          · intro w hSw; (try dsimp only at hSw); go_simp <;> with_reducible rfl
          try simp only [Act.put, List.getElem_toArray, List.getElem_cons_zero, List.setIfInBounds_toArray, List.set_cons_zero, List.set_cons_succ]
          refine wpAnyH_take (i := 1) (v := ?_) rfl (by kernel_rfl) (by kernel_rfl) (by kernel_rfl) (fun _ _ _ h => h) (Or.inl ⟨by rfl, ?_⟩) (by assumption) ?_
          rotate_left
          · intro w hSw; (try dsimp only at hSw); go_simp <;> with_reducible rfl
          try simp only [Act.put, List.getElem_toArray, List.getElem_cons_succ, List.getElem_cons_zero, List.setIfInBounds_toArray, List.set_cons_zero, List.set_cons_succ]
          refine wpAnyH_take (i := 2) (v := ?_) rfl (by kernel_rfl) (by kernel_rfl) (by kernel_rfl) (fun _ _ _ h => h) (Or.inl ⟨by rfl, ?_⟩) (by assumption) ?_
          rotate_left
          · intro w hSw; (try dsimp only at hSw); go_simp <;> with_reducible rfl
          try simp only [Act.put, List.getElem_toArray, List.getElem_cons_succ, List.getElem_cons_zero, List.setIfInBounds_toArray, List.set_cons_zero, List.set_cons_succ]
          refine wpAnyH_take (i := 3) (v := ?_) rfl (by kernel_rfl) (by kernel_rfl) (by kernel_rfl) (fun _ _ _ h => h) (Or.inl ⟨by rfl, ?_⟩) (by assumption) ?_
          rotate_left
          · intro w hSw; (try dsimp only at hSw); go_simp <;> with_reducible rfl
          try simp only [Act.put, List.getElem_toArray, List.getElem_cons_succ, List.getElem_cons_zero, List.setIfInBounds_toArray, List.set_cons_zero, List.set_cons_succ]
          refine wpAnyH_take (i := 4) (v := ?_) rfl (by kernel_rfl) (by kernel_rfl) (by kernel_rfl) (fun _ _ _ h => h) (Or.inl ⟨by rfl, ?_⟩) (by assumption) ?_
          rotate_left
          · intro w hSw; (try dsimp only at hSw); go_simp <;> with_reducible rfl
          try simp only [Act.put, List.getElem_toArray, List.getElem_cons_succ, List.getElem_cons_zero, List.setIfInBounds_toArray, List.set_cons_zero, List.set_cons_succ]
          refine wpAnyH_ready (rs := [5, 9]) (by kernel_rfl) (by simp) ?_
          refine AllReadyH.cons rfl (fun K hK => ?_) ?_
          · skip
            go_simp
            (first | (go_at_call 22; refine (MC.out _ (by first | exact HB.drew | exact (HB.alloc HB.size _).drew | exact HB.drew.alloc HB.size _) (by first | exact HS.1.drew | exact ((HS.1.alloc (Nat.le_refl _) _).drew).more (by first | exact (Nat.le_trans (Nat.le_succ _) (Nat.le_of_eq (World.size_alloc ..).symm)) | simp))).mono ?_; rintro e w5 ⟨A5, c5, rfl, hsi5, hb5⟩; have X5 : HoldsH w5 w2.heap.size (absorb st0 (b.take k)) A3 N c3 k := (by first | exact HoldsH.keep (W := wr.drew) HX hb5 HX.lt | exact HoldsH.keep (by exact HoldsH.alloc HX _) hb5 (Nat.lt_of_lt_of_eq (Nat.lt_succ_of_lt HX.lt) (World.size_alloc ..).symm)); have B5 : Below w.heap.size w w5 := (by first | exact HB.drew.trans (hb5.mono HB.size) | exact (HB.alloc HB.size _).drew.trans (hb5.mono (Nat.le_trans (Nat.le_succ_of_le HB.size) (Nat.le_of_eq (World.size_alloc ..).symm)))); have lX5 := X5.lt; (try (have Z5 : HoldsH w5 wr.heap.size sz none 0 0 0 := HoldsH.keep (by exact hx_start wr) hb5 (Nat.lt_of_lt_of_eq (Nat.lt_succ_self _) (World.size_alloc ..).symm)))) | (refine step_store_h (by rfl) (.tmp 11) (.tmp 57) (by rfl) w5.heap.size (absorb st0 (b.take t)) A5 N5 c5 t (by rfl) (by rfl) sz none 0 0 0 (hx_start w5) Tryd.infoH w.heap.size w (B5.alloc B5.size _) ?_ ?_; (first | exact HB.size | exact B5.size); intro w6 Y6 o6 s6 B6; have X6 : HoldsH w6 w2.heap.size (absorb st0 (b.take k)) A3 N c3 k := HoldsH.oth (HoldsH.alloc X5 _) o6 (by omega); have hs6 : SeesIn w6 A5 N5 c5 ((left (b.take t)).map bv) (fun x => x ≠ w2.heap.size) := (SeesIn.keep hsi5 (Nat.le_trans (by rw [World.size_alloc]; exact Nat.le_succ _) (Nat.le_of_eq s6.symm)) (fun x hx1 hx2 => (o6 x (by omega)).trans (heap_alloc_other w5 _ hx1))).imp (fun x _ hx => by have := HX.lt; (have hx : wr.heap.size ≤ x := hx; omega)); have g6 : w5.heap.size ≠ w2.heap.size := (by have := HX.lt; omega); have gl6 : w.heap.size ≤ w5.heap.size := (by first | exact HB.size | exact B5.size)) | (refine step_store_h (by rfl) (.tmp 11) (.tmp 57) (by rfl) wr.heap.size (absorb st0 (b.take t)) A5 N5 c5 t (by rfl) (by rfl) sz none 0 0 0 Z5 Tryd.infoH w.heap.size w B5 ?_ ?_; (first | exact HB.size | exact B5.size); intro w6 Y6 o6 s6 B6; have X6 : HoldsH w6 w2.heap.size (absorb st0 (b.take k)) A3 N c3 k := HoldsH.oth X5 o6 (by have := HX.lt; omega); have hs6 : SeesIn w6 A5 N5 c5 ((left (b.take t)).map bv) (fun x => x ≠ w2.heap.size) := (SeesIn.keep hsi5 (Nat.le_trans (Nat.le_refl _) (Nat.le_of_eq s6.symm)) (fun x hx1 hx2 => o6 x (by have hx2 : wr.heap.size + 1 ≤ x := Nat.le_trans (Nat.le_of_eq (World.size_alloc ..).symm) hx2; omega))).imp (fun x _ hx => by have := HX.lt; (have hx : wr.heap.size + 1 ≤ x := Nat.le_trans (Nat.le_of_eq (World.size_alloc ..).symm) hx; omega)); have g6 : wr.heap.size ≠ w2.heap.size := (by have := HX.lt; omega); have gl6 : w.heap.size ≤ wr.heap.size := (by first | exact HB.size | exact B5.size)))
            dsimp only
            refine hK.out _ _ ?_ (fun hHeld => ?_)
            · (try dsimp only); (first | exact run_loadVeilH (w := wr.drew) HX | exact run_loadVeilH X5 | exact run_loadVeilH (HoldsH.alloc (W := wr.drew) HX _) | exact run_loadVeilH (X5.alloc _) | exact run_loadVeilH X6)
            clear hK K
            try simp only [Act.put, List.getElem_toArray, List.getElem_cons_succ, List.getElem_cons_zero, List.setIfInBounds_toArray, List.set_cons_zero, List.set_cons_succ]
            refine wpAnyH_take (i := 6) (v := ?_) rfl (by kernel_rfl) (by kernel_rfl) (by kernel_rfl) (fun _ _ _ h => h) (Or.inl ⟨by rfl, ?_⟩) (by assumption) ?_
            rotate_left
            · intro w hSw; (try dsimp only at hSw); go_simp <;> with_reducible rfl
            try simp only [Act.put, List.getElem_toArray, List.getElem_cons_succ, List.getElem_cons_zero, List.setIfInBounds_toArray, List.set_cons_zero, List.set_cons_succ]
            refine wpAnyH_take (i := 7) (v := ?_) rfl (by kernel_rfl) (by kernel_rfl) (by kernel_rfl) (fun _ _ _ h => h) (Or.inl ⟨by rfl, ?_⟩) (by assumption) ?_
            rotate_left
            · intro w hSw; (try dsimp only at hSw); go_simp <;> with_reducible rfl
            try simp only [Act.put, List.getElem_toArray, List.getElem_cons_succ, List.getElem_cons_zero, List.setIfInBounds_toArray, List.set_cons_zero, List.set_cons_succ]
            refine wpAnyH_take (i := 8) (v := ?_) rfl (by kernel_rfl) (by kernel_rfl) (by kernel_rfl) (fun _ _ _ h => h) (Or.inl ⟨by rfl, ?_⟩) (by assumption) ?_
            rotate_left
            · intro w hSw; (try dsimp only at hSw); go_simp <;> with_reducible rfl
            try simp only [Act.put, List.getElem_toArray, List.getElem_cons_succ, List.getElem_cons_zero, List.setIfInBounds_toArray, List.set_cons_zero, List.set_cons_succ]
            refine wpAnyH_ready (rs := [9]) (by kernel_rfl) (by simp) ?_
            refine AllReadyH.cons rfl (fun K hK => ?_) AllReadyH.nil
            go_simp
            refine hK.out _ _ ?_ (fun hHeld => ?_)
            · (try dsimp only); (first | exact run_loadVeilH (w := wr.drew) HX | exact run_loadVeilH X5 | exact run_loadVeilH (HoldsH.alloc (W := wr.drew) HX _) | exact run_loadVeilH (X5.alloc _) | exact run_loadVeilH X6)
            clear hK K
            try simp only [Act.put, List.getElem_toArray, List.getElem_cons_succ, List.getElem_cons_zero, List.setIfInBounds_toArray, List.set_cons_zero, List.set_cons_succ]
            refine wpAnyH_ready (rs := [10]) (by kernel_rfl) (by simp) ?_
            refine AllReadyH.cons rfl (fun K hK => ?_) AllReadyH.nil
            (first | (go_at_call 22; refine (MC.out _ (by first | exact HB.drew | exact (HB.alloc HB.size _).drew | exact HB.drew.alloc HB.size _) (by first | exact HS.1.drew | exact ((HS.1.alloc (Nat.le_refl _) _).drew).more (by first | exact (Nat.le_trans (Nat.le_succ _) (Nat.le_of_eq (World.size_alloc ..).symm)) | simp))).mono ?_; rintro e w5 ⟨A5, c5, rfl, hsi5, hb5⟩; have X5 : HoldsH w5 w2.heap.size (absorb st0 (b.take k)) A3 N c3 k := (by first | exact HoldsH.keep (W := wr.drew) HX hb5 HX.lt | exact HoldsH.keep (by exact HoldsH.alloc HX _) hb5 (Nat.lt_of_lt_of_eq (Nat.lt_succ_of_lt HX.lt) (World.size_alloc ..).symm)); have B5 : Below w.heap.size w w5 := (by first | exact HB.drew.trans (hb5.mono HB.size) | exact (HB.alloc HB.size _).drew.trans (hb5.mono (Nat.le_trans (Nat.le_succ_of_le HB.size) (Nat.le_of_eq (World.size_alloc ..).symm)))); have lX5 := X5.lt; (try (have Z5 : HoldsH w5 wr.heap.size sz none 0 0 0 := HoldsH.keep (by exact hx_start wr) hb5 (Nat.lt_of_lt_of_eq (Nat.lt_succ_self _) (World.size_alloc ..).symm)))) | (refine step_store_h (by rfl) (.tmp 11) (.tmp 57) (by rfl) w5.heap.size (absorb st0 (b.take t)) A5 N5 c5 t (by rfl) (by rfl) sz none 0 0 0 (hx_start w5) Tryd.infoH w.heap.size w (B5.alloc B5.size _) ?_ ?_; (first | exact HB.size | exact B5.size); intro w6 Y6 o6 s6 B6; have X6 : HoldsH w6 w2.heap.size (absorb st0 (b.take k)) A3 N c3 k := HoldsH.oth (HoldsH.alloc X5 _) o6 (by omega); have hs6 : SeesIn w6 A5 N5 c5 ((left (b.take t)).map bv) (fun x => x ≠ w2.heap.size) := (SeesIn.keep hsi5 (Nat.le_trans (by rw [World.size_alloc]; exact Nat.le_succ _) (Nat.le_of_eq s6.symm)) (fun x hx1 hx2 => (o6 x (by omega)).trans (heap_alloc_other w5 _ hx1))).imp (fun x _ hx => by have := HX.lt; (have hx : wr.heap.size ≤ x := hx; omega)); have g6 : w5.heap.size ≠ w2.heap.size := (by have := HX.lt; omega); have gl6 : w.heap.size ≤ w5.heap.size := (by first | exact HB.size | exact B5.size)) | (refine step_store_h (by rfl) (.tmp 11) (.tmp 57) (by rfl) wr.heap.size (absorb st0 (b.take t)) A5 N5 c5 t (by rfl) (by rfl) sz none 0 0 0 Z5 Tryd.infoH w.heap.size w B5 ?_ ?_; (first | exact HB.size | exact B5.size); intro w6 Y6 o6 s6 B6; have X6 : HoldsH w6 w2.heap.size (absorb st0 (b.take k)) A3 N c3 k := HoldsH.oth X5 o6 (by have := HX.lt; omega); have hs6 : SeesIn w6 A5 N5 c5 ((left (b.take t)).map bv) (fun x => x ≠ w2.heap.size) := (SeesIn.keep hsi5 (Nat.le_trans (Nat.le_refl _) (Nat.le_of_eq s6.symm)) (fun x hx1 hx2 => o6 x (by have hx2 : wr.heap.size + 1 ≤ x := Nat.le_trans (Nat.le_of_eq (World.size_alloc ..).symm) hx2; omega))).imp (fun x _ hx => by have := HX.lt; (have hx : wr.heap.size + 1 ≤ x := Nat.le_trans (Nat.le_of_eq (World.size_alloc ..).symm) hx; omega)); have g6 : wr.heap.size ≠ w2.heap.size := (by have := HX.lt; omega); have gl6 : w.heap.size ≤ wr.heap.size := (by first | exact HB.size | exact B5.size)))
            refine hK.out _ _ ?_ (fun hHeld => ?_)
            · (try dsimp only); (first | exact run_loadVeilH (w := wr.drew) HX | exact run_loadVeilH X5 | exact run_loadVeilH (HoldsH.alloc (W := wr.drew) HX _) | exact run_loadVeilH (X5.alloc _) | exact run_loadVeilH X6)
            clear hK K
            try simp only [Act.put, List.getElem_toArray, List.getElem_cons_succ, List.getElem_cons_zero]
            refine wpAnyH_take (i := 11) (v := ?_) rfl (by kernel_rfl) (by kernel_rfl) (by kernel_rfl) (fun _ _ _ h => h) (Or.inl ⟨by rfl, ?_⟩) (by assumption) ?_
            rotate_left
            · intro w hSw; (try dsimp only at hSw); go_simp <;> with_reducible rfl
            try simp only [Act.put, List.getElem_toArray, List.getElem_cons_succ, List.getElem_cons_zero, List.setIfInBounds_toArray, List.set_cons_zero, List.set_cons_succ]
            refine wpAnyH_done (by kernel_rfl) ?_ _
            refine NoPanic.normal ?_
            generalize (if c = k then A else Option.map (fun x => x.add k) A) = AP
            go_wp2_with fail
            go_meet
            exact ⟨rfl, _, N5, A5, c5, A3, N, c3, rfl, HN5.out, Y6, hs6, X6, g6, gl6, B6⟩
          refine AllReadyH.cons rfl (fun K hK => ?_) ?_
          · skip
            go_simp
            refine hK.out _ _ ?_ (fun hHeld => ?_)
            · (try dsimp only); (first | exact run_loadVeilH (w := wr.drew) HX | exact run_loadVeilH X5 | exact run_loadVeilH (HoldsH.alloc (W := wr.drew) HX _) | exact run_loadVeilH (X5.alloc _) | exact run_loadVeilH X6)
            clear hK K
            try simp only [Act.put, List.getElem_toArray, List.getElem_cons_succ, List.getElem_cons_zero, List.setIfInBounds_toArray, List.set_cons_zero, List.set_cons_succ]
            refine wpAnyH_ready (rs := [5]) (by kernel_rfl) (by simp) ?_
            refine AllReadyH.cons rfl (fun K hK => ?_) AllReadyH.nil
            go_simp
            (first | (go_at_call 22; refine (MC.out _ (by first | exact HB.drew | exact (HB.alloc HB.size _).drew | exact HB.drew.alloc HB.size _) (by first | exact HS.1.drew | exact ((HS.1.alloc (Nat.le_refl _) _).drew).more (by first | exact (Nat.le_trans (Nat.le_succ _) (Nat.le_of_eq (World.size_alloc ..).symm)) | simp))).mono ?_; rintro e w5 ⟨A5, c5, rfl, hsi5, hb5⟩; have X5 : HoldsH w5 w2.heap.size (absorb st0 (b.take k)) A3 N c3 k := (by first | exact HoldsH.keep (W := wr.drew) HX hb5 HX.lt | exact HoldsH.keep (by exact HoldsH.alloc HX _) hb5 (Nat.lt_of_lt_of_eq (Nat.lt_succ_of_lt HX.lt) (World.size_alloc ..).symm)); have B5 : Below w.heap.size w w5 := (by first | exact HB.drew.trans (hb5.mono HB.size) | exact (HB.alloc HB.size _).drew.trans (hb5.mono (Nat.le_trans (Nat.le_succ_of_le HB.size) (Nat.le_of_eq (World.size_alloc ..).symm)))); have lX5 := X5.lt; (try (have Z5 : HoldsH w5 wr.heap.size sz none 0 0 0 := HoldsH.keep (by exact hx_start wr) hb5 (Nat.lt_of_lt_of_eq (Nat.lt_succ_self _) (World.size_alloc ..).symm)))) | (refine step_store_h (by rfl) (.tmp 11) (.tmp 57) (by rfl) w5.heap.size (absorb st0 (b.take t)) A5 N5 c5 t (by rfl) (by rfl) sz none 0 0 0 (hx_start w5) Tryd.infoH w.heap.size w (B5.alloc B5.size _) ?_ ?_; (first | exact HB.size | exact B5.size); intro w6 Y6 o6 s6 B6; have X6 : HoldsH w6 w2.heap.size (absorb st0 (b.take k)) A3 N c3 k := HoldsH.oth (HoldsH.alloc X5 _) o6 (by omega); have hs6 : SeesIn w6 A5 N5 c5 ((left (b.take t)).map bv) (fun x => x ≠ w2.heap.size) := (SeesIn.keep hsi5 (Nat.le_trans (by rw [World.size_alloc]; exact Nat.le_succ _) (Nat.le_of_eq s6.symm)) (fun x hx1 hx2 => (o6 x (by omega)).trans (heap_alloc_other w5 _ hx1))).imp (fun x _ hx => by have := HX.lt; (have hx : wr.heap.size ≤ x := hx; omega)); have g6 : w5.heap.size ≠ w2.heap.size := (by have := HX.lt; omega); have gl6 : w.heap.size ≤ w5.heap.size := (by first | exact HB.size | exact B5.size)) | (refine step_store_h (by rfl) (.tmp 11) (.tmp 57) (by rfl) wr.heap.size (absorb st0 (b.take t)) A5 N5 c5 t (by rfl) (by rfl) sz none 0 0 0 Z5 Tryd.infoH w.heap.size w B5 ?_ ?_; (first | exact HB.size | exact B5.size); intro w6 Y6 o6 s6 B6; have X6 : HoldsH w6 w2.heap.size (absorb st0 (b.take k)) A3 N c3 k := HoldsH.oth X5 o6 (by have := HX.lt; omega); have hs6 : SeesIn w6 A5 N5 c5 ((left (b.take t)).map bv) (fun x => x ≠ w2.heap.size) := (SeesIn.keep hsi5 (Nat.le_trans (Nat.le_refl _) (Nat.le_of_eq s6.symm)) (fun x hx1 hx2 => o6 x (by have hx2 : wr.heap.size + 1 ≤ x := Nat.le_trans (Nat.le_of_eq (World.size_alloc ..).symm) hx2; omega))).imp (fun x _ hx => by have := HX.lt; (have hx : wr.heap.size + 1 ≤ x := Nat.le_trans (Nat.le_of_eq (World.size_alloc ..).symm) hx; omega)); have g6 : wr.heap.size ≠ w2.heap.size := (by have := HX.lt; omega); have gl6 : w.heap.size ≤ wr.heap.size := (by first | exact HB.size | exact B5.size)))
            dsimp only
            refine hK.out _ _ ?_ (fun hHeld => ?_)
            · (try dsimp only); (first | exact run_loadVeilH (w := wr.drew) HX | exact run_loadVeilH X5 | exact run_loadVeilH (HoldsH.alloc (W := wr.drew) HX _) | exact run_loadVeilH (X5.alloc _) | exact run_loadVeilH X6)
            clear hK K
            try simp only [Act.put, List.getElem_toArray, List.getElem_cons_succ, List.getElem_cons_zero, List.setIfInBounds_toArray, List.set_cons_zero, List.set_cons_succ]
            refine wpAnyH_take (i := 6) (v := ?_) rfl (by kernel_rfl) (by kernel_rfl) (by kernel_rfl) (fun _ _ _ h => h) (Or.inl ⟨by rfl, ?_⟩) (by assumption) ?_
            rotate_left
            · intro w hSw; (try dsimp only at hSw); go_simp <;> with_reducible rfl
            try simp only [Act.put, List.getElem_toArray, List.getElem_cons_succ, List.getElem_cons_zero, List.setIfInBounds_toArray, List.set_cons_zero, List.set_cons_succ]
            refine wpAnyH_take (i := 7) (v := ?_) rfl (by kernel_rfl) (by kernel_rfl) (by kernel_rfl) (fun _ _ _ h => h) (Or.inl ⟨by rfl, ?_⟩) (by assumption) ?_
            rotate_left
            · intro w hSw; (try dsimp only at hSw); go_simp <;> with_reducible rfl
            try simp only [Act.put, List.getElem_toArray, List.getElem_cons_succ, List.getElem_cons_zero, List.setIfInBounds_toArray, List.set_cons_zero, List.set_cons_succ]
            refine wpAnyH_take (i := 8) (v := ?_) rfl (by kernel_rfl) (by kernel_rfl) (by kernel_rfl) (fun _ _ _ h => h) (Or.inl ⟨by rfl, ?_⟩) (by assumption) ?_
            rotate_left
            · intro w hSw; (try dsimp only at hSw); go_simp <;> with_reducible rfl
            try simp only [Act.put, List.getElem_toArray, List.getElem_cons_succ, List.getElem_cons_zero, List.setIfInBounds_toArray, List.set_cons_zero, List.set_cons_succ]
            refine wpAnyH_ready (rs := [10]) (by kernel_rfl) (by simp) ?_
            refine AllReadyH.cons rfl (fun K hK => ?_) AllReadyH.nil
            (first | (go_at_call 22; refine (MC.out _ (by first | exact HB.drew | exact (HB.alloc HB.size _).drew | exact HB.drew.alloc HB.size _) (by first | exact HS.1.drew | exact ((HS.1.alloc (Nat.le_refl _) _).drew).more (by first | exact (Nat.le_trans (Nat.le_succ _) (Nat.le_of_eq (World.size_alloc ..).symm)) | simp))).mono ?_; rintro e w5 ⟨A5, c5, rfl, hsi5, hb5⟩; have X5 : HoldsH w5 w2.heap.size (absorb st0 (b.take k)) A3 N c3 k := (by first | exact HoldsH.keep (W := wr.drew) HX hb5 HX.lt | exact HoldsH.keep (by exact HoldsH.alloc HX _) hb5 (Nat.lt_of_lt_of_eq (Nat.lt_succ_of_lt HX.lt) (World.size_alloc ..).symm)); have B5 : Below w.heap.size w w5 := (by first | exact HB.drew.trans (hb5.mono HB.size) | exact (HB.alloc HB.size _).drew.trans (hb5.mono (Nat.le_trans (Nat.le_succ_of_le HB.size) (Nat.le_of_eq (World.size_alloc ..).symm)))); have lX5 := X5.lt; (try (have Z5 : HoldsH w5 wr.heap.size sz none 0 0 0 := HoldsH.keep (by exact hx_start wr) hb5 (Nat.lt_of_lt_of_eq (Nat.lt_succ_self _) (World.size_alloc ..).symm)))) | (refine step_store_h (by rfl) (.tmp 11) (.tmp 57) (by rfl) w5.heap.size (absorb st0 (b.take t)) A5 N5 c5 t (by rfl) (by rfl) sz none 0 0 0 (hx_start w5) Tryd.infoH w.heap.size w (B5.alloc B5.size _) ?_ ?_; (first | exact HB.size | exact B5.size); intro w6 Y6 o6 s6 B6; have X6 : HoldsH w6 w2.heap.size (absorb st0 (b.take k)) A3 N c3 k := HoldsH.oth (HoldsH.alloc X5 _) o6 (by omega); have hs6 : SeesIn w6 A5 N5 c5 ((left (b.take t)).map bv) (fun x => x ≠ w2.heap.size) := (SeesIn.keep hsi5 (Nat.le_trans (by rw [World.size_alloc]; exact Nat.le_succ _) (Nat.le_of_eq s6.symm)) (fun x hx1 hx2 => (o6 x (by omega)).trans (heap_alloc_other w5 _ hx1))).imp (fun x _ hx => by have := HX.lt; (have hx : wr.heap.size ≤ x := hx; omega)); have g6 : w5.heap.size ≠ w2.heap.size := (by have := HX.lt; omega); have gl6 : w.heap.size ≤ w5.heap.size := (by first | exact HB.size | exact B5.size)) | (refine step_store_h (by rfl) (.tmp 11) (.tmp 57) (by rfl) wr.heap.size (absorb st0 (b.take t)) A5 N5 c5 t (by rfl) (by rfl) sz none 0 0 0 Z5 Tryd.infoH w.heap.size w B5 ?_ ?_; (first | exact HB.size | exact B5.size); intro w6 Y6 o6 s6 B6; have X6 : HoldsH w6 w2.heap.size (absorb st0 (b.take k)) A3 N c3 k := HoldsH.oth X5 o6 (by have := HX.lt; omega); have hs6 : SeesIn w6 A5 N5 c5 ((left (b.take t)).map bv) (fun x => x ≠ w2.heap.size) := (SeesIn.keep hsi5 (Nat.le_trans (Nat.le_refl _) (Nat.le_of_eq s6.symm)) (fun x hx1 hx2 => o6 x (by have hx2 : wr.heap.size + 1 ≤ x := Nat.le_trans (Nat.le_of_eq (World.size_alloc ..).symm) hx2; omega))).imp (fun x _ hx => by have := HX.lt; (have hx : wr.heap.size + 1 ≤ x := Nat.le_trans (Nat.le_of_eq (World.size_alloc ..).symm) hx; omega)); have g6 : wr.heap.size ≠ w2.heap.size := (by have := HX.lt; omega); have gl6 : w.heap.size ≤ wr.heap.size := (by first | exact HB.size | exact B5.size)))
            refine hK.out _ _ ?_ (fun hHeld => ?_)
            · (try dsimp only); (first | exact run_loadVeilH (w := wr.drew) HX | exact run_loadVeilH X5 | exact run_loadVeilH (HoldsH.alloc (W := wr.drew) HX _) | exact run_loadVeilH (X5.alloc _) | exact run_loadVeilH X6)
            clear hK K
            try simp only [Act.put, List.getElem_toArray, List.getElem_cons_succ, List.getElem_cons_zero]
            refine wpAnyH_take (i := 11) (v := ?_) rfl (by kernel_rfl) (by kernel_rfl) (by kernel_rfl) (fun _ _ _ h => h) (Or.inl ⟨by rfl, ?_⟩) (by assumption) ?_
            rotate_left
            · intro w hSw; (try dsimp only at hSw); go_simp <;> with_reducible rfl
            try simp only [Act.put, List.getElem_toArray, List.getElem_cons_succ, List.getElem_cons_zero, List.setIfInBounds_toArray, List.set_cons_zero, List.set_cons_succ]
            refine wpAnyH_done (by kernel_rfl) ?_ _
            refine NoPanic.normal ?_
            generalize (if c = k then A else Option.map (fun x => x.add k) A) = AP
            go_wp2_with fail
            go_meet
            exact ⟨rfl, _, N5, A5, c5, A3, N, c3, rfl, HN5.out, Y6, hs6, X6, g6, gl6, B6⟩
          exact AllReadyH.nil
        case rest =>
          obtain ⟨rfl, g, N6, A6, c6, A7, N7, c7, rfl, hN6, Y6, hs6, X6, g6, gl6, B6⟩ := hcut
          have HN6 := Lib.hid hN6
          have lY := Y6.lt
          clear hN6
          go_wp2_with (first
            | (with_reducible refine wpList_load_h rfl (.tmp 11) rfl g rfl (absorb st0 (b.take t)) A6 N6 c6 t Y6 Tryd.underlying45 Tryd.infoH ?_)
            | (with_reducible refine wpList_store_h rfl (.tmp 7) (.tmp 61) rfl w2.heap.size (absorb st0 (b.take t)) A6 N6 c6 t rfl rfl (absorb st0 (b.take k)) A7 N7 c7 k X6 Tryd.infoH w.heap.size w B6 hg2 ?_
               intro w8 X8 o8 s8 B8
               have hs8 : SeesIn w8 A6 N6 c6 ((left (b.take t)).map bv) (fun x => x ≠ w2.heap.size) := SeesIn.keep hs6 (Nat.le_of_eq s8.symm) (fun x _ hx => o8 x hx)
               clear o8 s8)
            | fail)
          go_roundw
          case rel => exact ⟨t, q + 1, ht2, by omega, rfl, by go_num, N6, A6, c6, HN6.out, X8, hs8, B8⟩
          case measure => simp [intOf]; omega
      · have HE' := Lib.hid HE
        clear HE
        rcases Nat.lt_or_ge q m with hq1 | hq1
        · have hq8 : ¬ q < 8 := fun h8 => hcq ⟨hq1, h8⟩
          have hq1' : (q : Int) < m := by omega
          have hq2' : decide ((q : Int) < 8) = false := by simp; omega
          clear hcq hq8
          go_wp2_with fail
          go_meet
          exact ⟨k, hk, rfl, HE'.out⟩
        · have hq1' : decide ((q : Int) < m) = false := by simp; omega
          clear hcq
          go_wp2_with fail
          go_meet
          exact ⟨k, hk, rfl, HE'.out⟩
  case rest =>
    obtain ⟨k, hk, rfl, N, A3, c3, hN, HX, HS, HB⟩ := hcut
    have hkt' : (k : Int) ≤ n := by omega
    have htc : (n : Int) ≤ c := by have := h.le; omega
    obtain ⟨N5, hN5⟩ : ∃ N5, (left b).length = N5 := ⟨_, rfl⟩
    have HN5 := Lib.hid hN5
    have HN := Lib.hid hN
    have MC : Hid (∀ W, Below w.heap.size w W → Sees W W.heap.size A3 N c3 ((left (b.take k)).map bv) → Calls Tryd.prog 22 #[hv (absorb st0 (b.take k)) A3 N c3 k, .slice (if c = k then A else A.map (·.add k)) (n - k) (c - k)] W (GaveM W (absorb st0 b) N5 (left b) n 0)) := Lib.hid fun W hW hs => by
      have hp := (h.upTo hW hB).drop hk
      rw [← List.map_drop] at hp
      have := More_text (b.take k) (b.drop k) A3 (if c = k then A else A.map (·.add k)) N c3 (n - k) (c - k) k N5 n W.heap.size W HN.out (by rw [List.length_take, HLA.out]; omega) (by rw [List.length_drop, HLA.out]) (by rw [List.take_append_drop]; exact HN5.out) (by rw [List.take_append_drop, HLA.out]) (by omega) hs (hp.more (Nat.le_trans hB hW.size)) (Nat.le_refl _) (L.keep hW L.size)
      rwa [List.take_append_drop] at this
    have E := HN5
    clear hN hN5
    go_upto_region 16 with (fail)
    go_cut [13, 14] (fun va vb wx => vb = .int .i64 0 ∧ Summed w wx b n va)
    case first =>
      refine wp_region_noPanic ?_
      refine wp_region_held_drew (S := (fun W => (loadVeil 45 ⟨w2.heap.size, 0, none⟩).run Tryd.prog W = .ok (hv (absorb st0 (b.take k)) A3 N c3 k) W)) (by kernel_rfl) (by (try dsimp only); (first | exact run_loadVeilH (w := wc.drew) HX | exact run_loadVeilH X5 | exact run_loadVeilH (HoldsH.alloc (W := wc.drew) HX _) | exact run_loadVeilH (X5.alloc _) | exact run_loadVeilH X6)) (fun hHeld => ?_)
      refine wpAnyH_take (i := 0) (v := ?_) rfl (by kernel_rfl) (by kernel_rfl) (by kernel_rfl) (fun _ _ _ h => h) (Or.inl ⟨by rfl, ?_⟩) (by assumption) ?_
      rotate_left
      · intro w hSw; (try dsimp only at hSw); go_simp <;> with_reducible rfl
      try simp only [Act.put, List.getElem_toArray, List.getElem_cons_zero, List.setIfInBounds_toArray, List.set_cons_zero, List.set_cons_succ]
      refine wpAnyH_take (i := 1) (v := ?_) rfl (by kernel_rfl) (by kernel_rfl) (by kernel_rfl) (fun _ _ _ h => h) (Or.inl ⟨by rfl, ?_⟩) (by assumption) ?_
      rotate_left
      · intro w hSw; (try dsimp only at hSw); go_simp <;> with_reducible rfl
      try simp only [Act.put, List.getElem_toArray, List.getElem_cons_succ, List.getElem_cons_zero, List.setIfInBounds_toArray, List.set_cons_zero, List.set_cons_succ]
      refine wpAnyH_take (i := 2) (v := ?_) rfl (by kernel_rfl) (by kernel_rfl) (by kernel_rfl) (fun _ _ _ h => h) (Or.inl ⟨by rfl, ?_⟩) (by assumption) ?_
      rotate_left
      · intro w hSw; (try dsimp only at hSw); go_simp <;> with_reducible rfl
      try simp only [Act.put, List.getElem_toArray, List.getElem_cons_succ, List.getElem_cons_zero, List.setIfInBounds_toArray, List.set_cons_zero, List.set_cons_succ]
      refine wpAnyH_take (i := 3) (v := ?_) rfl (by kernel_rfl) (by kernel_rfl) (by kernel_rfl) (fun _ _ _ h => h) (Or.inl ⟨by rfl, ?_⟩) (by assumption) ?_
      rotate_left
      · intro w hSw; (try dsimp only at hSw); go_simp <;> with_reducible rfl
      try simp only [Act.put, List.getElem_toArray, List.getElem_cons_succ, List.getElem_cons_zero, List.setIfInBounds_toArray, List.set_cons_zero, List.set_cons_succ]
      refine wpAnyH_ready (rs := [4, 8]) (by kernel_rfl) (by simp) ?_
      refine AllReadyH.cons rfl (fun K hK => ?_) ?_
      · skip
        go_simp
        (first | (go_at_call 22; refine (MC.out _ (by first | exact HB.drew | exact (HB.alloc HB.size _).drew | exact HB.drew.alloc HB.size _) (by first | exact HS.1.drew | exact ((HS.1.alloc (Nat.le_refl _) _).drew).more (by first | exact (Nat.le_trans (Nat.le_succ _) (Nat.le_of_eq (World.size_alloc ..).symm)) | simp))).mono ?_; rintro e w5 ⟨A5, c5, rfl, hsi5, hb5⟩; have X5 : HoldsH w5 w2.heap.size (absorb st0 (b.take k)) A3 N c3 k := (by first | exact HoldsH.keep (W := wc.drew) HX hb5 HX.lt | exact HoldsH.keep (by exact HoldsH.alloc HX _) hb5 (Nat.lt_of_lt_of_eq (Nat.lt_succ_of_lt HX.lt) (World.size_alloc ..).symm)); have B5 : Below w.heap.size w w5 := (by first | exact HB.drew.trans (hb5.mono HB.size) | exact (HB.alloc HB.size _).drew.trans (hb5.mono (Nat.le_trans (Nat.le_succ_of_le HB.size) (Nat.le_of_eq (World.size_alloc ..).symm)))); have lX5 := X5.lt; (try (have Z5 : HoldsH w5 wc.heap.size sz none 0 0 0 := HoldsH.keep (by exact hx_start wc) hb5 (Nat.lt_of_lt_of_eq (Nat.lt_succ_self _) (World.size_alloc ..).symm)))) | (refine step_store_h (by rfl) (.tmp 13) (.tmp 69) (by rfl) w5.heap.size (absorb st0 b) A5 N5 c5 n (by rfl) (by rfl) sz none 0 0 0 (hx_start w5) Tryd.infoH w.heap.size w (B5.alloc B5.size _) ?_ ?_; (first | exact HB.size | exact B5.size); intro w6 Y6 o6 s6 B6; have X6 : HoldsH w6 w2.heap.size (absorb st0 (b.take k)) A3 N c3 k := HoldsH.oth (HoldsH.alloc X5 _) o6 (by omega); have hs6 : SeesIn w6 A5 N5 c5 ((left b).map bv) (fun x => x ≠ w2.heap.size) := (SeesIn.keep hsi5 (Nat.le_trans (by rw [World.size_alloc]; exact Nat.le_succ _) (Nat.le_of_eq s6.symm)) (fun x hx1 hx2 => (o6 x (by omega)).trans (heap_alloc_other w5 _ hx1))).imp (fun x _ hx => by have := HX.lt; (have hx : wc.heap.size ≤ x := hx; omega)); have g6 : w5.heap.size ≠ w2.heap.size := (by have := HX.lt; omega); have gl6 : w.heap.size ≤ w5.heap.size := (by first | exact HB.size | exact B5.size)) | (refine step_store_h (by rfl) (.tmp 13) (.tmp 69) (by rfl) wc.heap.size (absorb st0 b) A5 N5 c5 n (by rfl) (by rfl) sz none 0 0 0 Z5 Tryd.infoH w.heap.size w B5 ?_ ?_; (first | exact HB.size | exact B5.size); intro w6 Y6 o6 s6 B6; have X6 : HoldsH w6 w2.heap.size (absorb st0 (b.take k)) A3 N c3 k := HoldsH.oth X5 o6 (by have := HX.lt; omega); have hs6 : SeesIn w6 A5 N5 c5 ((left b).map bv) (fun x => x ≠ w2.heap.size) := (SeesIn.keep hsi5 (Nat.le_trans (Nat.le_refl _) (Nat.le_of_eq s6.symm)) (fun x hx1 hx2 => o6 x (by have hx2 : wc.heap.size + 1 ≤ x := Nat.le_trans (Nat.le_of_eq (World.size_alloc ..).symm) hx2; omega))).imp (fun x _ hx => by have := HX.lt; (have hx : wc.heap.size + 1 ≤ x := Nat.le_trans (Nat.le_of_eq (World.size_alloc ..).symm) hx; omega)); have g6 : wc.heap.size ≠ w2.heap.size := (by have := HX.lt; omega); have gl6 : w.heap.size ≤ wc.heap.size := (by first | exact HB.size | exact B5.size)))
        dsimp only
        refine hK.out _ _ ?_ (fun hHeld => ?_)
        · (try dsimp only); (first | exact run_loadVeilH (w := wc.drew) HX | exact run_loadVeilH X5 | exact run_loadVeilH (HoldsH.alloc (W := wc.drew) HX _) | exact run_loadVeilH (X5.alloc _) | exact run_loadVeilH X6)
        clear hK K
        try simp only [Act.put, List.getElem_toArray, List.getElem_cons_succ, List.getElem_cons_zero, List.setIfInBounds_toArray, List.set_cons_zero, List.set_cons_succ]
        refine wpAnyH_take (i := 5) (v := ?_) rfl (by kernel_rfl) (by kernel_rfl) (by kernel_rfl) (fun _ _ _ h => h) (Or.inl ⟨by rfl, ?_⟩) (by assumption) ?_
        rotate_left
        · intro w hSw; (try dsimp only at hSw); go_simp <;> with_reducible rfl
        try simp only [Act.put, List.getElem_toArray, List.getElem_cons_succ, List.getElem_cons_zero, List.setIfInBounds_toArray, List.set_cons_zero, List.set_cons_succ]
        refine wpAnyH_take (i := 6) (v := ?_) rfl (by kernel_rfl) (by kernel_rfl) (by kernel_rfl) (fun _ _ _ h => h) (Or.inl ⟨by rfl, ?_⟩) (by assumption) ?_
        rotate_left
        · intro w hSw; (try dsimp only at hSw); go_simp <;> with_reducible rfl
        try simp only [Act.put, List.getElem_toArray, List.getElem_cons_succ, List.getElem_cons_zero, List.setIfInBounds_toArray, List.set_cons_zero, List.set_cons_succ]
        refine wpAnyH_take (i := 7) (v := ?_) rfl (by kernel_rfl) (by kernel_rfl) (by kernel_rfl) (fun _ _ _ h => h) (Or.inl ⟨by rfl, ?_⟩) (by assumption) ?_
        rotate_left
        · intro w hSw; (try dsimp only at hSw); go_simp <;> with_reducible rfl
        try simp only [Act.put, List.getElem_toArray, List.getElem_cons_succ, List.getElem_cons_zero, List.setIfInBounds_toArray, List.set_cons_zero, List.set_cons_succ]
        refine wpAnyH_ready (rs := [8]) (by kernel_rfl) (by simp) ?_
        refine AllReadyH.cons rfl (fun K hK => ?_) AllReadyH.nil
        go_simp
        refine hK.out _ _ ?_ (fun hHeld => ?_)
        · (try dsimp only); (first | exact run_loadVeilH (w := wc.drew) HX | exact run_loadVeilH X5 | exact run_loadVeilH (HoldsH.alloc (W := wc.drew) HX _) | exact run_loadVeilH (X5.alloc _) | exact run_loadVeilH X6)
        clear hK K
        try simp only [Act.put, List.getElem_toArray, List.getElem_cons_succ, List.getElem_cons_zero, List.setIfInBounds_toArray, List.set_cons_zero, List.set_cons_succ]
        refine wpAnyH_ready (rs := [9]) (by kernel_rfl) (by simp) ?_
        refine AllReadyH.cons rfl (fun K hK => ?_) AllReadyH.nil
        (first | (go_at_call 22; refine (MC.out _ (by first | exact HB.drew | exact (HB.alloc HB.size _).drew | exact HB.drew.alloc HB.size _) (by first | exact HS.1.drew | exact ((HS.1.alloc (Nat.le_refl _) _).drew).more (by first | exact (Nat.le_trans (Nat.le_succ _) (Nat.le_of_eq (World.size_alloc ..).symm)) | simp))).mono ?_; rintro e w5 ⟨A5, c5, rfl, hsi5, hb5⟩; have X5 : HoldsH w5 w2.heap.size (absorb st0 (b.take k)) A3 N c3 k := (by first | exact HoldsH.keep (W := wc.drew) HX hb5 HX.lt | exact HoldsH.keep (by exact HoldsH.alloc HX _) hb5 (Nat.lt_of_lt_of_eq (Nat.lt_succ_of_lt HX.lt) (World.size_alloc ..).symm)); have B5 : Below w.heap.size w w5 := (by first | exact HB.drew.trans (hb5.mono HB.size) | exact (HB.alloc HB.size _).drew.trans (hb5.mono (Nat.le_trans (Nat.le_succ_of_le HB.size) (Nat.le_of_eq (World.size_alloc ..).symm)))); have lX5 := X5.lt; (try (have Z5 : HoldsH w5 wc.heap.size sz none 0 0 0 := HoldsH.keep (by exact hx_start wc) hb5 (Nat.lt_of_lt_of_eq (Nat.lt_succ_self _) (World.size_alloc ..).symm)))) | (refine step_store_h (by rfl) (.tmp 13) (.tmp 69) (by rfl) w5.heap.size (absorb st0 b) A5 N5 c5 n (by rfl) (by rfl) sz none 0 0 0 (hx_start w5) Tryd.infoH w.heap.size w (B5.alloc B5.size _) ?_ ?_; (first | exact HB.size | exact B5.size); intro w6 Y6 o6 s6 B6; have X6 : HoldsH w6 w2.heap.size (absorb st0 (b.take k)) A3 N c3 k := HoldsH.oth (HoldsH.alloc X5 _) o6 (by omega); have hs6 : SeesIn w6 A5 N5 c5 ((left b).map bv) (fun x => x ≠ w2.heap.size) := (SeesIn.keep hsi5 (Nat.le_trans (by rw [World.size_alloc]; exact Nat.le_succ _) (Nat.le_of_eq s6.symm)) (fun x hx1 hx2 => (o6 x (by omega)).trans (heap_alloc_other w5 _ hx1))).imp (fun x _ hx => by have := HX.lt; (have hx : wc.heap.size ≤ x := hx; omega)); have g6 : w5.heap.size ≠ w2.heap.size := (by have := HX.lt; omega); have gl6 : w.heap.size ≤ w5.heap.size := (by first | exact HB.size | exact B5.size)) | (refine step_store_h (by rfl) (.tmp 13) (.tmp 69) (by rfl) wc.heap.size (absorb st0 b) A5 N5 c5 n (by rfl) (by rfl) sz none 0 0 0 Z5 Tryd.infoH w.heap.size w B5 ?_ ?_; (first | exact HB.size | exact B5.size); intro w6 Y6 o6 s6 B6; have X6 : HoldsH w6 w2.heap.size (absorb st0 (b.take k)) A3 N c3 k := HoldsH.oth X5 o6 (by have := HX.lt; omega); have hs6 : SeesIn w6 A5 N5 c5 ((left b).map bv) (fun x => x ≠ w2.heap.size) := (SeesIn.keep hsi5 (Nat.le_trans (Nat.le_refl _) (Nat.le_of_eq s6.symm)) (fun x hx1 hx2 => o6 x (by have hx2 : wc.heap.size + 1 ≤ x := Nat.le_trans (Nat.le_of_eq (World.size_alloc ..).symm) hx2; omega))).imp (fun x _ hx => by have := HX.lt; (have hx : wc.heap.size + 1 ≤ x := Nat.le_trans (Nat.le_of_eq (World.size_alloc ..).symm) hx; omega)); have g6 : wc.heap.size ≠ w2.heap.size := (by have := HX.lt; omega); have gl6 : w.heap.size ≤ wc.heap.size := (by first | exact HB.size | exact B5.size)))
        refine hK.out _ _ ?_ (fun hHeld => ?_)
        · (try dsimp only); (first | exact run_loadVeilH (w := wc.drew) HX | exact run_loadVeilH X5 | exact run_loadVeilH (HoldsH.alloc (W := wc.drew) HX _) | exact run_loadVeilH (X5.alloc _) | exact run_loadVeilH X6)
        clear hK K
        try simp only [Act.put, List.getElem_toArray, List.getElem_cons_succ, List.getElem_cons_zero]
        refine wpAnyH_take (i := 10) (v := ?_) rfl (by kernel_rfl) (by kernel_rfl) (by kernel_rfl) (fun _ _ _ h => h) (Or.inl ⟨by rfl, ?_⟩) (by assumption) ?_
        rotate_left
        · intro w hSw; (try dsimp only at hSw); go_simp <;> with_reducible rfl
        try simp only [Act.put, List.getElem_toArray, List.getElem_cons_succ, List.getElem_cons_zero, List.setIfInBounds_toArray, List.set_cons_zero, List.set_cons_succ]
        refine wpAnyH_done (by kernel_rfl) ?_ _
        refine NoPanic.normal ?_
        generalize (if c = k then A else Option.map (fun x => x.add k) A) = AP
        go_wp2_with fail
        go_meet
        exact ⟨rfl, _, N5, A5, c5, rfl, HN5.out, Y6, hs6.1, gl6, B6⟩
      refine AllReadyH.cons rfl (fun K hK => ?_) ?_
      · skip
        go_simp
        refine hK.out _ _ ?_ (fun hHeld => ?_)
        · (try dsimp only); (first | exact run_loadVeilH (w := wc.drew) HX | exact run_loadVeilH X5 | exact run_loadVeilH (HoldsH.alloc (W := wc.drew) HX _) | exact run_loadVeilH (X5.alloc _) | exact run_loadVeilH X6)
        clear hK K
        try simp only [Act.put, List.getElem_toArray, List.getElem_cons_succ, List.getElem_cons_zero, List.setIfInBounds_toArray, List.set_cons_zero, List.set_cons_succ]
        refine wpAnyH_ready (rs := [4]) (by kernel_rfl) (by simp) ?_
        refine AllReadyH.cons rfl (fun K hK => ?_) AllReadyH.nil
        go_simp
        (first | (go_at_call 22; refine (MC.out _ (by first | exact HB.drew | exact (HB.alloc HB.size _).drew | exact HB.drew.alloc HB.size _) (by first | exact HS.1.drew | exact ((HS.1.alloc (Nat.le_refl _) _).drew).more (by first | exact (Nat.le_trans (Nat.le_succ _) (Nat.le_of_eq (World.size_alloc ..).symm)) | simp))).mono ?_; rintro e w5 ⟨A5, c5, rfl, hsi5, hb5⟩; have X5 : HoldsH w5 w2.heap.size (absorb st0 (b.take k)) A3 N c3 k := (by first | exact HoldsH.keep (W := wc.drew) HX hb5 HX.lt | exact HoldsH.keep (by exact HoldsH.alloc HX _) hb5 (Nat.lt_of_lt_of_eq (Nat.lt_succ_of_lt HX.lt) (World.size_alloc ..).symm)); have B5 : Below w.heap.size w w5 := (by first | exact HB.drew.trans (hb5.mono HB.size) | exact (HB.alloc HB.size _).drew.trans (hb5.mono (Nat.le_trans (Nat.le_succ_of_le HB.size) (Nat.le_of_eq (World.size_alloc ..).symm)))); have lX5 := X5.lt; (try (have Z5 : HoldsH w5 wc.heap.size sz none 0 0 0 := HoldsH.keep (by exact hx_start wc) hb5 (Nat.lt_of_lt_of_eq (Nat.lt_succ_self _) (World.size_alloc ..).symm)))) | (refine step_store_h (by rfl) (.tmp 13) (.tmp 69) (by rfl) w5.heap.size (absorb st0 b) A5 N5 c5 n (by rfl) (by rfl) sz none 0 0 0 (hx_start w5) Tryd.infoH w.heap.size w (B5.alloc B5.size _) ?_ ?_; (first | exact HB.size | exact B5.size); intro w6 Y6 o6 s6 B6; have X6 : HoldsH w6 w2.heap.size (absorb st0 (b.take k)) A3 N c3 k := HoldsH.oth (HoldsH.alloc X5 _) o6 (by omega); have hs6 : SeesIn w6 A5 N5 c5 ((left b).map bv) (fun x => x ≠ w2.heap.size) := (SeesIn.keep hsi5 (Nat.le_trans (by rw [World.size_alloc]; exact Nat.le_succ _) (Nat.le_of_eq s6.symm)) (fun x hx1 hx2 => (o6 x (by omega)).trans (heap_alloc_other w5 _ hx1))).imp (fun x _ hx => by have := HX.lt; (have hx : wc.heap.size ≤ x := hx; omega)); have g6 : w5.heap.size ≠ w2.heap.size := (by have := HX.lt; omega); have gl6 : w.heap.size ≤ w5.heap.size := (by first | exact HB.size | exact B5.size)) | (refine step_store_h (by rfl) (.tmp 13) (.tmp 69) (by rfl) wc.heap.size (absorb st0 b) A5 N5 c5 n (by rfl) (by rfl) sz none 0 0 0 Z5 Tryd.infoH w.heap.size w B5 ?_ ?_; (first | exact HB.size | exact B5.size); intro w6 Y6 o6 s6 B6; have X6 : HoldsH w6 w2.heap.size (absorb st0 (b.take k)) A3 N c3 k := HoldsH.oth X5 o6 (by have := HX.lt; omega); have hs6 : SeesIn w6 A5 N5 c5 ((left b).map bv) (fun x => x ≠ w2.heap.size) := (SeesIn.keep hsi5 (Nat.le_trans (Nat.le_refl _) (Nat.le_of_eq s6.symm)) (fun x hx1 hx2 => o6 x (by have hx2 : wc.heap.size + 1 ≤ x := Nat.le_trans (Nat.le_of_eq (World.size_alloc ..).symm) hx2; omega))).imp (fun x _ hx => by have := HX.lt; (have hx : wc.heap.size + 1 ≤ x := Nat.le_trans (Nat.le_of_eq (World.size_alloc ..).symm) hx; omega)); have g6 : wc.heap.size ≠ w2.heap.size := (by have := HX.lt; omega); have gl6 : w.heap.size ≤ wc.heap.size := (by first | exact HB.size | exact B5.size)))
        dsimp only
        refine hK.out _ _ ?_ (fun hHeld => ?_)
        · (try dsimp only); (first | exact run_loadVeilH (w := wc.drew) HX | exact run_loadVeilH X5 | exact run_loadVeilH (HoldsH.alloc (W := wc.drew) HX _) | exact run_loadVeilH (X5.alloc _) | exact run_loadVeilH X6)
        clear hK K
        try simp only [Act.put, List.getElem_toArray, List.getElem_cons_succ, List.getElem_cons_zero, List.setIfInBounds_toArray, List.set_cons_zero, List.set_cons_succ]
        refine wpAnyH_take (i := 5) (v := ?_) rfl (by kernel_rfl) (by kernel_rfl) (by kernel_rfl) (fun _ _ _ h => h) (Or.inl ⟨by rfl, ?_⟩) (by assumption) ?_
        rotate_left
        · intro w hSw; (try dsimp only at hSw); go_simp <;> with_reducible rfl
        try simp only [Act.put, List.getElem_toArray, List.getElem_cons_succ, List.getElem_cons_zero, List.setIfInBounds_toArray, List.set_cons_zero, List.set_cons_succ]
        refine wpAnyH_take (i := 6) (v := ?_) rfl (by kernel_rfl) (by kernel_rfl) (by kernel_rfl) (fun _ _ _ h => h) (Or.inl ⟨by rfl, ?_⟩) (by assumption) ?_
        rotate_left
        · intro w hSw; (try dsimp only at hSw); go_simp <;> with_reducible rfl
        try simp only [Act.put, List.getElem_toArray, List.getElem_cons_succ, List.getElem_cons_zero, List.setIfInBounds_toArray, List.set_cons_zero, List.set_cons_succ]
        refine wpAnyH_take (i := 7) (v := ?_) rfl (by kernel_rfl) (by kernel_rfl) (by kernel_rfl) (fun _ _ _ h => h) (Or.inl ⟨by rfl, ?_⟩) (by assumption) ?_
        rotate_left
        · intro w hSw; (try dsimp only at hSw); go_simp <;> with_reducible rfl
        try simp only [Act.put, List.getElem_toArray, List.getElem_cons_succ, List.getElem_cons_zero, List.setIfInBounds_toArray, List.set_cons_zero, List.set_cons_succ]
        refine wpAnyH_ready (rs := [9]) (by kernel_rfl) (by simp) ?_
        refine AllReadyH.cons rfl (fun K hK => ?_) AllReadyH.nil
        (first | (go_at_call 22; refine (MC.out _ (by first | exact HB.drew | exact (HB.alloc HB.size _).drew | exact HB.drew.alloc HB.size _) (by first | exact HS.1.drew | exact ((HS.1.alloc (Nat.le_refl _) _).drew).more (by first | exact (Nat.le_trans (Nat.le_succ _) (Nat.le_of_eq (World.size_alloc ..).symm)) | simp))).mono ?_; rintro e w5 ⟨A5, c5, rfl, hsi5, hb5⟩; have X5 : HoldsH w5 w2.heap.size (absorb st0 (b.take k)) A3 N c3 k := (by first | exact HoldsH.keep (W := wc.drew) HX hb5 HX.lt | exact HoldsH.keep (by exact HoldsH.alloc HX _) hb5 (Nat.lt_of_lt_of_eq (Nat.lt_succ_of_lt HX.lt) (World.size_alloc ..).symm)); have B5 : Below w.heap.size w w5 := (by first | exact HB.drew.trans (hb5.mono HB.size) | exact (HB.alloc HB.size _).drew.trans (hb5.mono (Nat.le_trans (Nat.le_succ_of_le HB.size) (Nat.le_of_eq (World.size_alloc ..).symm)))); have lX5 := X5.lt; (try (have Z5 : HoldsH w5 wc.heap.size sz none 0 0 0 := HoldsH.keep (by exact hx_start wc) hb5 (Nat.lt_of_lt_of_eq (Nat.lt_succ_self _) (World.size_alloc ..).symm)))) | (refine step_store_h (by rfl) (.tmp 13) (.tmp 69) (by rfl) w5.heap.size (absorb st0 b) A5 N5 c5 n (by rfl) (by rfl) sz none 0 0 0 (hx_start w5) Tryd.infoH w.heap.size w (B5.alloc B5.size _) ?_ ?_; (first | exact HB.size | exact B5.size); intro w6 Y6 o6 s6 B6; have X6 : HoldsH w6 w2.heap.size (absorb st0 (b.take k)) A3 N c3 k := HoldsH.oth (HoldsH.alloc X5 _) o6 (by omega); have hs6 : SeesIn w6 A5 N5 c5 ((left b).map bv) (fun x => x ≠ w2.heap.size) := (SeesIn.keep hsi5 (Nat.le_trans (by rw [World.size_alloc]; exact Nat.le_succ _) (Nat.le_of_eq s6.symm)) (fun x hx1 hx2 => (o6 x (by omega)).trans (heap_alloc_other w5 _ hx1))).imp (fun x _ hx => by have := HX.lt; (have hx : wc.heap.size ≤ x := hx; omega)); have g6 : w5.heap.size ≠ w2.heap.size := (by have := HX.lt; omega); have gl6 : w.heap.size ≤ w5.heap.size := (by first | exact HB.size | exact B5.size)) | (refine step_store_h (by rfl) (.tmp 13) (.tmp 69) (by rfl) wc.heap.size (absorb st0 b) A5 N5 c5 n (by rfl) (by rfl) sz none 0 0 0 Z5 Tryd.infoH w.heap.size w B5 ?_ ?_; (first | exact HB.size | exact B5.size); intro w6 Y6 o6 s6 B6; have X6 : HoldsH w6 w2.heap.size (absorb st0 (b.take k)) A3 N c3 k := HoldsH.oth X5 o6 (by have := HX.lt; omega); have hs6 : SeesIn w6 A5 N5 c5 ((left b).map bv) (fun x => x ≠ w2.heap.size) := (SeesIn.keep hsi5 (Nat.le_trans (Nat.le_refl _) (Nat.le_of_eq s6.symm)) (fun x hx1 hx2 => o6 x (by have hx2 : wc.heap.size + 1 ≤ x := Nat.le_trans (Nat.le_of_eq (World.size_alloc ..).symm) hx2; omega))).imp (fun x _ hx => by have := HX.lt; (have hx : wc.heap.size + 1 ≤ x := Nat.le_trans (Nat.le_of_eq (World.size_alloc ..).symm) hx; omega)); have g6 : wc.heap.size ≠ w2.heap.size := (by have := HX.lt; omega); have gl6 : w.heap.size ≤ wc.heap.size := (by first | exact HB.size | exact B5.size)))
        refine hK.out _ _ ?_ (fun hHeld => ?_)
        · (try dsimp only); (first | exact run_loadVeilH (w := wc.drew) HX | exact run_loadVeilH X5 | exact run_loadVeilH (HoldsH.alloc (W := wc.drew) HX _) | exact run_loadVeilH (X5.alloc _) | exact run_loadVeilH X6)
        clear hK K
        try simp only [Act.put, List.getElem_toArray, List.getElem_cons_succ, List.getElem_cons_zero]
        refine wpAnyH_take (i := 10) (v := ?_) rfl (by kernel_rfl) (by kernel_rfl) (by kernel_rfl) (fun _ _ _ h => h) (Or.inl ⟨by rfl, ?_⟩) (by assumption) ?_
        rotate_left
        · intro w hSw; (try dsimp only at hSw); go_simp <;> with_reducible rfl
        try simp only [Act.put, List.getElem_toArray, List.getElem_cons_succ, List.getElem_cons_zero, List.setIfInBounds_toArray, List.set_cons_zero, List.set_cons_succ]
        refine wpAnyH_done (by kernel_rfl) ?_ _
        refine NoPanic.normal ?_
        generalize (if c = k then A else Option.map (fun x => x.add k) A) = AP
        go_wp2_with fail
        go_meet
        exact ⟨rfl, _, N5, A5, c5, rfl, HN5.out, Y6, hs6.1, gl6, B6⟩
      exact AllReadyH.nil
    case rest =>
      obtain ⟨rfl, g, N6, A6, c6, rfl, hN6, Y6, hs6, gl6, B6⟩ := hcut
      have HN6 := Lib.hid hN6
      clear hN6 HX HS HB MC HN HN5 E
      have lY6 := Y6.lt
      have EE : Hid (∀ W A3 c3, Below w.heap.size w W → Sees W W.heap.size A3 N6 c3 ((left b).map bv) → Calls Tryd.prog 24 #[hv (absorb st0 b) A3 N6 c3 n] W (GaveE W (sumOf b) 0)) := Lib.hid fun W A3 c3 hW hs => End_text b A3 N6 c3 n W.heap.size W HN6.out HLA.out (by omega) hs (Nat.le_refl _) (L.keep hW L.size)
      have S1 : Hid (∀ W, Below w.heap.size w W → Calls Tryd.prog 29 #[.slice A n c] W (GaveS W (sumOf b))) := Lib.hid fun W hW => Sum_any A n c B b W (h.upTo hW hB) (Nat.le_trans hB hW.size) (by omega) (L.keep hW L.size)
      have HO := Lib.hid (sumOf_length b)
      generalize sumOf b = sumb at *
      generalize absorb st0 b = sb at *
      go_wp2_with (first
        | (go_at_call 24
           with_reducible refine (EE.out w7 A6 c6 B7 (hs7.more (by omega))).mono ?_
           rintro e w8 ⟨rfl, hb8⟩
           have B8 := B7.trans (hb8.mono B7.size)
           have P8 := P7.keep hb8 P7.lt
           have Y8 := Y7.keep hb8 Y7.lt
           have z8 := s_start w8
           have B8a := B8.alloc B8.size (.cells ((List.replicate 64 (0 : UInt8)).map bv).toArray 48)
           have P8a := P8.alloc (.cells ((List.replicate 64 (0 : UInt8)).map bv).toArray 48)
           have lP8 := P8.lt
           have Y8a := Y8.alloc (.cells ((List.replicate 64 (0 : UInt8)).map bv).toArray 48)
           have lY8 := Y8.lt
           clear hb8)
        | (with_reducible refine wpList_store_b rfl 48 (.tmp 17) (.tmp 79) rfl w8.heap.size sumb HO.out rfl rfl (List.replicate 64 0) (by with_unfolding_all exact z8) Tryd.infoB32 (by simp) w.heap.size w (by with_unfolding_all exact B8a) B8.size ?_
           intro w9 Q9 o9 s9 B9
           have P9 : HoldsB w9 48 w5.heap.size sumb := (o9 _ (by omega)).trans (by with_unfolding_all exact P8a)
           have Y9 : HoldsH w9 g sb A6 N6 c6 n := (o9 _ (by omega)).trans (by with_unfolding_all exact Y8a)
           clear z8 B8a s9 o9 P8a Y8a)
        | (go_at_call 24
           with_reducible refine (EE.out wc A6 c6 B6 hs6).mono ?_
           rintro e w5 ⟨rfl, hb5⟩
           have B5 := B6.trans (hb5.mono B6.size)
           have Y5 := Y6.keep hb5 Y6.lt
           have hs5 := hs6.upTo hb5 (Nat.le_refl _)
           have sz5 := hb5.size
           have z5 := s_start w5
           have B5a := B5.alloc B5.size (.cells ((List.replicate 64 (0 : UInt8)).map bv).toArray 48)
           have Y5a := Y5.alloc (.cells ((List.replicate 64 (0 : UInt8)).map bv).toArray 48)
           have lY5 := Y5.lt
           clear hb5)
        | (with_reducible refine wpList_store_b rfl 48 (.tmp 15) (.tmp 74) rfl w5.heap.size sumb HO.out rfl rfl (List.replicate 64 0) (by with_unfolding_all exact z5) Tryd.infoB32 (by simp) w.heap.size w (by with_unfolding_all exact B5a) B5.size ?_
           intro w7 P7 o7 s7 B7
           have Y7 : HoldsH w7 g sb A6 N6 c6 n := (o7 _ (by omega)).trans (by with_unfolding_all exact Y5a)
           have hs7 := hs5.keep (fun p hp => cell_of_heap ((o7 p.block (by omega)).trans (heap_alloc_other w5 _ (by omega))))
           have lP7 := P7.lt
           clear z5 B5a s7 o7 Y5a)
        | (with_reducible refine wpList_load_h rfl (.tmp 13) rfl g rfl sb A6 N6 c6 n Y7 Tryd.underlying45 Tryd.infoH ?_)
        | (with_reducible refine wpList_load_h rfl (.tmp 13) rfl g rfl sb A6 N6 c6 n Y6 Tryd.underlying45 Tryd.infoH ?_)
        | fail)
      have P9d : HoldsB w9.drew 48 w5.heap.size sumb := P9
      have Q9d : HoldsB w9.drew 48 w8.heap.size sumb := Q9
      have Y9d : HoldsH w9.drew g sb A6 N6 c6 n := Y9
      have B9d := B9.drew
      have cv := fun W (hW : Below w.heap.size w W) => run_convert_sees (P := Tryd.prog) 24 9 5 Tryd.underlying24 Tryd.underlying5 Tryd.underlying9 (h.upTo hW hB)
      have CV := Lib.hid cv
      clear cv
      have hwn : IntKind.u64.wrap (n : Int) = n := by rw [IntKind.wrap_u64]; omega
      have q1 := fun W => run_eql_b32 sumb W HO.out
      have q2 := fun x y a b W => run_guard_b32 x y a b W
      refine wp_region_noPanic ?_
      refine wp_region_held_drew (S := (fun W => (loadVeil 48 ⟨w5.heap.size, 0, none⟩).run Tryd.prog W = .ok (.agg (sumb.map bv).toArray) W ∧ (loadVeil 48 ⟨w8.heap.size, 0, none⟩).run Tryd.prog W = .ok (.agg (sumb.map bv).toArray) W ∧ (convert 24 9 (.slice A n c)).run Tryd.prog W = .ok (.string (strOf b)) W ∧ W.cell? ⟨g, 9, none⟩ = some (.int .u64 (n : Int)))) (by kernel_rfl) (by (try dsimp only); (first | exact ⟨run_loadVeil HO.out P9d, run_loadVeil HO.out Q9d, CV.out _ B9d, Y9d.at 9⟩ | exact ⟨run_loadVeil HO.out P10, run_loadVeil HO.out Q10, CV.out _ B10, Y10.at 9⟩)) (fun hHeld => ?_)
      refine wpAnyH_take (i := 0) (v := ?_) rfl (by kernel_rfl) (by kernel_rfl) (by kernel_rfl) (fun _ _ _ h => h) (Or.inl ⟨by rfl, ?_⟩) (by assumption) ?_
      rotate_left
      · intro w hSw; (try dsimp only at hSw); go_simp <;> with_reducible rfl
      try simp only [Act.put, List.getElem_toArray, List.getElem_cons_zero, List.setIfInBounds_toArray, List.set_cons_zero, List.set_cons_succ]
      refine wpAnyH_take (i := 1) (v := ?_) rfl (by kernel_rfl) (by kernel_rfl) (by kernel_rfl) (fun _ _ _ h => h) (Or.inl ⟨by rfl, ?_⟩) (by assumption) ?_
      rotate_left
      · intro w hSw; (try dsimp only at hSw); go_simp <;> with_reducible rfl
      try simp only [Act.put, List.getElem_toArray, List.getElem_cons_succ, List.getElem_cons_zero, List.setIfInBounds_toArray, List.set_cons_zero, List.set_cons_succ]
      refine wpAnyH_take (i := 2) (v := ?_) rfl (by kernel_rfl) (by kernel_rfl) (by kernel_rfl) (fun _ _ _ h => h) (Or.inl ⟨by rfl, ?_⟩) (by assumption) ?_
      rotate_left
      · intro w hSw; (try dsimp only at hSw); go_simp <;> with_reducible rfl
      try simp only [Act.put, List.getElem_toArray, List.getElem_cons_succ, List.getElem_cons_zero, List.setIfInBounds_toArray, List.set_cons_zero, List.set_cons_succ]
      refine wpAnyH_take (i := 3) (v := ?_) rfl (by kernel_rfl) (by kernel_rfl) (by kernel_rfl) (fun _ _ _ h => h) (Or.inl ⟨by rfl, ?_⟩) (by assumption) ?_
      rotate_left
      · intro w hSw; (try dsimp only at hSw); go_simp <;> with_reducible rfl
      try simp only [Act.put, List.getElem_toArray, List.getElem_cons_succ, List.getElem_cons_zero, List.setIfInBounds_toArray, List.set_cons_zero, List.set_cons_succ]
      refine wpAnyH_take (i := 4) (v := ?_) rfl (by kernel_rfl) (by kernel_rfl) (by kernel_rfl) (fun _ _ _ h => h) (Or.inl ⟨by rfl, ?_⟩) (by assumption) ?_
      rotate_left
      · intro w hSw; (try dsimp only at hSw); go_simp <;> with_reducible rfl
      try simp only [Act.put, List.getElem_toArray, List.getElem_cons_succ, List.getElem_cons_zero, List.setIfInBounds_toArray, List.set_cons_zero, List.set_cons_succ]
      refine wpAnyH_take (i := 5) (v := ?_) rfl (by kernel_rfl) (by kernel_rfl) (by kernel_rfl) (fun _ _ _ h => h) (Or.inl ⟨by rfl, ?_⟩) (by assumption) ?_
      rotate_left
      · intro w hSw; (try dsimp only at hSw); go_simp <;> with_reducible rfl
      try simp only [Act.put, List.getElem_toArray, List.getElem_cons_succ, List.getElem_cons_zero, List.setIfInBounds_toArray, List.set_cons_zero, List.set_cons_succ]
      refine wpAnyH_take (i := 6) (v := ?_) rfl (by kernel_rfl) (by kernel_rfl) (by kernel_rfl) (fun _ _ _ h => h) (Or.inl ⟨by rfl, ?_⟩) (by assumption) ?_
      rotate_left
      · intro w hSw; (try dsimp only at hSw); go_simp <;> with_reducible rfl
      try simp only [Act.put, List.getElem_toArray, List.getElem_cons_succ, List.getElem_cons_zero, List.setIfInBounds_toArray, List.set_cons_zero, List.set_cons_succ]
      refine wpAnyH_take (i := 7) (v := ?_) rfl (by kernel_rfl) (by kernel_rfl) (by kernel_rfl) (fun _ _ _ h => h) (Or.inl ⟨by rfl, ?_⟩) (by assumption) ?_
      rotate_left
      · intro w hSw; (try dsimp only at hSw); go_simp <;> with_reducible rfl
      try simp only [Act.put, List.getElem_toArray, List.getElem_cons_succ, List.getElem_cons_zero, List.setIfInBounds_toArray, List.set_cons_zero, List.set_cons_succ]
      refine wpAnyH_take (i := 8) (v := ?_) rfl (by kernel_rfl) (by kernel_rfl) (by kernel_rfl) (fun _ _ _ h => h) (Or.inl ⟨by rfl, ?_⟩) (by assumption) ?_
      rotate_left
      · intro w hSw; (try dsimp only at hSw); go_simp <;> with_reducible rfl
      try simp only [Act.put, List.getElem_toArray, List.getElem_cons_succ, List.getElem_cons_zero, List.setIfInBounds_toArray, List.set_cons_zero, List.set_cons_succ]
      refine wpAnyH_take (i := 9) (v := ?_) rfl (by kernel_rfl) (by kernel_rfl) (by kernel_rfl) (fun _ _ _ h => h) (Or.inl ⟨by rfl, ?_⟩) (by assumption) ?_
      rotate_left
      · intro w hSw; (try dsimp only at hSw); go_simp <;> with_reducible rfl
      try simp only [Act.put, List.getElem_toArray, List.getElem_cons_succ, List.getElem_cons_zero, List.setIfInBounds_toArray, List.set_cons_zero, List.set_cons_succ]
      refine wpAnyH_take (i := 10) (v := ?_) rfl (by kernel_rfl) (by kernel_rfl) (by kernel_rfl) (fun _ _ _ h => h) (Or.inl ⟨by rfl, ?_⟩) (by assumption) ?_
      rotate_left
      · intro w hSw; (try dsimp only at hSw); go_simp <;> with_reducible rfl
      try simp only [Act.put, List.getElem_toArray, List.getElem_cons_succ, List.getElem_cons_zero, List.setIfInBounds_toArray, List.set_cons_zero, List.set_cons_succ]
      refine wpAnyH_take (i := 11) (v := ?_) rfl (by kernel_rfl) (by kernel_rfl) (by kernel_rfl) (fun _ _ _ h => h) (Or.inl ⟨by rfl, ?_⟩) (by assumption) ?_
      rotate_left
      · intro w hSw; (try dsimp only at hSw); go_simp <;> with_reducible rfl
      try simp only [Act.put, List.getElem_toArray, List.getElem_cons_succ, List.getElem_cons_zero, List.setIfInBounds_toArray, List.set_cons_zero, List.set_cons_succ]
      refine wpAnyH_take (i := 12) (v := ?_) rfl (by kernel_rfl) (by kernel_rfl) (by kernel_rfl) (fun _ _ _ h => h) (Or.inl ⟨by rfl, ?_⟩) (by assumption) ?_
      rotate_left
      · intro w hSw; (try dsimp only at hSw); go_simp <;> with_reducible rfl
      try simp only [Act.put, List.getElem_toArray, List.getElem_cons_succ, List.getElem_cons_zero, List.setIfInBounds_toArray, List.set_cons_zero, List.set_cons_succ]
      refine wpAnyH_take (i := 13) (v := ?_) rfl (by kernel_rfl) (by kernel_rfl) (by kernel_rfl) (fun _ _ _ h => h) (Or.inl ⟨by rfl, ?_⟩) (by assumption) ?_
      rotate_left
      · intro w hSw; (try dsimp only at hSw); go_simp <;> with_reducible rfl
      try simp only [Act.put, List.getElem_toArray, List.getElem_cons_succ, List.getElem_cons_zero, List.setIfInBounds_toArray, List.set_cons_zero, List.set_cons_succ]
      refine wpAnyH_take (i := 14) (v := ?_) rfl (by kernel_rfl) (by kernel_rfl) (by kernel_rfl) (fun _ _ _ h => h) (Or.inl ⟨by rfl, ?_⟩) (by assumption) ?_
      rotate_left
      · intro w hSw; (try dsimp only at hSw); go_simp <;> with_reducible rfl
      try simp only [Act.put, List.getElem_toArray, List.getElem_cons_succ, List.getElem_cons_zero, List.setIfInBounds_toArray, List.set_cons_zero, List.set_cons_succ]
      refine wpAnyH_take (i := 15) (v := ?_) rfl (by kernel_rfl) (by kernel_rfl) (by kernel_rfl) (fun _ _ _ h => h) (Or.inl ⟨by rfl, ?_⟩) (by assumption) ?_
      rotate_left
      · intro w hSw; (try dsimp only at hSw); go_simp <;> with_reducible rfl
      try simp only [Act.put, List.getElem_toArray, List.getElem_cons_succ, List.getElem_cons_zero, List.setIfInBounds_toArray, List.set_cons_zero, List.set_cons_succ]
      refine wpAnyH_ready (rs := [16]) (by kernel_rfl) (by simp) ?_
      refine AllReadyH.cons rfl (fun K hK => ?_) AllReadyH.nil
      go_simp
      ((go_at_call 29; (with_reducible refine (S1.out _ B9d).mono ?_); rintro e w10 ⟨rfl, hb10⟩; have B10 := B9d.trans (hb10.mono B9d.size); have P10 := P9d.keep hb10 P9d.lt; have Q10 := Q9d.keep hb10 Q9d.lt; have Y10 := Y9d.keep hb10 Y9d.lt))
      dsimp only
      refine hK.out _ _ ?_ (fun hHeld => ?_)
      · (try dsimp only); (first | exact ⟨run_loadVeil HO.out P9d, run_loadVeil HO.out Q9d, CV.out _ B9d, Y9d.at 9⟩ | exact ⟨run_loadVeil HO.out P10, run_loadVeil HO.out Q10, CV.out _ B10, Y10.at 9⟩)
      clear hK K
      try simp only [Act.put, List.getElem_toArray, List.getElem_cons_succ, List.getElem_cons_zero, List.setIfInBounds_toArray, List.set_cons_zero, List.set_cons_succ]
      refine wpAnyH_take (i := 17) (v := ?_) rfl (by kernel_rfl) (by kernel_rfl) (by kernel_rfl) (fun _ _ _ h => h) (Or.inl ⟨by rfl, ?_⟩) (by assumption) ?_
      rotate_left
      · intro w hSw; (try dsimp only at hSw); go_simp <;> with_reducible rfl
      try simp only [Act.put, List.getElem_toArray, List.getElem_cons_succ, List.getElem_cons_zero, List.setIfInBounds_toArray, List.set_cons_zero, List.set_cons_succ]
      refine wpAnyH_take (i := 18) (v := ?_) rfl (by kernel_rfl) (by kernel_rfl) (by kernel_rfl) (fun _ _ _ h => h) (Or.inl ⟨by rfl, ?_⟩) (by assumption) ?_
      rotate_left
      · intro w hSw; (try dsimp only at hSw); go_simp <;> with_reducible rfl
      try simp only [Act.put, List.getElem_toArray, List.getElem_cons_succ, List.getElem_cons_zero, List.setIfInBounds_toArray, List.set_cons_zero, List.set_cons_succ]
      refine wpAnyH_take (i := 19) (v := ?_) rfl (by kernel_rfl) (by kernel_rfl) (by kernel_rfl) (fun _ _ _ h => h) (Or.inl ⟨by rfl, ?_⟩) (by assumption) ?_
      rotate_left
      · intro w hSw; (try dsimp only at hSw); go_simp <;> with_reducible rfl
      try simp only [Act.put, List.getElem_toArray, List.getElem_cons_succ, List.getElem_cons_zero, List.setIfInBounds_toArray, List.set_cons_zero, List.set_cons_succ]
      refine wpAnyH_take (i := 20) (v := ?_) rfl (by kernel_rfl) (by kernel_rfl) (by kernel_rfl) (fun _ _ _ h => h) (Or.inl ⟨by rfl, ?_⟩) (by assumption) ?_
      rotate_left
      · intro w hSw; (try dsimp only at hSw); go_simp <;> with_reducible rfl
      try simp only [Act.put, List.getElem_toArray, List.getElem_cons_succ, List.getElem_cons_zero, List.setIfInBounds_toArray, List.set_cons_zero, List.set_cons_succ]
      refine wpAnyH_take (i := 21) (v := ?_) rfl (by kernel_rfl) (by kernel_rfl) (by kernel_rfl) (fun _ _ _ h => h) (Or.inl ⟨by rfl, ?_⟩) (by assumption) ?_
      rotate_left
      · intro w hSw; (try dsimp only at hSw); go_simp <;> with_reducible rfl
      try simp only [Act.put, List.getElem_toArray, List.getElem_cons_succ, List.getElem_cons_zero, List.setIfInBounds_toArray, List.set_cons_zero, List.set_cons_succ]
      refine wpAnyH_take (i := 22) (v := ?_) rfl (by kernel_rfl) (by kernel_rfl) (by kernel_rfl) (fun _ _ _ h => h) (Or.inl ⟨by rfl, ?_⟩) (by assumption) ?_
      rotate_left
      · intro w hSw; (try dsimp only at hSw); go_simp <;> with_reducible rfl
      try simp only [Act.put, List.getElem_toArray, List.getElem_cons_succ, List.getElem_cons_zero, List.setIfInBounds_toArray, List.set_cons_zero, List.set_cons_succ]
      refine wpAnyH_take (i := 23) (v := ?_) rfl (by kernel_rfl) (by kernel_rfl) (by kernel_rfl) (fun _ _ _ h => h) (Or.inl ⟨by rfl, ?_⟩) (by assumption) ?_
      rotate_left
      · intro w hSw; (try dsimp only at hSw); go_simp <;> with_reducible rfl
      try simp only [Act.put, List.getElem_toArray, List.getElem_cons_succ, List.getElem_cons_zero, List.setIfInBounds_toArray, List.set_cons_zero, List.set_cons_succ]
      refine wpAnyH_take (i := 24) (v := ?_) rfl (by kernel_rfl) (by kernel_rfl) (by kernel_rfl) (fun _ _ _ h => h) (Or.inl ⟨by rfl, ?_⟩) (by assumption) ?_
      rotate_left
      · intro w hSw; (try dsimp only at hSw); go_simp <;> with_reducible rfl
      try simp only [Act.put, List.getElem_toArray, List.getElem_cons_succ, List.getElem_cons_zero, List.setIfInBounds_toArray, List.set_cons_zero, List.set_cons_succ]
      refine wpAnyH_take (i := 25) (v := ?_) rfl (by kernel_rfl) (by kernel_rfl) (by kernel_rfl) (fun _ _ _ h => h) (Or.inl ⟨by rfl, ?_⟩) (by assumption) ?_
      rotate_left
      · intro w hSw; (try dsimp only at hSw); go_simp <;> with_reducible rfl
      try simp only [Act.put, List.getElem_toArray, List.getElem_cons_succ, List.getElem_cons_zero, List.setIfInBounds_toArray, List.set_cons_zero, List.set_cons_succ]
      refine wpAnyH_take (i := 26) (v := ?_) rfl (by kernel_rfl) (by kernel_rfl) (by kernel_rfl) (fun _ _ _ h => h) (Or.inl ⟨by rfl, ?_⟩) (by assumption) ?_
      rotate_left
      · intro w hSw; (try dsimp only at hSw); go_simp <;> with_reducible rfl
      try simp only [Act.put, List.getElem_toArray, List.getElem_cons_succ, List.getElem_cons_zero, List.setIfInBounds_toArray, List.set_cons_zero, List.set_cons_succ]
      refine wpAnyH_take (i := 27) (v := ?_) rfl (by kernel_rfl) (by kernel_rfl) (by kernel_rfl) (fun _ _ _ h => h) (Or.inl ⟨by rfl, ?_⟩) (by assumption) ?_
      rotate_left
      · intro w hSw; (try dsimp only at hSw); go_simp <;> with_reducible rfl
      try simp only [Act.put, List.getElem_toArray, List.getElem_cons_succ, List.getElem_cons_zero, List.setIfInBounds_toArray, List.set_cons_zero, List.set_cons_succ]
      refine wpAnyH_take (i := 28) (v := ?_) rfl (by kernel_rfl) (by kernel_rfl) (by kernel_rfl) (fun _ _ _ h => h) (Or.inl ⟨by rfl, ?_⟩) (by assumption) ?_
      rotate_left
      · intro w hSw; (try dsimp only at hSw); go_simp <;> with_reducible rfl
      try simp only [Act.put, List.getElem_toArray, List.getElem_cons_succ, List.getElem_cons_zero, List.setIfInBounds_toArray, List.set_cons_zero, List.set_cons_succ]
      refine wpAnyH_take (i := 29) (v := ?_) rfl (by kernel_rfl) (by kernel_rfl) (by kernel_rfl) (fun _ _ _ h => h) (Or.inl ⟨by rfl, ?_⟩) (by assumption) ?_
      rotate_left
      · intro w hSw; (try dsimp only at hSw); go_simp <;> with_reducible rfl
      try simp only [Act.put, List.getElem_toArray, List.getElem_cons_succ, List.getElem_cons_zero, List.setIfInBounds_toArray, List.set_cons_zero, List.set_cons_succ]
      refine wpAnyH_take (i := 30) (v := ?_) rfl (by kernel_rfl) (by kernel_rfl) (by kernel_rfl) (fun _ _ _ h => h) (Or.inl ⟨by rfl, ?_⟩) (by assumption) ?_
      rotate_left
      · intro w hSw; (try dsimp only at hSw); go_simp <;> with_reducible rfl
      try simp only [Act.put, List.getElem_toArray, List.getElem_cons_succ, List.getElem_cons_zero, List.setIfInBounds_toArray, List.set_cons_zero, List.set_cons_succ]
      refine wpAnyH_take (i := 31) (v := ?_) rfl (by kernel_rfl) (by kernel_rfl) (by kernel_rfl) (fun _ _ _ h => h) (Or.inl ⟨by rfl, ?_⟩) (by assumption) ?_
      rotate_left
      · intro w hSw; (try dsimp only at hSw); go_simp <;> with_reducible rfl
      try simp only [Act.put, List.getElem_toArray, List.getElem_cons_succ, List.getElem_cons_zero, List.setIfInBounds_toArray, List.set_cons_zero, List.set_cons_succ]
      refine wpAnyH_take (i := 32) (v := ?_) rfl (by kernel_rfl) (by kernel_rfl) (by kernel_rfl) (fun _ _ _ h => h) (Or.inl ⟨by rfl, ?_⟩) (by assumption) ?_
      rotate_left
      · intro w hSw; (try dsimp only at hSw); go_simp <;> with_reducible rfl
      try simp only [Act.put, List.getElem_toArray, List.getElem_cons_succ, List.getElem_cons_zero, List.setIfInBounds_toArray, List.set_cons_zero, List.set_cons_succ]
      refine wpAnyH_take (i := 33) (v := ?_) rfl (by kernel_rfl) (by kernel_rfl) (by kernel_rfl) (fun _ _ _ h => h) (Or.inl ⟨by rfl, ?_⟩) (by assumption) ?_
      rotate_left
      · intro w hSw; (try dsimp only at hSw); go_simp <;> with_reducible rfl
      try simp only [Act.put, List.getElem_toArray, List.getElem_cons_succ, List.getElem_cons_zero, List.setIfInBounds_toArray, List.set_cons_zero, List.set_cons_succ]
      refine wpAnyH_take (i := 34) (v := ?_) rfl (by kernel_rfl) (by kernel_rfl) (by kernel_rfl) (fun _ _ _ h => h) (Or.inl ⟨by rfl, ?_⟩) (by assumption) ?_
      rotate_left
      · intro w hSw; (try dsimp only at hSw); go_simp <;> with_reducible rfl
      try simp only [Act.put, List.getElem_toArray, List.getElem_cons_succ, List.getElem_cons_zero, List.setIfInBounds_toArray, List.set_cons_zero, List.set_cons_succ]
      refine wpAnyH_take (i := 35) (v := ?_) rfl (by kernel_rfl) (by kernel_rfl) (by kernel_rfl) (fun _ _ _ h => h) (Or.inl ⟨by rfl, ?_⟩) (by assumption) ?_
      rotate_left
      · intro w hSw; (try dsimp only at hSw); go_simp <;> with_reducible rfl
      try simp only [Act.put, List.getElem_toArray, List.getElem_cons_succ, List.getElem_cons_zero, List.setIfInBounds_toArray, List.set_cons_zero, List.set_cons_succ]
      refine wpAnyH_take (i := 36) (v := ?_) rfl (by kernel_rfl) (by kernel_rfl) (by kernel_rfl) (fun _ _ _ h => h) (Or.inl ⟨by rfl, ?_⟩) (by assumption) ?_
      rotate_left
      · intro w hSw; (try dsimp only at hSw); go_simp <;> with_reducible rfl
      try simp only [Act.put, List.getElem_toArray, List.getElem_cons_succ, List.getElem_cons_zero, List.setIfInBounds_toArray, List.set_cons_zero, List.set_cons_succ]
      refine wpAnyH_take (i := 37) (v := ?_) rfl (by kernel_rfl) (by kernel_rfl) (by kernel_rfl) (fun _ _ _ h => h) (Or.inl ⟨by rfl, ?_⟩) (by assumption) ?_
      rotate_left
      · intro w hSw; (try dsimp only at hSw); go_simp <;> with_reducible rfl
      try simp only [Act.put, List.getElem_toArray, List.getElem_cons_succ, List.getElem_cons_zero, List.setIfInBounds_toArray, List.set_cons_zero, List.set_cons_succ]
      refine wpAnyH_take (i := 38) (v := ?_) rfl (by kernel_rfl) (by kernel_rfl) (by kernel_rfl) (fun _ _ _ h => h) (Or.inl ⟨by rfl, ?_⟩) (by assumption) ?_
      rotate_left
      · intro w hSw; (try dsimp only at hSw); go_simp <;> with_reducible rfl
      try simp only [Act.put, List.getElem_toArray, List.getElem_cons_succ, List.getElem_cons_zero, List.setIfInBounds_toArray, List.set_cons_zero, List.set_cons_succ]
      refine wpAnyH_done (by kernel_rfl) ?_ _
      refine NoPanic.normal ?_
      go_wp2
      go_ret
      exact ⟨rfl, B10⟩
end Go.Proofs.YtppaffamlfghjaaDoor
