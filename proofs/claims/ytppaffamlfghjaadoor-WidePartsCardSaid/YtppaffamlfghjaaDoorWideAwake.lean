/-
  The statements' head: calls whose answers the document fixes.
-/
import Derived.Test.YtppaffamlfghjaaDoorWideEq
import Derived.Lib.SlBytesConst
namespace Go.Proofs.YtppaffamlfghjaaDoor
open Go.RowKit

theorem Sees.lit (w : World) (C : Array Value) (t : TypeId) (fr : Nat × Nat) (l : List UInt8) (n : Nat) (hC : C.toList = l.map bv) (hn : l.length = n) (hm : n ≤ 2147483647) :
    Sees (w.alloc (.cells C t fr)) (w.heap.size + 1) (some ⟨w.heap.size, 0, none⟩) n n (l.map bv) :=
  ⟨by rw [List.length_map, hn], Nat.le_refl _, by simp only [maxLen]; omega, (fun h => by cases h), fun _ => ⟨w.heap.size, 0, rfl, by omega, fun j u hu => by
    rw [Nat.zero_add, World.cell?_alloc_mark, ← Array.getElem?_toList, hC]; exact hu⟩⟩

theorem load_veil (a : Addr) : loadVar 48 a = loadVeil 48 a := rfl
theorem run_loadVeil {w : World} {g : Nat} {l : List UInt8} (hl : l.length = 64) (hg : HoldsB w 48 g l) : (loadVeil 48 ⟨g, 0, none⟩).run Tryd.prog w = .ok (.agg (l.map bv).toArray) w :=
  run_loadVar_row w g 48 48 _ (0, 0) _ hg Tryd.underlying48 rfl (by rw [Tryd.infoB32, (b_cells l hl).1])

theorem HoldsB.trans' {w w' : World} {ty g g' : Nat} {l : List UInt8} (h : HoldsB w ty g l) (ho : ∀ k, k ≠ g' → w'.heap[k]? = w.heap[k]?) (hn : g ≠ g') : HoldsB w' ty g l := (ho g hn).trans h

/-- The sum of 'abc'. -/
theorem abc_bytes : ((sumOf [97, 98, 99]).getD 0 0 = 221 ∧ (sumOf [97, 98, 99]).getD 1 0 = 175 ∧ (sumOf [97, 98, 99]).getD 63 0 = 159) := by decide +kernel

theorem abc_parts : sumOf [97, 98, 99] = endOf st0 [97, 98, 99] 3 := by
  unfold sumOf
  rw [absorb_short st0 (by decide), left_short (by decide)]
  rfl
theorem sumOf_length (b : List UInt8) : (sumOf b).length = 64 := by unfold sumOf endOf; exact out64_length _

attribute [local go_sem ↓] load_veil

set_option maxRecDepth 100000 in
set_option maxHeartbeats 1000000 in
theorem awake_any (w : World) (L : Laid w) : Calls Tryd.prog 21 #[] w fun e w' => e = .returned (.bool true) ∧ Below w.heap.size w w' := by
  have kc := fun (w : World) (C : Array Value) (n c : Nat) => Lib.run_convert_bytes_const (P := Tryd.prog) w 24 5 C n c Tryd.underlying24 Tryd.underlying5
  have lsz := L.size
  go_enter Tryd.func21, Tryd.ntmps21
  go_wp2_with fail
  refine (Sum_any _ _ _ _ [97, 98, 99] _ (Sees.lit w _ _ _ [97, 98, 99] 3 rfl rfl (by omega)) (by simp) (by omega) (L.keep ((Below.refl _ w).alloc (Nat.le_refl _) _) lsz)).mono ?_
  rintro e w1 ⟨rfl, hb1⟩
  have B1 : Below w.heap.size w w1 := ((Below.refl _ w).alloc (Nat.le_refl _) _).trans (hb1.mono (by simp))
  clear hb1
  have z1 := s_start w1
  have B1a := B1.alloc B1.size (.cells ((List.replicate 64 (0 : UInt8)).map bv).toArray 48)
  have hl := sumOf_length [97, 98, 99]
  obtain ⟨hs0, hs1, hs63⟩ := abc_bytes
  have habc := Lib.hid abc_parts
  generalize sumOf [97, 98, 99] = out at *
  have HL := Lib.hid hl
  go_wp2_with (first
    | (with_reducible refine wpList_store_b rfl 48 (.tmp 1) (.tmp 11) rfl w1.heap.size out HL.out rfl rfl (List.replicate 64 0) (by with_unfolding_all exact z1) Tryd.infoB32 (by simp) w.heap.size w (by with_unfolding_all exact B1a) B1.size ?_
       intro w2 G2 o2 s2 B2)
    | fail)
  have hm1 : ∀ W B A c (_ : Sees W B A 2 c (([97, 98] : List UInt8).map bv)) (_ : B ≤ W.heap.size) (_ : Laid W), Calls Tryd.prog 22 #[hv st0 none 0 0 0, .slice A 2 c] W (GaveM W st0 2 [97, 98] 2 0) := fun W B A c hs hB hL => by
    have := More_ok none A 0 0 2 c 0 B 2 [] [97, 98] st0 W Sees.none_ hs hB (by omega) (by rfl) (by omega) (by decide) hL
    rwa [List.nil_append, absorb_short st0 (by decide), left_short (by decide)] at this
  have hm2 : ∀ W B A c A' c' (_ : Sees W B A 2 c (([97, 98] : List UInt8).map bv)) (_ : Sees W B A' 1 c' (([99] : List UInt8).map bv)) (_ : B ≤ W.heap.size) (_ : Laid W), Calls Tryd.prog 22 #[hv st0 A 2 c 2, .slice A' 1 c'] W (GaveM W st0 3 [97, 98, 99] 3 0) := fun W B A c A' c' hs hs' hB hL => by
    have := More_ok A A' 2 c 1 c' 2 B 3 [97, 98] [99] st0 W hs hs' hB (by omega) (by rfl) (by omega) (by decide) hL
    rwa [show ([97, 98] ++ [99] : List UInt8) = [97, 98, 99] from rfl, absorb_short st0 (by decide), left_short (by decide)] at this
  have he : ∀ W A c (_ : Sees W W.heap.size A 3 c (([97, 98, 99] : List UInt8).map bv)) (_ : Laid W), Calls Tryd.prog 24 #[hv st0 A 3 c 3] W (GaveE W out 0) := fun W A c hs hL => by
    rw [habc.out]
    exact End_ok A 3 c 3 W.heap.size [97, 98, 99] st0 W hs (Nat.le_refl _) (by omega) (by rfl) (by omega) hL
  have he1 : ∀ W, Calls Tryd.prog 24 #[hv sz none 0 0 1] W (GaveE W (List.replicate 64 0) 1) := fun W => End_bad none 0 0 1 sz W (by omega) (by rfl)
  have ga2 := G2.lt
  clear z1 B1a o2 s2 hl habc
  refine (Begin_any _ (L.keep B2 lsz)).mono ?_
  rintro e w3 ⟨rfl, hb3⟩
  have G3 := G2.keep hb3 G2.lt
  have B3 := B2.trans (hb3.mono B2.size)
  clear hb3 G2 B2
  go_wp2_with fail
  refine (hm1 _ (w3.heap.size + 1) _ _ (Sees.lit w3 _ _ _ [97, 98] 2 rfl rfl (by omega)) (by simp) (L.keep (B3.alloc B3.size _) lsz)).mono ?_
  rintro e w4 ⟨A4, c4, rfl, hs4, hb4⟩
  have hb4' : Below w3.heap.size w3 w4 := ((Below.refl _ w3).alloc (Nat.le_refl _) _).trans (hb4.mono (by simp))
  have G4 := G3.keep hb4' G3.lt
  have B4 := B3.trans (hb4'.mono B3.size)
  clear hb4 hb4' G3 B3
  have z4 := hx_start w4
  have B4a := B4.alloc B4.size (.cells #[.int .u64 0, .int .u64 0, .int .u64 0, .int .u64 0, .int .u64 0, .int .u64 0, .int .u64 0, .int .u64 0, .slice none 0 0, .int .u64 0] 45)
  have G4a := G4.alloc (.cells #[.int .u64 0, .int .u64 0, .int .u64 0, .int .u64 0, .int .u64 0, .int .u64 0, .int .u64 0, .int .u64 0, .slice none 0 0, .int .u64 0] 45)
  have g4 := G4.lt
  go_wp2_with (first
    | (with_reducible refine wpList_store_h rfl (.tmp 2) (.tmp 17) rfl w4.heap.size st0 A4 2 c4 2 rfl rfl sz none 0 0 0 (by with_unfolding_all exact z4) Tryd.infoH w.heap.size w (by with_unfolding_all exact B4a) B4.size ?_
       intro w5 H5 o5 s5 B5
       have G5 : HoldsB w5 48 w1.heap.size out := (o5 _ (by omega)).trans (by with_unfolding_all exact G4a)
       clear s5)
    | (with_reducible refine wpList_load_h rfl (.tmp 2) rfl w4.heap.size rfl st0 A4 2 c4 2 H5 Tryd.underlying45 Tryd.infoH ?_)
    | fail)
  have g5 := H5.lt
  have hS5 := (hs4.imp (Y := fun b => b ≠ w4.heap.size) (fun b hb _ => Nat.ne_of_lt hb)).keep (Nat.le_of_lt g5) (fun b hb hx => (o5 b hx).trans (heap_alloc_other w4 _ hb))
  clear z4 B4a G4a G4 hs4 o5
  refine (hm2 _ (w5.heap.size + 1) _ _ _ _ ((hS5.1.alloc (Nat.le_refl _) _).more (Nat.le_succ _)) (Sees.lit w5 _ _ _ [99] 1 rfl rfl (by omega)) (by simp) (L.keep (B5.alloc B5.size _) lsz)).mono ?_
  rintro e w6 ⟨A6, c6, rfl, hs6, hb6⟩
  have hb6' : Below w5.heap.size w5 w6 := ((Below.refl _ w5).alloc (Nat.le_refl _) _).trans (hb6.mono (by simp))
  have G6 := G5.keep hb6' G5.lt
  have H6 := H5.keep hb6' H5.lt
  have B6 := B5.trans (hb6'.mono B5.size)
  have hS6 := hs6.imp (Y := fun b => b ≠ w4.heap.size) (fun b _ hx => by rw [World.size_alloc] at hx; omega)
  clear hb6 hb6' G5 H5 B5 hS5 hs6
  go_wp2_with (first
    | (with_reducible refine wpList_store_h rfl (.tmp 2) (.tmp 24) rfl w4.heap.size st0 A6 3 c6 3 rfl rfl _ _ _ _ _ H6 Tryd.infoH w.heap.size w B6 B4.size ?_
       intro w7 H7 o7 s7 B7
       have G7 := G6.trans' o7 (show w1.heap.size ≠ w4.heap.size by omega)
       have hS7 := hS6.keep (Nat.le_of_eq s7.symm) (fun b _ hx => o7 b hx)
       clear s7 o7)
    | (with_reducible refine wpList_load_h rfl (.tmp 2) rfl w4.heap.size rfl st0 A6 3 c6 3 H7 Tryd.underlying45 Tryd.infoH ?_)
    | fail)
  refine (he _ _ _ hS7.1 (L.keep B7 lsz)).mono ?_
  rintro e w8 ⟨rfl, hb8⟩
  have G8 := G7.keep hb8 G7.lt
  have H8 := H7.keep hb8 H7.lt
  have B8 := B7.trans (hb8.mono B7.size)
  clear hb8 G7 H7 B7 hS7 hS6 G6 H6 B6
  have z8 := s_start w8
  have B8a := B8.alloc B8.size (.cells ((List.replicate 64 (0 : UInt8)).map bv).toArray 48)
  have G8a := G8.alloc (.cells ((List.replicate 64 (0 : UInt8)).map bv).toArray 48)
  have H8a := H8.alloc (.cells ((List.replicate 64 (0 : UInt8)).map bv).toArray 48)
  have g8 := G8.lt
  have h8 := H8.lt
  go_wp2_with (first
    | (with_reducible refine wpList_store_b rfl 48 (.tmp 5) (.tmp 29) rfl w8.heap.size out HL.out rfl rfl (List.replicate 64 0) (by with_unfolding_all exact z8) Tryd.infoB32 (by simp) w.heap.size w (by with_unfolding_all exact B8a) B8.size ?_
       intro w9 K9 o9 s9 B9
       have G9 : HoldsB w9 48 w1.heap.size out := (o9 _ (by omega)).trans (by with_unfolding_all exact G8a)
       have H9 : HoldsH w9 w4.heap.size st0 A6 3 c6 3 := (o9 _ (by omega)).trans (by with_unfolding_all exact H8a)
       clear o9 s9)
    | fail)
  clear z8 B8a G8a H8a G8 H8
  refine (he1 _).mono ?_
  rintro e w10 ⟨rfl, hb10⟩
  have G10 := G9.keep hb10 G9.lt
  have H10 := H9.keep hb10 H9.lt
  have K10 := K9.keep hb10 K9.lt
  have B10 := B9.trans (hb10.mono B9.size)
  clear hb10 G9 H9 K9 B9
  have z10 := s_start w10
  have B10a := B10.alloc B10.size (.cells ((List.replicate 64 (0 : UInt8)).map bv).toArray 48)
  have G10a := G10.alloc (.cells ((List.replicate 64 (0 : UInt8)).map bv).toArray 48)
  have H10a := H10.alloc (.cells ((List.replicate 64 (0 : UInt8)).map bv).toArray 48)
  have K10a := K10.alloc (.cells ((List.replicate 64 (0 : UInt8)).map bv).toArray 48)
  have g10 := G10.lt
  have h10 := H10.lt
  have k10 := K10.lt
  have q1 := fun W => run_eql_b32 out W HL.out
  have q2 := fun x y a b W => run_guard_b32 x y a b W
  go_wp2_with (first
    | (with_reducible refine wpList_store_b rfl 48 (.tmp 7) (.tmp 34) rfl w10.heap.size (List.replicate 64 0) (by simp) rfl rfl (List.replicate 64 0) (by with_unfolding_all exact z10) Tryd.infoB32 (by simp) w.heap.size w (by with_unfolding_all exact B10a) B10.size ?_
       intro w11 _ o11 s11 B11
       have G11 : HoldsB w11 48 w1.heap.size out := (o11 _ (by omega)).trans (by with_unfolding_all exact G10a)
       have H11 : HoldsH w11 w4.heap.size st0 A6 3 c6 3 := (o11 _ (by omega)).trans (by with_unfolding_all exact H10a)
       have K11 : HoldsB w11 48 w8.heap.size out := (o11 _ (by omega)).trans (by with_unfolding_all exact K10a)
       clear o11 s11
       have x0 := G11.cell (j := 0) (by rw [HL.out]; omega)
       have x1 := G11.cell (j := 1) (by rw [HL.out]; omega)
       have x63 := G11.cell (j := 63) (by rw [HL.out]; omega)
       rw [hs0] at x0
       rw [hs1] at x1
       rw [hs63] at x63
       have y9 : w11.cell? ⟨w4.heap.size, 9, none⟩ = some (.int .u64 3) := H11.at 9
       have v1 := run_loadVeil HL.out G11
       have v2 := run_loadVeil HL.out K11)
    | fail)
  go_ret
  exact ⟨rfl, B11⟩
end Go.Proofs.YtppaffamlfghjaaDoor
