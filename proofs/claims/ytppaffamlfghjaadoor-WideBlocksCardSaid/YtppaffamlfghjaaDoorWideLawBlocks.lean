/-
  WideBlocks: a text's rest is its last bytes, and a state goes on as the text does that made it. For every input.
-/
import Derived.Test.YtppaffamlfghjaaDoorWideLawTells
import Derived.Test.YtppaffamlfghjaaDoorWideText
import Derived.StillTailTactics
namespace Go.Proofs.YtppaffamlfghjaaDoor
open Go.RowKit

attribute [local go_sem ↓] load_veil load_veilH

set_option maxRecDepth 100000 in
set_option maxHeartbeats 1000000 in
theorem WideBlocks_big (A A2 : Option Addr) (n c n2 c2 : Nat) (w : World) (hb : 500 < n ∨ 500 < n2) (L : Laid w) :
    Calls Tryd.prog 9 #[.slice A n c, .slice A2 n2 c2] w (Yes w) := by
  have B0 := Below.refl w.heap.size w
  have AW : Hid (∀ W, Below w.heap.size w W → Calls Tryd.prog 21 #[] W (Yes W)) := Lib.hid fun W hW => awake_any W (L.keep hW L.size)
  rcases Nat.lt_or_ge 500 n with h1 | h1
  · have h1' : (500 : Int) < n := by omega
    go_enter Tryd.func9, Tryd.ntmps9
    go_wp2_with (go_at_call 21
                 refine (AW.out _ B0).mono ?_
                 rintro e w1 ⟨rfl, hb1⟩)
    go_ret
    exact ⟨rfl, hb1⟩
  · have h1' : ¬ (500 : Int) < n := by omega
    have h2' : (500 : Int) < n2 := by omega
    go_enter Tryd.func9, Tryd.ntmps9
    go_wp2_with (go_at_call 21
                 refine (AW.out _ B0).mono ?_
                 rintro e w1 ⟨rfl, hb1⟩)
    go_ret
    exact ⟨rfl, hb1⟩

set_option maxRecDepth 100000 in
set_option maxHeartbeats 2000000 in
theorem WideBlocks_small (A A2 : Option Addr) (n c n2 c2 B : Nat) (a b : List UInt8) (w : World) (h : Sees w B A n c (a.map bv)) (h2 : Sees w B A2 n2 c2 (b.map bv)) (hB : B ≤ w.heap.size) (hn : n ≤ 500) (hn2 : n2 ≤ 500) (L : Laid w) :
    Calls Tryd.prog 9 #[.slice A n c, .slice A2 n2 c2] w (Yes w) := by
  obtain ⟨i0, hi0, hz0, hz1, hz2⟩ := info_parts Tryd.infoU8
  have hla : a.length = n := by have := h.len; simpa using this
  have hlb : b.length = n2 := by have := h2.len; simpa using this
  have hlab : (a ++ b).length = n + n2 := by rw [List.length_append, hla, hlb]
  obtain ⟨N, hN⟩ : ∃ N, (left a).length = N := ⟨_, rfl⟩
  obtain ⟨N', hN'⟩ : ∃ N', (left (a ++ b)).length = N' := ⟨_, rfl⟩
  have hNv : Hid (N = n % 128) := Lib.hid (by rw [← hN, left_length, hla])
  have AW : Hid (∀ W, Below w.heap.size w W → Calls Tryd.prog 21 #[] W (Yes W)) := Lib.hid fun W hW => awake_any W (L.keep hW L.size)
  have G1 : Hid (∀ W, Below w.heap.size w W → Calls Tryd.prog 27 #[] W fun e w' => e = .returned (hv st0 none 0 0 0) ∧ Below W.heap.size W w') := Lib.hid fun W hW => Begin_any W (L.keep hW L.size)
  have M0 : Hid (∀ W, Below w.heap.size w W → Calls Tryd.prog 22 #[hv st0 none 0 0 0, .slice A n c] W (GaveM W (absorb st0 a) N (left a) n 0)) := Lib.hid fun W hW => by
    have := More_text [] a none A 0 0 n c 0 N n B W (by rw [left_nil]; rfl) rfl hla hN hla (by omega) (by rw [left_nil]; exact Sees.none_) (h.upTo hW hB) (Nat.le_trans hB hW.size) (L.keep hW L.size)
    rwa [absorb_nil] at this
  have M1 : Hid (∀ W A3 c3, Below w.heap.size w W → Sees W W.heap.size A3 N c3 ((left a).map bv) → Calls Tryd.prog 22 #[hv (absorb st0 a) A3 N c3 n, .slice A2 n2 c2] W (GaveM W (absorb st0 (a ++ b)) N' (left (a ++ b)) (n + n2) 0)) := Lib.hid fun W A3 c3 hW hs =>
    More_text a b A3 A2 N c3 n2 c2 n N' (n + n2) W.heap.size W hN hla hlb hN' hlab (by omega) hs ((h2.upTo hW hB).more (Nat.le_trans hB hW.size)) (Nat.le_refl _) (L.keep hW L.size)
  have M2 : Hid (∀ W A3 c3, Below w.heap.size w W → Sees W W.heap.size A3 (n + n2) c3 ((a ++ b).map bv) → Calls Tryd.prog 22 #[hv st0 none 0 0 0, .slice A3 (n + n2) c3] W (GaveM W (absorb st0 (a ++ b)) N' (left (a ++ b)) (n + n2) 0)) := Lib.hid fun W A3 c3 hW hs => by
    have := More_text [] (a ++ b) none A3 0 0 (n + n2) c3 0 N' (n + n2) W.heap.size W (by rw [left_nil]; rfl) rfl hlab hN' hlab (by omega) (by rw [left_nil]; exact Sees.none_) hs (Nat.le_refl _) (L.keep hW L.size)
    rwa [absorb_nil] at this
  have hrest : Hid (a.drop (n - n % 128) = left a) := Lib.hid (by unfold left; rw [hla]; congr 1; omega)
  obtain ⟨k, hk⟩ : ∃ k, k = n - n % 128 := ⟨_, rfl⟩
  have Hk := Lib.hid hk
  have hkn : k ≤ n := by omega
  have hkw : IntKind.i64.wrap ((n : Int) - (n : Int) % 128) = (k : Int) := by rw [IntKind.wrap_i64]; omega
  rw [← hk] at hrest
  have hd := h.drop hkn
  rw [← List.map_drop, hrest.out] at hd
  have hkl : Hid (n - k = N) := Lib.hid (by rw [hNv.out, hk]; omega)
  clear hk
  have h1' : ¬ (500 : Int) < n := by omega
  have h2' : ¬ (500 : Int) < n2 := by omega
  generalize absorb st0 (a ++ b) = sb at *
  generalize absorb st0 a = sa at *
  generalize hra : left a = ra at *
  generalize hrb : left (a ++ b) = rb at *
  clear hra hrb hN hN'
  have B0 := Below.refl w.heap.size w
  go_enter Tryd.func9, Tryd.ntmps9
  go_wp2_with (first
    | (go_at_call 21
       refine (AW.out _ B0).mono ?_
       rintro e w1 ⟨rfl, hb1⟩
       have B1 := B0.trans (hb1.mono B0.size)
       clear hb1)
    | (go_at_call 27
       refine (G1.out w6 B6).mono ?_
       rintro e w7 ⟨rfl, hb7⟩
       have lw7 := hb7.size
       have B7 := B6.trans (hb7.mono B6.size)
       have X7 := X6.keep hb7 X6.lt
       have Y7 := Y6.keep hb7 Y6.lt
       have hs4 := hs4.upTo hb7 (by omega)
       have hs6 := hs6.upTo hb7 (by omega)
       clear hb7)
    | (go_at_call 27
       refine (G1.out w1 B1).mono ?_
       rintro e w2 ⟨rfl, hb2⟩
       have B2 := B1.trans (hb2.mono B1.size)
       clear hb2)
    | (go_at_call 22
       with_reducible refine (M1.out w4 A3 c3 B4 (hs4.more (by omega))).mono ?_
       rintro e w5 ⟨A5, c5, rfl, hsi5, hb5⟩
       have hs5 := hsi5.1
       have B5 := B4.trans (hb5.mono B4.size)
       have X5 := X4.keep hb5 X4.lt
       have hs4 := hs4.upTo hb5 (by omega)
       have z5 := hx_start w5
       have B5a := B5.alloc B5.size (.cells #[.int .u64 0, .int .u64 0, .int .u64 0, .int .u64 0, .int .u64 0, .int .u64 0, .int .u64 0, .int .u64 0, .slice none 0 0, .int .u64 0] 45)
       have X5a := X5.alloc (.cells #[.int .u64 0, .int .u64 0, .int .u64 0, .int .u64 0, .int .u64 0, .int .u64 0, .int .u64 0, .int .u64 0, .slice none 0 0, .int .u64 0] 45)
       have lX5 := X5.lt
       clear hsi5 hb5)
    | (with_reducible refine wpList_store_h rfl (.tmp 9) (.tmp 36) rfl w5.heap.size sb A5 N' c5 (n + n2) rfl rfl sz none 0 0 0 (by with_unfolding_all exact z5) Tryd.infoH w.heap.size w (by with_unfolding_all exact B5a) B5.size ?_
       intro w6 Y6 o6 s6 B6
       have X6 : HoldsH w6 w3.heap.size sa A3 N c3 n := (o6 _ (by omega)).trans (by with_unfolding_all exact X5a)
       have hs4 := hs4.keep (fun p hp => cell_of_heap ((o6 p.block (by omega)).trans (heap_alloc_other w5 _ (by omega))))
       have hs6 : Sees w6 w5.heap.size A5 N' c5 (rb.map bv) := hs5.keep (fun p hp => cell_of_heap ((o6 p.block (by omega)).trans (heap_alloc_other w5 _ hp)))
       have lY6 := Y6.lt
       clear z5 B5a s6 hs5 o6 X5a)
    | (go_at_call 22
       with_reducible refine (M0.out w2 B2).mono ?_
       rintro e w3 ⟨A3, c3, rfl, hsi3, hb3⟩
       have hs3 := hsi3.1
       have B3 := B2.trans (hb3.mono B2.size)
       have z3 := hx_start w3
       have B3a := B3.alloc B3.size (.cells #[.int .u64 0, .int .u64 0, .int .u64 0, .int .u64 0, .int .u64 0, .int .u64 0, .int .u64 0, .int .u64 0, .slice none 0 0, .int .u64 0] 45)
       clear hsi3 hb3)
    | (with_reducible refine wpList_store_h rfl (.tmp 6) (.tmp 27) rfl w3.heap.size sa A3 N c3 n rfl rfl sz none 0 0 0 (by with_unfolding_all exact z3) Tryd.infoH w.heap.size w (by with_unfolding_all exact B3a) B3.size ?_
       intro w4 X4 o4 s4 B4
       have hs4 : Sees w4 w3.heap.size A3 N c3 (ra.map bv) := hs3.keep (fun p hp => cell_of_heap ((o4 p.block (by omega)).trans (heap_alloc_other w3 _ hp)))
       have lX4 := X4.lt
       clear z3 B3a s4 hs3 o4 )
    | (with_reducible refine wpList_load_h rfl (.tmp 6) rfl w3.heap.size rfl sa A3 N c3 n X4 Tryd.underlying45 Tryd.infoH ?_)
    | (with_reducible refine wpList_append_sees _ rfl (.tmp 40) (.tmp 41) _ rfl w7.heap.size 5 i0 _ 1 Tryd.underlying24 hi0 hz0 hz1 hz2 rfl (.slice (some ⟨w7.heap.size, 0, none⟩) 0 0) 0 [] rfl (own_empty _ _ _ (heap_alloc_new _ _)) B A n c (a.map bv) rfl ((h.upTo B7 hB).alloc (Nat.le_trans hB B7.size) _) (bv_one _) (by simp only [maxLen]; omega) (by omega) (by rw [World.size_alloc]; omega) w7.heap.size w7 ((Below.refl _ _).alloc (Nat.le_refl _) _) (Nat.le_refl _) ?_; intro A8 c8 w8 hown8 hb8; simp only [Nat.zero_add, List.nil_append] at hown8; (try simp only [Nat.zero_add]); have hz8 := hb8.size)
    | (with_reducible refine wpList_append_sees _ rfl (.tmp 42) (.tmp 43) _ rfl w7.heap.size 5 i0 _ 1 Tryd.underlying24 hi0 hz0 hz1 hz2 rfl (.slice A8 n c8) n _ rfl hown8 B A2 n2 c2 (b.map bv) rfl ((h2.upTo B7 hB).upTo hb8 (Nat.le_trans hB B7.size)) (bv_one _) (by simp only [maxLen]; omega) (by omega) hz8 w7.heap.size w7 hb8 (Nat.le_refl _) ?_
       intro A9 c9 w9 hown9 hb9
       have hs9 := (seesIn_of_own hown9).1
       rw [← List.map_append] at hs9
       have lw9 := hb9.size
       have B9 := B7.trans (hb9.mono B7.size)
       have X9 := X7.keep hb9 X7.lt
       have Y9 := Y7.keep hb9 Y7.lt
       have hs4 := hs4.upTo hb9 (by omega)
       have hs6 := hs6.upTo hb9 (by omega)
       clear hown8 hown9 hb8 hb9)
    | (go_at_call 22
       with_reducible refine (M2.out w9 A9 c9 B9 hs9).mono ?_
       rintro e w10 ⟨A10, c10, rfl, hsi10, hb10⟩
       have hs10 := hsi10.1
       have B10 := B9.trans (hb10.mono B9.size)
       have X10 := X9.keep hb10 X9.lt
       have Y10 := Y9.keep hb10 Y9.lt
       have hs4 := hs4.upTo hb10 (by omega)
       have hs6 := hs6.upTo hb10 (by omega)
       have z10 := hx_start w10
       have B10a := B10.alloc B10.size (.cells #[.int .u64 0, .int .u64 0, .int .u64 0, .int .u64 0, .int .u64 0, .int .u64 0, .int .u64 0, .int .u64 0, .slice none 0 0, .int .u64 0] 45)
       have X10a := X10.alloc (.cells #[.int .u64 0, .int .u64 0, .int .u64 0, .int .u64 0, .int .u64 0, .int .u64 0, .int .u64 0, .int .u64 0, .slice none 0 0, .int .u64 0] 45)
       have lX10 := X10.lt
       have Y10a := Y10.alloc (.cells #[.int .u64 0, .int .u64 0, .int .u64 0, .int .u64 0, .int .u64 0, .int .u64 0, .int .u64 0, .int .u64 0, .slice none 0 0, .int .u64 0] 45)
       have lY10 := Y10.lt
       clear hsi10 hb10)
    | (with_reducible refine wpList_store_h rfl (.tmp 11) (.tmp 46) rfl w10.heap.size sb A10 N' c10 (n + n2) rfl rfl sz none 0 0 0 (by with_unfolding_all exact z10) Tryd.infoH w.heap.size w (by with_unfolding_all exact B10a) B10.size ?_
       intro w11 Z11 o11 s11 B11
       have X11 : HoldsH w11 w3.heap.size sa A3 N c3 n := (o11 _ (by omega)).trans (by with_unfolding_all exact X10a)
       have Y11 : HoldsH w11 w5.heap.size sb A5 N' c5 (n + n2) := (o11 _ (by omega)).trans (by with_unfolding_all exact Y10a)
       have hs4 := hs4.keep (fun p hp => cell_of_heap ((o11 p.block (by omega)).trans (heap_alloc_other w10 _ (by omega))))
       have hs6 := hs6.keep (fun p hp => cell_of_heap ((o11 p.block (by omega)).trans (heap_alloc_other w10 _ (by omega))))
       have hs11 : Sees w11 w10.heap.size A10 N' c10 (rb.map bv) := hs10.keep (fun p hp => cell_of_heap ((o11 p.block (by omega)).trans (heap_alloc_other w10 _ hp)))
       have lZ11 := Z11.lt
       clear z10 B10a s11 hs10 o11 X10a Y10a)
    | fail)
  have hX := X11.all.2.2.2.2.2.2.2.2.1
  have v1 := run_loadVeilH (w := w11.drew) Y11
  have v2 := run_loadVeilH (w := w11.drew) Z11
  have c1 : (convert 24 9 (.slice A3 N c3)).run Tryd.prog w11.drew = .ok (.string (strOf ra)) w11.drew := run_convert_sees (P := Tryd.prog) 24 9 5 Tryd.underlying24 Tryd.underlying5 Tryd.underlying9 hs4.drew
  have hdw := (hd.upTo B11 hB).drew
  have c2' : (convert 24 9 (.slice (if c = k then A else A.map (·.add k)) (n - k) (c - k))).run Tryd.prog w11.drew = .ok (.string (strOf ra)) w11.drew := run_convert_sees (P := Tryd.prog) 24 9 5 Tryd.underlying24 Tryd.underlying5 Tryd.underlying9 hdw
  go_still_tail 29, (by kernel_rfl)
  change wpList _ _ _ _ _ w11.drew
  have hs6d := (hs6.more (show w5.heap.size ≤ w11.heap.size by omega)).drew
  have hs11d := (hs11.more (show w10.heap.size ≤ w11.heap.size by omega)).drew
  have B11d := B11.drew
  clear v1 v2 c1 c2' hdw
  go_wp2_with (first
    | (go_at_call 26
       (with_reducible refine (Same_true sb A5 A10 N' c5 c10 (n + n2) w11.heap.size rb w11.drew hs6d hs11d (by with_unfolding_all exact Nat.le_refl _)).mono ?_)
       rintro e w12 ⟨rfl, hb12⟩
       have B12 := B11d.trans (hb12.mono B11.size))
    | fail)
  all_goals
    go_ret
    exact ⟨rfl, B12⟩
end Go.Proofs.YtppaffamlfghjaaDoor
