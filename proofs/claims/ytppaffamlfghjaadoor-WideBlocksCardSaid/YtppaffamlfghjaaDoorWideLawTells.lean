/-
  WideTells: any text that is summed, with any more bytes, its sum, and that of any bytes, are what the document says, or its error. For every input.
-/
import Derived.Test.YtppaffamlfghjaaDoorWideAlike
namespace Go.Proofs.YtppaffamlfghjaaDoor
open Go.RowKit

attribute [local go_sem ↓] load_veil

def Yes (w : World) (e : Ending) (w' : World) : Prop := e = .returned (.bool true) ∧ Below w.heap.size w w'

theorem ht_start (w : World) (s : St) (A : Option Addr) (n c m : Nat) : HoldsH (w.alloc (.cells #[.int .u64 (s.a.toNat : Int), .int .u64 (s.b.toNat : Int), .int .u64 (s.c.toNat : Int), .int .u64 (s.d.toNat : Int), .int .u64 (s.e.toNat : Int), .int .u64 (s.f.toNat : Int), .int .u64 (s.g.toNat : Int), .int .u64 (s.h.toNat : Int), .slice A n c, .int .u64 (m : Int)] 45)) w.heap.size s A n c m := holdsH_new w _ _ _ _ _ _ _ rfl rfl

set_option maxRecDepth 100000 in
set_option maxHeartbeats 1000000 in
theorem WideTells_big (s : St) (A A2 : Option Addr) (n c n2 c2 m : Nat) (w : World) (hb : 500 < n ∨ 500 < n2) (L : Laid w) :
    Calls Tryd.prog 7 #[hv s A n c m, .slice A2 n2 c2] w (Yes w) := by
  have H0 := ht_start w s A n c m
  have B0 := (Below.refl w.heap.size w).alloc (Nat.le_refl _) (.cells #[.int .u64 (s.a.toNat : Int), .int .u64 (s.b.toNat : Int), .int .u64 (s.c.toNat : Int), .int .u64 (s.d.toNat : Int), .int .u64 (s.e.toNat : Int), .int .u64 (s.f.toNat : Int), .int .u64 (s.g.toNat : Int), .int .u64 (s.h.toNat : Int), .slice A n c, .int .u64 (m : Int)] 45)
  have AW : Hid (∀ W, Below w.heap.size w W → Calls Tryd.prog 21 #[] W (Yes W)) := Lib.hid fun W hW => awake_any W (L.keep hW L.size)
  rcases Nat.lt_or_ge 500 n with h1 | h1
  · have h1' : (500 : Int) < n := by omega
    rw [hv_cells]
    unfold hcells
    go_enter Tryd.func7, Tryd.ntmps7
    go_wp2_with (go_at_call 21
                 refine (AW.out _ B0).mono ?_
                 rintro e w1 ⟨rfl, hb1⟩
                 have B1 := B0.trans (hb1.mono B0.size)
                 obtain ⟨_, _, _, _, _, _, _, _, k8, _⟩ := (H0.keep hb1 H0.lt).all)
    go_ret
    exact ⟨rfl, B1⟩
  · have h1' : ¬ (500 : Int) < n := by omega
    have h2' : (500 : Int) < n2 := by omega
    rw [hv_cells]
    unfold hcells
    go_enter Tryd.func7, Tryd.ntmps7
    go_wp2_with (go_at_call 21
                 refine (AW.out _ B0).mono ?_
                 rintro e w1 ⟨rfl, hb1⟩
                 have B1 := B0.trans (hb1.mono B0.size)
                 obtain ⟨_, _, _, _, _, _, _, _, k8, _⟩ := (H0.keep hb1 H0.lt).all)
    go_ret
    exact ⟨rfl, B1⟩

set_option maxRecDepth 100000 in
set_option maxHeartbeats 2000000 in
theorem WideTells_small (s : St) (A A2 : Option Addr) (n c n2 c2 m B : Nat) (r b : List UInt8) (w : World) (h : Sees w B A n c (r.map bv)) (h2 : Sees w B A2 n2 c2 (b.map bv)) (hB : B ≤ w.heap.size) (hn : n ≤ 500) (hn2 : n2 ≤ 500) (hm : m < 18446744073709551616) (L : Laid w) :
    Calls Tryd.prog 7 #[hv s A n c m, .slice A2 n2 c2] w (Yes w) := by
  have H0 := ht_start w s A n c m
  have B0 := (Below.refl w.heap.size w).alloc (Nat.le_refl _) (.cells #[.int .u64 (s.a.toNat : Int), .int .u64 (s.b.toNat : Int), .int .u64 (s.c.toNat : Int), .int .u64 (s.d.toNat : Int), .int .u64 (s.e.toNat : Int), .int .u64 (s.f.toNat : Int), .int .u64 (s.g.toNat : Int), .int .u64 (s.h.toNat : Int), .slice A n c, .int .u64 (m : Int)] 45)
  have AW : Hid (∀ W, Below w.heap.size w W → Calls Tryd.prog 21 #[] W (Yes W)) := Lib.hid fun W hW => awake_any W (L.keep hW L.size)
  obtain ⟨t, N, l, mm, err, hlN, hM⟩ := more_alike s A A2 n c n2 c2 m r b (by have := h.len; simpa using this) hn hn2
  obtain ⟨out, err2, hout, hE⟩ := end_alike s A n c m r hn hm
  have M1 : Hid (∀ W, Below w.heap.size w W → Calls Tryd.prog 22 #[hv s A n c m, .slice A2 n2 c2] W (GaveN W t N l mm err)) := Lib.hid fun W hW => (hM W B (h.upTo hW hB) (h2.upTo hW hB) (Nat.le_trans hB hW.size) (L.keep hW L.size)).1
  have M2 : Hid (∀ W, Below w.heap.size w W → Calls Tryd.prog 23 #[hv s A n c m, .slice A2 n2 c2] W (GaveN W t N l mm err)) := Lib.hid fun W hW => (hM W B (h.upTo hW hB) (h2.upTo hW hB) (Nat.le_trans hB hW.size) (L.keep hW L.size)).2
  have E1 : Hid (∀ W, Below w.heap.size w W → Calls Tryd.prog 24 #[hv s A n c m] W (GaveE W out err2)) := Lib.hid fun W hW => (hE W B (h.upTo hW hB) (Nat.le_trans hB hW.size) (L.keep hW L.size)).1
  have E2 : Hid (∀ W, Below w.heap.size w W → Calls Tryd.prog 25 #[hv s A n c m] W (GaveE W out err2)) := Lib.hid fun W hW => (hE W B (h.upTo hW hB) (Nat.le_trans hB hW.size) (L.keep hW L.size)).2
  have S1 : Hid (∀ W, Below w.heap.size w W → Calls Tryd.prog 29 #[.slice A2 n2 c2] W (GaveS W (sumOf b))) := Lib.hid fun W hW => Sum_any A2 n2 c2 B b W (h2.upTo hW hB) (Nat.le_trans hB hW.size) (by omega) (L.keep hW L.size)
  have S2 : Hid (∀ W, Below w.heap.size w W → Calls Tryd.prog 30 #[.slice A2 n2 c2] W (GaveS W (sumOf b))) := Lib.hid fun W hW => RSum_any A2 n2 c2 B b W (h2.upTo hW hB) (Nat.le_trans hB hW.size) (by omega)
  have G1 : Hid (∀ W, Below w.heap.size w W → Calls Tryd.prog 27 #[] W fun e w' => e = .returned (hv st0 none 0 0 0) ∧ Below W.heap.size W w') := Lib.hid fun W hW => Begin_any W (L.keep hW L.size)
  have SB : Hid (∀ W, Calls Tryd.prog 26 #[hv st0 none 0 0 0, hv st0 none 0 0 0] W (Yes W)) := Lib.hid fun W => Same_true st0 none none 0 0 0 0 0 [] W Sees.none_ Sees.none_ (Nat.zero_le _)
  have hl := sumOf_length b
  generalize sumOf b = sb at *
  have HO := Lib.hid hout
  have q1 := fun W => run_eql_b32 out W HO.out
  have q2 := fun x y a b W => run_guard_b32 x y a b W
  have q3 := fun W => run_eql_b32 sb W hl
  have h1' : ¬ (500 : Int) < n := by omega
  have h2' : ¬ (500 : Int) < n2 := by omega
  clear hM hE hl hout
  rw [hv_cells]
  unfold hcells
  go_enter Tryd.func7, Tryd.ntmps7
  go_wp2_with (first
    | (go_at_call 21
       refine (AW.out _ B0).mono ?_
       rintro e w1 ⟨rfl, hb1⟩
       have B1 := B0.trans (hb1.mono B0.size)
       have H1 := H0.keep hb1 H0.lt
       obtain ⟨_, _, _, _, _, _, _, _, k8, _⟩ := H1.all
       clear hb1)
    | (with_reducible refine wpList_load_h rfl (.tmp 2) rfl w.heap.size rfl s A n c m H1 Tryd.underlying45 Tryd.infoH ?_)
    | (go_at_call 22
       refine (M1.out _ B1).mono ?_
       rintro e w2 ⟨A3, c3, rfl, hs2, hb2⟩
       have B2 := B1.trans (hb2.mono B1.size)
       have H2 := H1.keep hb2 H1.lt
       have z2 := hx_start w2
       have B2a := B2.alloc B2.size (.cells #[.int .u64 0, .int .u64 0, .int .u64 0, .int .u64 0, .int .u64 0, .int .u64 0, .int .u64 0, .int .u64 0, .slice none 0 0, .int .u64 0] 45)
       have H2a := H2.alloc (.cells #[.int .u64 0, .int .u64 0, .int .u64 0, .int .u64 0, .int .u64 0, .int .u64 0, .int .u64 0, .int .u64 0, .slice none 0 0, .int .u64 0] 45)
       have g2 := H2.lt
       clear hb2)
    | (with_reducible refine wpList_store_h rfl (.tmp 6) (.tmp 30) rfl w2.heap.size t A3 N c3 mm rfl rfl sz none 0 0 0 (by with_unfolding_all exact z2) Tryd.infoH w.heap.size w (by with_unfolding_all exact B2a) B2.size ?_
       intro w3 X3 o3 s3 B3
       have H3 : HoldsH w3 w.heap.size s A n c m := (o3 _ (by omega)).trans (by with_unfolding_all exact H2a)
       have x3 := X3.lt
       have hs3 : Sees w3 w2.heap.size A3 N c3 (l.map bv) := hs2.keep (fun p hp => cell_of_heap ((o3 p.block (by omega)).trans (heap_alloc_other w2 _ hp)))
       clear z2 B2a H2a o3 s3)
    | (with_reducible refine wpList_load_h rfl (.tmp 2) rfl w.heap.size rfl s A n c m H3 Tryd.underlying45 Tryd.infoH ?_)
    | (go_at_call 23
       refine (M2.out _ B3).mono ?_
       rintro e w4 ⟨A4, c4, rfl, hs4, hb4⟩
       have B4 := B3.trans (hb4.mono B3.size)
       have H4 := H3.keep hb4 H3.lt
       have X4 := X3.keep hb4 X3.lt
       have hs3 := hs3.upTo hb4 (Nat.le_of_lt x3)
       have z4 := hx_start w4
       have B4a := B4.alloc B4.size (.cells #[.int .u64 0, .int .u64 0, .int .u64 0, .int .u64 0, .int .u64 0, .int .u64 0, .int .u64 0, .int .u64 0, .slice none 0 0, .int .u64 0] 45)
       have H4a := H4.alloc (.cells #[.int .u64 0, .int .u64 0, .int .u64 0, .int .u64 0, .int .u64 0, .int .u64 0, .int .u64 0, .int .u64 0, .slice none 0 0, .int .u64 0] 45)
       have X4a := X4.alloc (.cells #[.int .u64 0, .int .u64 0, .int .u64 0, .int .u64 0, .int .u64 0, .int .u64 0, .int .u64 0, .int .u64 0, .slice none 0 0, .int .u64 0] 45)
       have g4 := H4.lt
       have x4 := X4.lt
       clear hb4)
    | (with_reducible refine wpList_store_h rfl (.tmp 8) (.tmp 36) rfl w4.heap.size t A4 N c4 mm rfl rfl sz none 0 0 0 (by with_unfolding_all exact z4) Tryd.infoH w.heap.size w (by with_unfolding_all exact B4a) B4.size ?_
       intro w5 Y5 o5 s5 B5
       have H5 : HoldsH w5 w.heap.size s A n c m := (o5 _ (by omega)).trans (by with_unfolding_all exact H4a)
       have X5 : HoldsH w5 w2.heap.size t A3 N c3 mm := (o5 _ (by omega)).trans (by with_unfolding_all exact X4a)
       have y5 := Y5.lt
       have hs3 : Sees w5 w2.heap.size A3 N c3 (l.map bv) := hs3.keep (fun p hp => cell_of_heap ((o5 p.block (by omega)).trans (heap_alloc_other w4 _ (by omega))))
       have hs4 : Sees w5 w4.heap.size A4 N c4 (l.map bv) := hs4.keep (fun p hp => cell_of_heap ((o5 p.block (by omega)).trans (heap_alloc_other w4 _ hp)))
       clear z4 B4a H4a X4a o5 s5)
    | (with_reducible refine wpList_load_h rfl (.tmp 2) rfl w.heap.size rfl s A n c m H5 Tryd.underlying45 Tryd.infoH ?_)
    | (go_at_call 24
       refine (E1.out _ B5).mono ?_
       rintro e w6 ⟨rfl, hb6⟩
       have B6 := B5.trans (hb6.mono B5.size)
       have H6 := H5.keep hb6 H5.lt
       have X6 := X5.keep hb6 X5.lt
       have Y6 := Y5.keep hb6 Y5.lt
       have hs3 := hs3.upTo hb6 (Nat.le_of_lt X5.lt)
       have hs4 := hs4.upTo hb6 (Nat.le_of_lt Y5.lt)
       have z6 := s_start w6
       have B6a := B6.alloc B6.size (.cells ((List.replicate 64 (0 : UInt8)).map bv).toArray 48)
       have H6a := H6.alloc (.cells ((List.replicate 64 (0 : UInt8)).map bv).toArray 48)
       have X6a := X6.alloc (.cells ((List.replicate 64 (0 : UInt8)).map bv).toArray 48)
       have Y6a := Y6.alloc (.cells ((List.replicate 64 (0 : UInt8)).map bv).toArray 48)
       have lH6 := H6.lt
       have lX6 := X6.lt
       have lY6 := Y6.lt
       clear hb6)
    | (with_reducible refine wpList_store_b rfl 48 (.tmp 10) (.tmp 41) rfl w6.heap.size out HO.out rfl rfl (List.replicate 64 0) (by with_unfolding_all exact z6) Tryd.infoB32 (by simp) w.heap.size w (by with_unfolding_all exact B6a) B6.size ?_
       intro w7 P7 o7 s7 B7
       have H7 : HoldsH w7 w.heap.size s A n c m := (o7 _ (by omega)).trans (by with_unfolding_all exact H6a)
       have X7 : HoldsH w7 w2.heap.size t A3 N c3 mm := (o7 _ (by omega)).trans (by with_unfolding_all exact X6a)
       have Y7 : HoldsH w7 w4.heap.size t A4 N c4 mm := (o7 _ (by omega)).trans (by with_unfolding_all exact Y6a)
       have hs3 : Sees w7 w2.heap.size A3 N c3 (l.map bv) := hs3.keep (fun p hp => cell_of_heap ((o7 p.block (by omega)).trans (heap_alloc_other w6 _ (by omega))))
       have hs4 : Sees w7 w4.heap.size A4 N c4 (l.map bv) := hs4.keep (fun p hp => cell_of_heap ((o7 p.block (by omega)).trans (heap_alloc_other w6 _ (by omega))))
       clear z6 B6a H6a X6a Y6a o7 s7)
    | (with_reducible refine wpList_load_h rfl (.tmp 2) rfl w.heap.size rfl s A n c m H7 Tryd.underlying45 Tryd.infoH ?_)
    | (go_at_call 25
       refine (E2.out _ B7).mono ?_
       rintro e w8 ⟨rfl, hb8⟩
       have B8 := B7.trans (hb8.mono B7.size)
       have H8 := H7.keep hb8 H7.lt
       have X8 := X7.keep hb8 X7.lt
       have Y8 := Y7.keep hb8 Y7.lt
       have P8 := P7.keep hb8 P7.lt
       have hs3 := hs3.upTo hb8 (Nat.le_of_lt X7.lt)
       have hs4 := hs4.upTo hb8 (Nat.le_of_lt Y7.lt)
       have z8 := s_start w8
       have B8a := B8.alloc B8.size (.cells ((List.replicate 64 (0 : UInt8)).map bv).toArray 48)
       have H8a := H8.alloc (.cells ((List.replicate 64 (0 : UInt8)).map bv).toArray 48)
       have X8a := X8.alloc (.cells ((List.replicate 64 (0 : UInt8)).map bv).toArray 48)
       have Y8a := Y8.alloc (.cells ((List.replicate 64 (0 : UInt8)).map bv).toArray 48)
       have P8a := P8.alloc (.cells ((List.replicate 64 (0 : UInt8)).map bv).toArray 48)
       have lH8 := H8.lt
       have lX8 := X8.lt
       have lY8 := Y8.lt
       have lP8 := P8.lt
       clear hb8)
    | (with_reducible refine wpList_store_b rfl 48 (.tmp 12) (.tmp 46) rfl w8.heap.size out HO.out rfl rfl (List.replicate 64 0) (by with_unfolding_all exact z8) Tryd.infoB32 (by simp) w.heap.size w (by with_unfolding_all exact B8a) B8.size ?_
       intro w9 Q9 o9 s9 B9
       have H9 : HoldsH w9 w.heap.size s A n c m := (o9 _ (by omega)).trans (by with_unfolding_all exact H8a)
       have X9 : HoldsH w9 w2.heap.size t A3 N c3 mm := (o9 _ (by omega)).trans (by with_unfolding_all exact X8a)
       have Y9 : HoldsH w9 w4.heap.size t A4 N c4 mm := (o9 _ (by omega)).trans (by with_unfolding_all exact Y8a)
       have P9 : HoldsB w9 48 w6.heap.size out := (o9 _ (by omega)).trans (by with_unfolding_all exact P8a)
       have hs3 : Sees w9 w2.heap.size A3 N c3 (l.map bv) := hs3.keep (fun p hp => cell_of_heap ((o9 p.block (by omega)).trans (heap_alloc_other w8 _ (by omega))))
       have hs4 : Sees w9 w4.heap.size A4 N c4 (l.map bv) := hs4.keep (fun p hp => cell_of_heap ((o9 p.block (by omega)).trans (heap_alloc_other w8 _ (by omega))))
       clear z8 B8a H8a X8a Y8a P8a o9 s9)
    | (with_reducible refine wpList_load_h rfl (.tmp 6) rfl w2.heap.size rfl t A3 N c3 mm X9 Tryd.underlying45 Tryd.infoH ?_)
    | (with_reducible refine wpList_load_h rfl (.tmp 8) rfl w4.heap.size rfl t A4 N c4 mm Y9 Tryd.underlying45 Tryd.infoH ?_)
    | (go_at_call 26
       with_reducible refine (SB.out w12).mono ?_
       rintro e w13 ⟨rfl, hb13⟩
       have B13 := B12.trans (hb13.mono B12.size)
       have v1 := run_loadVeil HO.out (P12.keep hb13 P12.lt)
       have v2 := run_loadVeil HO.out (Q12.keep hb13 Q12.lt)
       clear hb13)
    | (go_at_call 26
       have lx := X9.lt
       have ly := Y9.lt
       with_reducible refine (Same_true t A3 A4 N c3 c4 mm w9.heap.size l w9 (hs3.more (Nat.le_of_lt lx)) (hs4.more (Nat.le_of_lt ly)) (Nat.le_refl _)).mono ?_
       rintro e w10 ⟨rfl, hb10⟩
       have B10 := B9.trans (hb10.mono B9.size)
       have P10 := P9.keep hb10 P9.lt
       have Q10 := Q9.keep hb10 Q9.lt
       clear hb10)
    | (go_at_call 27
       refine (G1.out _ B10).mono ?_
       rintro e w11 ⟨rfl, hb11⟩
       have B11 := B10.trans (hb11.mono B10.size)
       have P11 := P10.keep hb11 P10.lt
       have Q11 := Q10.keep hb11 Q10.lt
       clear hb11)
    | (go_at_call 28
       refine (RBegin_any _).mono ?_
       rintro e w12 ⟨rfl, hb12⟩
       have B12 := B11.trans (hb12.mono B11.size)
       have P12 := P11.keep hb12 P11.lt
       have Q12 := Q11.keep hb12 Q11.lt
       clear hb12)
    | (go_at_call 29
       refine (S1.out _ B13).mono ?_
       rintro e w14 ⟨rfl, hb14⟩
       have B14 := B13.trans (hb14.mono B13.size)
       clear hb14)
    | (go_at_call 30
       refine (S2.out _ B14).mono ?_
       rintro e w15 ⟨rfl, hb15⟩
       have B15 := B14.trans (hb15.mono B14.size)
       clear hb15)
    | fail)
  go_ret
  exact ⟨rfl, B15⟩
end Go.Proofs.YtppaffamlfghjaaDoor
