/-
  WideNothing: a text goes on by nothing as it is, and its sum does not end it. For every input.
-/
import Derived.Test.YtppaffamlfghjaaDoorWideLawTells
import Derived.Test.YtppaffamlfghjaaDoorWideText
namespace Go.Proofs.YtppaffamlfghjaaDoor
open Go.RowKit

attribute [local go_sem ↓] load_veil

/-- An append that is guarded, in a region that draws its order. -/
theorem step_append_sees_g {P : Program} (w : World) {ops : Array Oper} {o : Oper} {a : Act} {K : Act → World → Prop} {Q : Exit → Act → World → Prop} {E : Prop} (hw : Region.wanted o (yielded ops a.tmps) = true) (s x : Operand) (t : TypeId)
    (ho : o.op = .call { callee := .builtin .append, args := #[s, x], argTypes := #[t, t] })
    (base : Nat) (e : TypeId) (i : TypeInfo) (z : Value) (bytes : Nat) (ht : P.underlying t = some (.slice e)) (hi : P.info? e = some i) (hz : i.zero = some z)
    (hsize : i.size = 1) (hby : i.bytes = bytes) (hzs : z.cells.size = 1) (v : Value) (n : Nat) (xs : List Value) (hs : a.eval s = v) (hown : w.ownsRow base e 1 v n xs)
    (B : Nat) (A : Option Addr) (m c : Nat) (news : List Value) (hx : a.eval x = .slice A m c) (hr : Sees w B A m c news) (h1 : ∀ u ∈ news, u.oneCell' = true)
    (h63 : n + m ≤ maxLen) (hbytes : (n + m) * bytes ≤ 140737488355328) (hbase : base ≤ w.heap.size) (D : Nat) (w0 : World) (hb : Below D w0 w) (hD : D ≤ base)
    (h : ∀ A' c' w', w'.ownsRow base e 1 (.slice A' (n + m) c') (n + m) (xs ++ news) → Below D w0 w' → K (a.put o.dst (.slice A' (n + m) c')) w') :
    if Region.wanted o (yielded ops a.tmps) = true then Oper.wp P o a w K Q else E := by
  rw [if_pos hw]
  obtain ⟨A', c', w', hrun, h2, h3⟩ := run_append_sees (P := P) w base t o.type e i z bytes ht hi hz hsize hby hzs v n xs hown B A m c news hr h1 h63 hbytes hbase D w0 hb hD
  unfold Oper.wp
  simp [execOp, ho, resolve, invoke, builtin, hs, hx, hrun, Result.andThen]
  exact h A' c' w' h2 h3

set_option maxRecDepth 100000 in
set_option maxHeartbeats 1000000 in
theorem WideNothing_big (A A2 : Option Addr) (n c n2 c2 : Nat) (w : World) (hb : 500 < n ∨ 500 < n2) (L : Laid w) :
    Calls Tryd.prog 10 #[.slice A n c, .slice A2 n2 c2] w (Yes w) := by
  have B0 := Below.refl w.heap.size w
  have AW : Hid (∀ W, Below w.heap.size w W → Calls Tryd.prog 21 #[] W (Yes W)) := Lib.hid fun W hW => awake_any W (L.keep hW L.size)
  rcases Nat.lt_or_ge 500 n with h1 | h1
  · have h1' : (500 : Int) < n := by omega
    go_enter Tryd.func10, Tryd.ntmps10
    go_wp2_with (go_at_call 21
                 refine (AW.out _ B0).mono ?_
                 rintro e w1 ⟨rfl, hb1⟩)
    go_ret
    exact ⟨rfl, hb1⟩
  · have h1' : ¬ (500 : Int) < n := by omega
    have h2' : (500 : Int) < n2 := by omega
    go_enter Tryd.func10, Tryd.ntmps10
    go_wp2_with (go_at_call 21
                 refine (AW.out _ B0).mono ?_
                 rintro e w1 ⟨rfl, hb1⟩)
    go_ret
    exact ⟨rfl, hb1⟩

set_option maxRecDepth 100000 in
set_option maxHeartbeats 2000000 in
theorem WideNothing_small (A A2 : Option Addr) (n c n2 c2 B : Nat) (a b : List UInt8) (w : World) (h : Sees w B A n c (a.map bv)) (h2 : Sees w B A2 n2 c2 (b.map bv)) (hB : B ≤ w.heap.size) (hn : n ≤ 500) (hn2 : n2 ≤ 500) (L : Laid w) :
    Calls Tryd.prog 10 #[.slice A n c, .slice A2 n2 c2] w (Yes w) := by
  obtain ⟨i0, hi0, hz0, hz1, hz2⟩ := info_parts Tryd.infoU8
  have hla : a.length = n := by have := h.len; simpa using this
  have hlb : b.length = n2 := by have := h2.len; simpa using this
  have hlab : (a ++ b).length = n + n2 := by rw [List.length_append, hla, hlb]
  obtain ⟨N, hN⟩ : ∃ N, (left a).length = N := ⟨_, rfl⟩
  obtain ⟨N', hN'⟩ : ∃ N', (left (a ++ b)).length = N' := ⟨_, rfl⟩
  have hNv : Hid (N = n % 128) := Lib.hid (by rw [← hN, left_length, hla])
  have AW : Hid (∀ W, Below w.heap.size w W → Calls Tryd.prog 21 #[] W (Yes W)) := Lib.hid fun W hW => awake_any W (L.keep hW L.size)
  have G1 : Hid (∀ W, Below w.heap.size w W → Calls Tryd.prog 27 #[] W fun e w' => e = .returned (hv st0 none 0 0 0) ∧ Below W.heap.size W w') := Lib.hid fun W hW => Begin_any W (L.keep hW L.size)
  have M0 : Hid (∀ W, Below w.heap.size w W → Calls Tryd.prog 22 #[hv st0 none 0 0 0, .slice A n c] W (GaveM W (absorb st0 a) N (left a) n 0)) := Lib.hid fun W hW => by
    have := More_text [] a none A 0 0 n c 0 N n B W (by rw [left_nil]; rfl) rfl hla hN hla (by omega) (by rw [left_nil]; exact Sees.none_) (h.upTo hW hB) (Nat.le_trans hB hW.size) (L.keep hW L.size)
    rwa [absorb_nil] at this
  have M1 : Hid (∀ W A3 c3, Below w.heap.size w W → Sees W W.heap.size A3 N c3 ((left a).map bv) → Calls Tryd.prog 22 #[hv (absorb st0 a) A3 N c3 n, .slice A2 n2 c2] W (GaveM W (absorb st0 (a ++ b)) N' (left (a ++ b)) (n + n2) 0)) := Lib.hid fun W A3 c3 hW hs =>
    More_text a b A3 A2 N c3 n2 c2 n N' (n + n2) W.heap.size W hN hla hlb hN' hlab (by omega) hs ((h2.upTo hW hB).more (Nat.le_trans hB hW.size)) (Nat.le_refl _) (L.keep hW L.size)
  have M2 : Hid (∀ W A3 c3, Below w.heap.size w W → Sees W W.heap.size A3 N c3 ((left a).map bv) → Calls Tryd.prog 22 #[hv (absorb st0 a) A3 N c3 n, .slice none 0 0] W (GaveM W (absorb st0 a) N (left a) n 0)) := Lib.hid fun W A3 c3 hW hs => by
    have := More_text a [] A3 none N c3 0 0 n N n W.heap.size W hN hla rfl (by rw [List.append_nil]; exact hN) (by rw [List.append_nil]; exact hla) (by omega) hs Sees.none_ (Nat.le_refl _) (L.keep hW L.size)
    rwa [List.append_nil] at this
  have E1 : Hid (∀ W A3 c3, Below w.heap.size w W → Sees W W.heap.size A3 N c3 ((left a).map bv) → Calls Tryd.prog 24 #[hv (absorb st0 a) A3 N c3 n] W (GaveE W (sumOf a) 0)) := Lib.hid fun W A3 c3 hW hs =>
    End_text a A3 N c3 n W.heap.size W hN hla (by omega) hs (Nat.le_refl _) (L.keep hW L.size)
  have E2 : Hid (∀ W A3 c3, Below w.heap.size w W → Sees W W.heap.size A3 N' c3 ((left (a ++ b)).map bv) → Calls Tryd.prog 24 #[hv (absorb st0 (a ++ b)) A3 N' c3 (n + n2)] W (GaveE W (sumOf (a ++ b)) 0)) := Lib.hid fun W A3 c3 hW hs =>
    End_text (a ++ b) A3 N' c3 (n + n2) W.heap.size W hN' hlab (by omega) hs (Nat.le_refl _) (L.keep hW L.size)
  have S1 : Hid (∀ W, Below w.heap.size w W → Calls Tryd.prog 29 #[.slice A n c] W (GaveS W (sumOf a))) := Lib.hid fun W hW => Sum_any A n c B a W (h.upTo hW hB) (Nat.le_trans hB hW.size) (by omega) (L.keep hW L.size)
  have S2 : Hid (∀ W A3 c3, Below w.heap.size w W → Sees W W.heap.size A3 (n + n2) c3 ((a ++ b).map bv) → Calls Tryd.prog 29 #[.slice A3 (n + n2) c3] W (GaveS W (sumOf (a ++ b)))) := Lib.hid fun W A3 c3 hW hs => Sum_any A3 (n + n2) c3 W.heap.size (a ++ b) W hs (Nat.le_refl _) (by omega) (L.keep hW L.size)
  have HO1 := Lib.hid (sumOf_length a)
  have HO2 := Lib.hid (sumOf_length (a ++ b))
  generalize sumOf (a ++ b) = sumab at *
  generalize sumOf a = suma at *
  have h1' : ¬ (500 : Int) < n := by omega
  have h2' : ¬ (500 : Int) < n2 := by omega
  generalize absorb st0 (a ++ b) = sb at *
  generalize absorb st0 a = sa at *
  generalize hra : left a = ra at *
  generalize hrb : left (a ++ b) = rb at *
  clear hra hrb hN hN'
  have B0 := Below.refl w.heap.size w
  go_enter Tryd.func10, Tryd.ntmps10
  go_wp2_with (first
    | (go_at_call 21
       refine (AW.out _ B0).mono ?_
       rintro e w1 ⟨rfl, hb1⟩
       have B1 := B0.trans (hb1.mono B0.size)
       clear hb1)
    | (go_at_call 27
       refine (G1.out w1 B1).mono ?_
       rintro e w2 ⟨rfl, hb2⟩
       have B2 := B1.trans (hb2.mono B1.size)
       clear hb2)
    | (go_at_call 24
       with_reducible refine (E2.out w10 A9 c9 B10 (hs10.more (by omega))).mono ?_
       rintro e w11 ⟨rfl, hb11⟩
       have B11 := B10.trans (hb11.mono B10.size)
       have X11 := X10.keep hb11 X10.lt
       have P11 := P10.keep hb11 P10.lt
       have Y11 := Y10.keep hb11 Y10.lt
       have Z11 := Z10.keep hb11 Z10.lt
       have hs4 := hs4.upTo hb11 (by omega)
       have hs8 := hs8.upTo hb11 (by omega)
       have hs10 := hs10.upTo hb11 (by omega)
       have z11 := s_start w11
       have B11a := B11.alloc B11.size (.cells ((List.replicate 64 (0 : UInt8)).map bv).toArray 48)
       have X11a := X11.alloc (.cells ((List.replicate 64 (0 : UInt8)).map bv).toArray 48)
       have lX11 := X11.lt
       have P11a := P11.alloc (.cells ((List.replicate 64 (0 : UInt8)).map bv).toArray 48)
       have lP11 := P11.lt
       have Y11a := Y11.alloc (.cells ((List.replicate 64 (0 : UInt8)).map bv).toArray 48)
       have lY11 := Y11.lt
       have Z11a := Z11.alloc (.cells ((List.replicate 64 (0 : UInt8)).map bv).toArray 48)
       have lZ11 := Z11.lt
       clear hb11)
    | (with_reducible refine wpList_store_b rfl 48 (.tmp 14) (.tmp 52) rfl w11.heap.size sumab HO2.out rfl rfl (List.replicate 64 0) (by with_unfolding_all exact z11) Tryd.infoB32 (by simp) w.heap.size w (by with_unfolding_all exact B11a) B11.size ?_
       intro w12 Q12 o12 s12 B12
       have X12 : HoldsH w12 w3.heap.size sa A3 N c3 n := (o12 _ (by omega)).trans (by with_unfolding_all exact X11a)
       have P12 : HoldsB w12 48 w5.heap.size suma := (o12 _ (by omega)).trans (by with_unfolding_all exact P11a)
       have Y12 : HoldsH w12 w7.heap.size sa A7 N c7 n := (o12 _ (by omega)).trans (by with_unfolding_all exact Y11a)
       have Z12 : HoldsH w12 w9.heap.size sb A9 N' c9 (n + n2) := (o12 _ (by omega)).trans (by with_unfolding_all exact Z11a)
       have hs4 := hs4.keep (fun p hp => cell_of_heap ((o12 p.block (by omega)).trans (heap_alloc_other w11 _ (by omega))))
       have hs8 := hs8.keep (fun p hp => cell_of_heap ((o12 p.block (by omega)).trans (heap_alloc_other w11 _ (by omega))))
       have hs10 := hs10.keep (fun p hp => cell_of_heap ((o12 p.block (by omega)).trans (heap_alloc_other w11 _ (by omega))))
       have lQ12 := Q12.lt
       clear z11 B11a s12 o12 X11a P11a Y11a Z11a)
    | (go_at_call 24
       with_reducible refine (E1.out w4 A3 c3 B4 (hs4.more (by omega))).mono ?_
       rintro e w5 ⟨rfl, hb5⟩
       have B5 := B4.trans (hb5.mono B4.size)
       have X5 := X4.keep hb5 X4.lt
       have hs4 := hs4.upTo hb5 (by omega)
       have z5 := s_start w5
       have B5a := B5.alloc B5.size (.cells ((List.replicate 64 (0 : UInt8)).map bv).toArray 48)
       have X5a := X5.alloc (.cells ((List.replicate 64 (0 : UInt8)).map bv).toArray 48)
       have lX5 := X5.lt
       clear hb5)
    | (with_reducible refine wpList_store_b rfl 48 (.tmp 8) (.tmp 36) rfl w5.heap.size suma HO1.out rfl rfl (List.replicate 64 0) (by with_unfolding_all exact z5) Tryd.infoB32 (by simp) w.heap.size w (by with_unfolding_all exact B5a) B5.size ?_
       intro w6 P6 o6 s6 B6
       have X6 : HoldsH w6 w3.heap.size sa A3 N c3 n := (o6 _ (by omega)).trans (by with_unfolding_all exact X5a)
       have hs4 := hs4.keep (fun p hp => cell_of_heap ((o6 p.block (by omega)).trans (heap_alloc_other w5 _ (by omega))))
       have lP6 := P6.lt
       clear z5 B5a s6 o6 X5a)
    | (go_at_call 22
       with_reducible refine (M1.out w8 A3 c3 B8 (hs4.more (by omega))).mono ?_
       rintro e w9 ⟨A9, c9, rfl, hsi9, hb9⟩
       have hs9 := hsi9.1
       have B9 := B8.trans (hb9.mono B8.size)
       have X9 := X8.keep hb9 X8.lt
       have P9 := P8.keep hb9 P8.lt
       have Y9 := Y8.keep hb9 Y8.lt
       have hs4 := hs4.upTo hb9 (by omega)
       have hs8 := hs8.upTo hb9 (by omega)
       have z9 := hx_start w9
       have B9a := B9.alloc B9.size (.cells #[.int .u64 0, .int .u64 0, .int .u64 0, .int .u64 0, .int .u64 0, .int .u64 0, .int .u64 0, .int .u64 0, .slice none 0 0, .int .u64 0] 45)
       have X9a := X9.alloc (.cells #[.int .u64 0, .int .u64 0, .int .u64 0, .int .u64 0, .int .u64 0, .int .u64 0, .int .u64 0, .int .u64 0, .slice none 0 0, .int .u64 0] 45)
       have lX9 := X9.lt
       have P9a := P9.alloc (.cells #[.int .u64 0, .int .u64 0, .int .u64 0, .int .u64 0, .int .u64 0, .int .u64 0, .int .u64 0, .int .u64 0, .slice none 0 0, .int .u64 0] 45)
       have lP9 := P9.lt
       have Y9a := Y9.alloc (.cells #[.int .u64 0, .int .u64 0, .int .u64 0, .int .u64 0, .int .u64 0, .int .u64 0, .int .u64 0, .int .u64 0, .slice none 0 0, .int .u64 0] 45)
       have lY9 := Y9.lt
       clear hsi9 hb9)
    | (with_reducible refine wpList_store_h rfl (.tmp 12) (.tmp 47) rfl w9.heap.size sb A9 N' c9 (n + n2) rfl rfl sz none 0 0 0 (by with_unfolding_all exact z9) Tryd.infoH w.heap.size w (by with_unfolding_all exact B9a) B9.size ?_
       intro w10 Z10 o10 s10 B10
       have X10 : HoldsH w10 w3.heap.size sa A3 N c3 n := (o10 _ (by omega)).trans (by with_unfolding_all exact X9a)
       have P10 : HoldsB w10 48 w5.heap.size suma := (o10 _ (by omega)).trans (by with_unfolding_all exact P9a)
       have Y10 : HoldsH w10 w7.heap.size sa A7 N c7 n := (o10 _ (by omega)).trans (by with_unfolding_all exact Y9a)
       have hs4 := hs4.keep (fun p hp => cell_of_heap ((o10 p.block (by omega)).trans (heap_alloc_other w9 _ (by omega))))
       have hs8 := hs8.keep (fun p hp => cell_of_heap ((o10 p.block (by omega)).trans (heap_alloc_other w9 _ (by omega))))
       have hs10 : Sees w10 w9.heap.size A9 N' c9 (rb.map bv) := hs9.keep (fun p hp => cell_of_heap ((o10 p.block (by omega)).trans (heap_alloc_other w9 _ hp)))
       have lZ10 := Z10.lt
       clear z9 B9a s10 hs9 o10 X9a P9a Y9a)
    | (go_at_call 22
       with_reducible refine (M2.out w6 A3 c3 B6 (hs4.more (by omega))).mono ?_
       rintro e w7 ⟨A7, c7, rfl, hsi7, hb7⟩
       have hs7 := hsi7.1
       have B7 := B6.trans (hb7.mono B6.size)
       have X7 := X6.keep hb7 X6.lt
       have P7 := P6.keep hb7 P6.lt
       have hs4 := hs4.upTo hb7 (by omega)
       have z7 := hx_start w7
       have B7a := B7.alloc B7.size (.cells #[.int .u64 0, .int .u64 0, .int .u64 0, .int .u64 0, .int .u64 0, .int .u64 0, .int .u64 0, .int .u64 0, .slice none 0 0, .int .u64 0] 45)
       have X7a := X7.alloc (.cells #[.int .u64 0, .int .u64 0, .int .u64 0, .int .u64 0, .int .u64 0, .int .u64 0, .int .u64 0, .int .u64 0, .slice none 0 0, .int .u64 0] 45)
       have lX7 := X7.lt
       have P7a := P7.alloc (.cells #[.int .u64 0, .int .u64 0, .int .u64 0, .int .u64 0, .int .u64 0, .int .u64 0, .int .u64 0, .int .u64 0, .slice none 0 0, .int .u64 0] 45)
       have lP7 := P7.lt
       clear hsi7 hb7)
    | (with_reducible refine wpList_store_h rfl (.tmp 10) (.tmp 41) rfl w7.heap.size sa A7 N c7 n rfl rfl sz none 0 0 0 (by with_unfolding_all exact z7) Tryd.infoH w.heap.size w (by with_unfolding_all exact B7a) B7.size ?_
       intro w8 Y8 o8 s8 B8
       have X8 : HoldsH w8 w3.heap.size sa A3 N c3 n := (o8 _ (by omega)).trans (by with_unfolding_all exact X7a)
       have P8 : HoldsB w8 48 w5.heap.size suma := (o8 _ (by omega)).trans (by with_unfolding_all exact P7a)
       have hs4 := hs4.keep (fun p hp => cell_of_heap ((o8 p.block (by omega)).trans (heap_alloc_other w7 _ (by omega))))
       have hs8 : Sees w8 w7.heap.size A7 N c7 (ra.map bv) := hs7.keep (fun p hp => cell_of_heap ((o8 p.block (by omega)).trans (heap_alloc_other w7 _ hp)))
       have lY8 := Y8.lt
       clear z7 B7a s8 hs7 o8 X7a P7a)
    | (go_at_call 22
       with_reducible refine (M0.out w2 B2).mono ?_
       rintro e w3 ⟨A3, c3, rfl, hsi3, hb3⟩
       have hs3 := hsi3.1
       have B3 := B2.trans (hb3.mono B2.size)
       have z3 := hx_start w3
       have B3a := B3.alloc B3.size (.cells #[.int .u64 0, .int .u64 0, .int .u64 0, .int .u64 0, .int .u64 0, .int .u64 0, .int .u64 0, .int .u64 0, .slice none 0 0, .int .u64 0] 45)
       clear hsi3 hb3)
    | (with_reducible refine wpList_store_h rfl (.tmp 6) (.tmp 31) rfl w3.heap.size sa A3 N c3 n rfl rfl sz none 0 0 0 (by with_unfolding_all exact z3) Tryd.infoH w.heap.size w (by with_unfolding_all exact B3a) B3.size ?_
       intro w4 X4 o4 s4 B4
       have hs4 : Sees w4 w3.heap.size A3 N c3 (ra.map bv) := hs3.keep (fun p hp => cell_of_heap ((o4 p.block (by omega)).trans (heap_alloc_other w3 _ hp)))
       have lX4 := X4.lt
       clear z3 B3a s4 hs3 o4 )
    | (with_reducible refine wpList_load_h rfl (.tmp 12) rfl w9.heap.size rfl sb A9 N' c9 (n + n2) Z10 Tryd.underlying45 Tryd.infoH ?_)
    | (with_reducible refine wpList_load_h rfl (.tmp 10) rfl w7.heap.size rfl sa A7 N c7 n Y12 Tryd.underlying45 Tryd.infoH ?_)
    | (with_reducible refine wpList_load_h rfl (.tmp 6) rfl w3.heap.size rfl sa A3 N c3 n X4 Tryd.underlying45 Tryd.infoH ?_)
    | (with_reducible refine wpList_load_h rfl (.tmp 6) rfl w3.heap.size rfl sa A3 N c3 n X6 Tryd.underlying45 Tryd.infoH ?_)
    | (with_reducible refine wpList_load_h rfl (.tmp 6) rfl w3.heap.size rfl sa A3 N c3 n X8 Tryd.underlying45 Tryd.infoH ?_)
    | (with_reducible refine wpList_load_h rfl (.tmp 6) rfl w3.heap.size rfl sa A3 N c3 n X12 Tryd.underlying45 Tryd.infoH ?_)
    | (go_at_call 26
       with_reducible refine (Same_true sa A3 A7 N c3 c7 n w12.heap.size ra w12 (hs4.more (by omega)) (hs8.more (by omega)) (Nat.le_refl _)).mono ?_
       rintro e w13 ⟨rfl, hb13⟩
       have B13 := B12.trans (hb13.mono B12.size)
       have P13 := P12.keep hb13 P12.lt
       have Q13 := Q12.keep hb13 Q12.lt
       clear hb13)
    | fail)
  have P13d : HoldsB w13.drew 48 w5.heap.size suma := P13
  have Q13d : HoldsB w13.drew 48 w11.heap.size sumab := Q13
  have B13d := B13.drew
  have q1 := fun W => run_eql_b32 suma W HO1.out
  have q2 := fun x y a b W => run_guard_b32 x y a b W
  have q3 := fun W => run_eql_b32 sumab W HO2.out
  refine wp_region_noPanic ?_
  refine wp_region_held_drew (S := (fun W => (loadVeil 48 ⟨w5.heap.size, 0, none⟩).run Tryd.prog W = .ok (.agg (suma.map bv).toArray) W ∧ (loadVeil 48 ⟨w11.heap.size, 0, none⟩).run Tryd.prog W = .ok (.agg (sumab.map bv).toArray) W)) (by kernel_rfl) (by (try dsimp only); (first | exact ⟨run_loadVeil HO1.out P13d, run_loadVeil HO2.out Q13d⟩ | exact ⟨run_loadVeil HO1.out P14, run_loadVeil HO2.out Q14⟩ | exact ⟨run_loadVeil HO1.out (P14.alloc _), run_loadVeil HO2.out (Q14.alloc _)⟩ | exact ⟨run_loadVeil HO1.out P15, run_loadVeil HO2.out Q15⟩ | exact ⟨run_loadVeil HO1.out P16, run_loadVeil HO2.out Q16⟩ | exact ⟨run_loadVeil HO1.out P17, run_loadVeil HO2.out Q17⟩)) (fun hHeld => ?_)
  refine wpAnyH_take (i := 0) (v := ?_) rfl (by kernel_rfl) (by kernel_rfl) (by kernel_rfl) (fun _ _ _ h => h) (Or.inl ⟨by rfl, ?_⟩) (by assumption) ?_
  rotate_left
  · intro w hSw; (try dsimp only at hSw); go_simp <;> with_reducible rfl
  try simp only [Act.put, List.getElem_toArray, List.getElem_cons_zero, List.setIfInBounds_toArray, List.set_cons_zero, List.set_cons_succ]
  refine wpAnyH_take (i := 1) (v := ?_) rfl (by kernel_rfl) (by kernel_rfl) (by kernel_rfl) (fun _ _ _ h => h) (Or.inl ⟨by rfl, ?_⟩) (by assumption) ?_
  rotate_left
  · intro w hSw; (try dsimp only at hSw); go_simp <;> with_reducible rfl
  try simp only [Act.put, List.getElem_toArray, List.getElem_cons_succ, List.getElem_cons_zero, List.setIfInBounds_toArray, List.set_cons_zero, List.set_cons_succ]
  refine wpAnyH_take (i := 2) (v := ?_) rfl (by kernel_rfl) (by kernel_rfl) (by kernel_rfl) (fun _ _ _ h => h) (Or.inl ⟨by rfl, ?_⟩) (by assumption) ?_
  rotate_left
  · intro w hSw; (try dsimp only at hSw); go_simp <;> with_reducible rfl
  try simp only [Act.put, List.getElem_toArray, List.getElem_cons_succ, List.getElem_cons_zero, List.setIfInBounds_toArray, List.set_cons_zero, List.set_cons_succ]
  refine wpAnyH_take (i := 3) (v := ?_) rfl (by kernel_rfl) (by kernel_rfl) (by kernel_rfl) (fun _ _ _ h => h) (Or.inl ⟨by rfl, ?_⟩) (by assumption) ?_
  rotate_left
  · intro w hSw; (try dsimp only at hSw); go_simp <;> with_reducible rfl
  try simp only [Act.put, List.getElem_toArray, List.getElem_cons_succ, List.getElem_cons_zero, List.setIfInBounds_toArray, List.set_cons_zero, List.set_cons_succ]
  refine wpAnyH_take (i := 4) (v := ?_) rfl (by kernel_rfl) (by kernel_rfl) (by kernel_rfl) (fun _ _ _ h => h) (Or.inl ⟨by rfl, ?_⟩) (by assumption) ?_
  rotate_left
  · intro w hSw; (try dsimp only at hSw); go_simp <;> with_reducible rfl
  try simp only [Act.put, List.getElem_toArray, List.getElem_cons_succ, List.getElem_cons_zero, List.setIfInBounds_toArray, List.set_cons_zero, List.set_cons_succ]
  refine wpAnyH_take (i := 5) (v := ?_) rfl (by kernel_rfl) (by kernel_rfl) (by kernel_rfl) (fun _ _ _ h => h) (Or.inl ⟨by rfl, ?_⟩) (by assumption) ?_
  rotate_left
  · intro w hSw; (try dsimp only at hSw); go_simp <;> with_reducible rfl
  try simp only [Act.put, List.getElem_toArray, List.getElem_cons_succ, List.getElem_cons_zero, List.setIfInBounds_toArray, List.set_cons_zero, List.set_cons_succ]
  refine wpAnyH_take (i := 6) (v := ?_) rfl (by kernel_rfl) (by kernel_rfl) (by kernel_rfl) (fun _ _ _ h => h) (Or.inl ⟨by rfl, ?_⟩) (by assumption) ?_
  rotate_left
  · intro w hSw; (try dsimp only at hSw); go_simp <;> with_reducible rfl
  try simp only [Act.put, List.getElem_toArray, List.getElem_cons_succ, List.getElem_cons_zero, List.setIfInBounds_toArray, List.set_cons_zero, List.set_cons_succ]
  refine wpAnyH_take (i := 7) (v := ?_) rfl (by kernel_rfl) (by kernel_rfl) (by kernel_rfl) (fun _ _ _ h => h) (Or.inl ⟨by rfl, ?_⟩) (by assumption) ?_
  rotate_left
  · intro w hSw; (try dsimp only at hSw); go_simp <;> with_reducible rfl
  try simp only [Act.put, List.getElem_toArray, List.getElem_cons_succ, List.getElem_cons_zero, List.setIfInBounds_toArray, List.set_cons_zero, List.set_cons_succ]
  refine wpAnyH_take (i := 8) (v := ?_) rfl (by kernel_rfl) (by kernel_rfl) (by kernel_rfl) (fun _ _ _ h => h) (Or.inl ⟨by rfl, ?_⟩) (by assumption) ?_
  rotate_left
  · intro w hSw; (try dsimp only at hSw); go_simp <;> with_reducible rfl
  try simp only [Act.put, List.getElem_toArray, List.getElem_cons_succ, List.getElem_cons_zero, List.setIfInBounds_toArray, List.set_cons_zero, List.set_cons_succ]
  refine wpAnyH_take (i := 9) (v := ?_) rfl (by kernel_rfl) (by kernel_rfl) (by kernel_rfl) (fun _ _ _ h => h) (Or.inl ⟨by rfl, ?_⟩) (by assumption) ?_
  rotate_left
  · intro w hSw; (try dsimp only at hSw); go_simp <;> with_reducible rfl
  try simp only [Act.put, List.getElem_toArray, List.getElem_cons_succ, List.getElem_cons_zero, List.setIfInBounds_toArray, List.set_cons_zero, List.set_cons_succ]
  refine wpAnyH_take (i := 10) (v := ?_) rfl (by kernel_rfl) (by kernel_rfl) (by kernel_rfl) (fun _ _ _ h => h) (Or.inl ⟨by rfl, ?_⟩) (by assumption) ?_
  rotate_left
  · intro w hSw; (try dsimp only at hSw); go_simp <;> with_reducible rfl
  try simp only [Act.put, List.getElem_toArray, List.getElem_cons_succ, List.getElem_cons_zero, List.setIfInBounds_toArray, List.set_cons_zero, List.set_cons_succ]
  refine wpAnyH_take (i := 11) (v := ?_) rfl (by kernel_rfl) (by kernel_rfl) (by kernel_rfl) (fun _ _ _ h => h) (Or.inl ⟨by rfl, ?_⟩) (by assumption) ?_
  rotate_left
  · intro w hSw; (try dsimp only at hSw); go_simp <;> with_reducible rfl
  try simp only [Act.put, List.getElem_toArray, List.getElem_cons_succ, List.getElem_cons_zero, List.setIfInBounds_toArray, List.set_cons_zero, List.set_cons_succ]
  refine wpAnyH_take (i := 12) (v := ?_) rfl (by kernel_rfl) (by kernel_rfl) (by kernel_rfl) (fun _ _ _ h => h) (Or.inl ⟨by rfl, ?_⟩) (by assumption) ?_
  rotate_left
  · intro w hSw; (try dsimp only at hSw); go_simp <;> with_reducible rfl
  try simp only [Act.put, List.getElem_toArray, List.getElem_cons_succ, List.getElem_cons_zero, List.setIfInBounds_toArray, List.set_cons_zero, List.set_cons_succ]
  refine wpAnyH_take (i := 13) (v := ?_) rfl (by kernel_rfl) (by kernel_rfl) (by kernel_rfl) (fun _ _ _ h => h) (Or.inl ⟨by rfl, ?_⟩) (by assumption) ?_
  rotate_left
  · intro w hSw; (try dsimp only at hSw); go_simp <;> with_reducible rfl
  try simp only [Act.put, List.getElem_toArray, List.getElem_cons_succ, List.getElem_cons_zero, List.setIfInBounds_toArray, List.set_cons_zero, List.set_cons_succ]
  refine wpAnyH_take (i := 14) (v := ?_) rfl (by kernel_rfl) (by kernel_rfl) (by kernel_rfl) (fun _ _ _ h => h) (Or.inl ⟨by rfl, ?_⟩) (by assumption) ?_
  rotate_left
  · intro w hSw; (try dsimp only at hSw); go_simp <;> with_reducible rfl
  try simp only [Act.put, List.getElem_toArray, List.getElem_cons_succ, List.getElem_cons_zero, List.setIfInBounds_toArray, List.set_cons_zero, List.set_cons_succ]
  refine wpAnyH_take (i := 15) (v := ?_) rfl (by kernel_rfl) (by kernel_rfl) (by kernel_rfl) (fun _ _ _ h => h) (Or.inl ⟨by rfl, ?_⟩) (by assumption) ?_
  rotate_left
  · intro w hSw; (try dsimp only at hSw); go_simp <;> with_reducible rfl
  try simp only [Act.put, List.getElem_toArray, List.getElem_cons_succ, List.getElem_cons_zero, List.setIfInBounds_toArray, List.set_cons_zero, List.set_cons_succ]
  refine wpAnyH_take (i := 16) (v := ?_) rfl (by kernel_rfl) (by kernel_rfl) (by kernel_rfl) (fun _ _ _ h => h) (Or.inl ⟨by rfl, ?_⟩) (by assumption) ?_
  rotate_left
  · intro w hSw; (try dsimp only at hSw); go_simp <;> with_reducible rfl
  try simp only [Act.put, List.getElem_toArray, List.getElem_cons_succ, List.getElem_cons_zero, List.setIfInBounds_toArray, List.set_cons_zero, List.set_cons_succ]
  refine wpAnyH_take (i := 17) (v := ?_) rfl (by kernel_rfl) (by kernel_rfl) (by kernel_rfl) (fun _ _ _ h => h) (Or.inl ⟨by rfl, ?_⟩) (by assumption) ?_
  rotate_left
  · intro w hSw; (try dsimp only at hSw); go_simp <;> with_reducible rfl
  try simp only [Act.put, List.getElem_toArray, List.getElem_cons_succ, List.getElem_cons_zero, List.setIfInBounds_toArray, List.set_cons_zero, List.set_cons_succ]
  refine wpAnyH_take (i := 18) (v := ?_) rfl (by kernel_rfl) (by kernel_rfl) (by kernel_rfl) (fun _ _ _ h => h) (Or.inl ⟨by rfl, ?_⟩) (by assumption) ?_
  rotate_left
  · intro w hSw; (try dsimp only at hSw); go_simp <;> with_reducible rfl
  try simp only [Act.put, List.getElem_toArray, List.getElem_cons_succ, List.getElem_cons_zero, List.setIfInBounds_toArray, List.set_cons_zero, List.set_cons_succ]
  refine wpAnyH_take (i := 19) (v := ?_) rfl (by kernel_rfl) (by kernel_rfl) (by kernel_rfl) (fun _ _ _ h => h) (Or.inl ⟨by rfl, ?_⟩) (by assumption) ?_
  rotate_left
  · intro w hSw; (try dsimp only at hSw); go_simp <;> with_reducible rfl
  try simp only [Act.put, List.getElem_toArray, List.getElem_cons_succ, List.getElem_cons_zero, List.setIfInBounds_toArray, List.set_cons_zero, List.set_cons_succ]
  refine wpAnyH_take (i := 20) (v := ?_) rfl (by kernel_rfl) (by kernel_rfl) (by kernel_rfl) (fun _ _ _ h => h) (Or.inl ⟨by rfl, ?_⟩) (by assumption) ?_
  rotate_left
  · intro w hSw; (try dsimp only at hSw); go_simp <;> with_reducible rfl
  try simp only [Act.put, List.getElem_toArray, List.getElem_cons_succ, List.getElem_cons_zero, List.setIfInBounds_toArray, List.set_cons_zero, List.set_cons_succ]
  refine wpAnyH_take (i := 21) (v := ?_) rfl (by kernel_rfl) (by kernel_rfl) (by kernel_rfl) (fun _ _ _ h => h) (Or.inl ⟨by rfl, ?_⟩) (by assumption) ?_
  rotate_left
  · intro w hSw; (try dsimp only at hSw); go_simp <;> with_reducible rfl
  try simp only [Act.put, List.getElem_toArray, List.getElem_cons_succ, List.getElem_cons_zero, List.setIfInBounds_toArray, List.set_cons_zero, List.set_cons_succ]
  refine wpAnyH_take (i := 22) (v := ?_) rfl (by kernel_rfl) (by kernel_rfl) (by kernel_rfl) (fun _ _ _ h => h) (Or.inl ⟨by rfl, ?_⟩) (by assumption) ?_
  rotate_left
  · intro w hSw; (try dsimp only at hSw); go_simp <;> with_reducible rfl
  try simp only [Act.put, List.getElem_toArray, List.getElem_cons_succ, List.getElem_cons_zero, List.setIfInBounds_toArray, List.set_cons_zero, List.set_cons_succ]
  refine wpAnyH_take (i := 23) (v := ?_) rfl (by kernel_rfl) (by kernel_rfl) (by kernel_rfl) (fun _ _ _ h => h) (Or.inl ⟨by rfl, ?_⟩) (by assumption) ?_
  rotate_left
  · intro w hSw; (try dsimp only at hSw); go_simp <;> with_reducible rfl
  try simp only [Act.put, List.getElem_toArray, List.getElem_cons_succ, List.getElem_cons_zero, List.setIfInBounds_toArray, List.set_cons_zero, List.set_cons_succ]
  refine wpAnyH_take (i := 24) (v := ?_) rfl (by kernel_rfl) (by kernel_rfl) (by kernel_rfl) (fun _ _ _ h => h) (Or.inl ⟨by rfl, ?_⟩) (by assumption) ?_
  rotate_left
  · intro w hSw; (try dsimp only at hSw); go_simp <;> with_reducible rfl
  try simp only [Act.put, List.getElem_toArray, List.getElem_cons_succ, List.getElem_cons_zero, List.setIfInBounds_toArray, List.set_cons_zero, List.set_cons_succ]
  refine wpAnyH_take (i := 25) (v := ?_) rfl (by kernel_rfl) (by kernel_rfl) (by kernel_rfl) (fun _ _ _ h => h) (Or.inl ⟨by rfl, ?_⟩) (by assumption) ?_
  rotate_left
  · intro w hSw; (try dsimp only at hSw); go_simp <;> with_reducible rfl
  try simp only [Act.put, List.getElem_toArray, List.getElem_cons_succ, List.getElem_cons_zero, List.setIfInBounds_toArray, List.set_cons_zero, List.set_cons_succ]
  refine wpAnyH_take (i := 26) (v := ?_) rfl (by kernel_rfl) (by kernel_rfl) (by kernel_rfl) (fun _ _ _ h => h) (Or.inl ⟨by rfl, ?_⟩) (by assumption) ?_
  rotate_left
  · intro w hSw; (try dsimp only at hSw); go_simp <;> with_reducible rfl
  try simp only [Act.put, List.getElem_toArray, List.getElem_cons_succ, List.getElem_cons_zero, List.setIfInBounds_toArray, List.set_cons_zero, List.set_cons_succ]
  refine wpAnyH_ready (rs := [27]) (by kernel_rfl) (by simp) ?_
  refine AllReadyH.cons rfl (fun K hK => ?_) AllReadyH.nil
  go_simp
  (first | (refine step_append_sees_g _ (by rfl) (.tmp 89) (.tmp 90) _ (by rfl) w14.heap.size 5 i0 _ 1 Tryd.underlying24 hi0 hz0 hz1 hz2 rfl (.slice (some ⟨w14.heap.size, 0, none⟩) 0 0) 0 [] (by rfl) (own_empty _ _ _ (heap_alloc_new _ _)) B A n c (a.map bv) (by rfl) ((h.upTo B14 hB).alloc (Nat.le_trans hB B14.size) _) (bv_one _) (by simp only [maxLen]; omega) (by omega) (by rw [World.size_alloc]; omega) w14.heap.size w14 ((Below.refl _ _).alloc (Nat.le_refl _) _) (Nat.le_refl _) ?_; intro A8 c8 w15 hown8 hb8; simp only [Nat.zero_add, List.nil_append] at hown8; (try simp only [Nat.zero_add]); have hz8 := hb8.size; have P15 := P14.keep hb8 P14.lt; have Q15 := Q14.keep hb8 Q14.lt) | (refine step_append_sees_g _ (by rfl) (.tmp 91) (.tmp 92) _ (by rfl) w14.heap.size 5 i0 _ 1 Tryd.underlying24 hi0 hz0 hz1 hz2 rfl (.slice A8 n c8) n _ (by rfl) hown8 B A2 n2 c2 (b.map bv) (by rfl) ((h2.upTo B14 hB).upTo hb8 (Nat.le_trans hB B14.size)) (bv_one _) (by simp only [maxLen]; omega) (by omega) hz8 w14.heap.size w14 hb8 (Nat.le_refl _) ?_; intro A9 c9 w16 hown9 hb9; have hs9 := (seesIn_of_own hown9).1; rw [← List.map_append] at hs9; have P16 := P14.keep hb9 P14.lt; have Q16 := Q14.keep hb9 Q14.lt; have B16 := B14.trans (hb9.mono B14.size)) | (go_at_call 29; (first | ((with_reducible refine (S1.out _ B13d).mono ?_); rintro e w14 ⟨rfl, hb14⟩; have B14 := B13d.trans (hb14.mono B13d.size); have P14 := P13d.keep hb14 P13d.lt; have Q14 := Q13d.keep hb14 Q13d.lt) | ((with_reducible refine (S2.out _ A9 c9 B16 hs9).mono ?_); rintro e w17 ⟨rfl, hb17⟩; have B17 := B16.trans (hb17.mono B16.size); have P17 := P16.keep hb17 P16.lt; have Q17 := Q16.keep hb17 Q16.lt))))
  go_wp2_with fail
  refine hK.out _ _ ?_ (fun hHeld => ?_)
  · (try dsimp only); (first | exact ⟨run_loadVeil HO1.out P13d, run_loadVeil HO2.out Q13d⟩ | exact ⟨run_loadVeil HO1.out P14, run_loadVeil HO2.out Q14⟩ | exact ⟨run_loadVeil HO1.out (P14.alloc _), run_loadVeil HO2.out (Q14.alloc _)⟩ | exact ⟨run_loadVeil HO1.out P15, run_loadVeil HO2.out Q15⟩ | exact ⟨run_loadVeil HO1.out P16, run_loadVeil HO2.out Q16⟩ | exact ⟨run_loadVeil HO1.out P17, run_loadVeil HO2.out Q17⟩)
  clear hK K
  try simp only [Act.put, List.getElem_toArray, List.getElem_cons_succ, List.getElem_cons_zero, List.setIfInBounds_toArray, List.set_cons_zero, List.set_cons_succ]
  refine wpAnyH_take (i := 28) (v := ?_) rfl (by kernel_rfl) (by kernel_rfl) (by kernel_rfl) (fun _ _ _ h => h) (Or.inl ⟨by rfl, ?_⟩) (by assumption) ?_
  rotate_left
  · intro w hSw; (try dsimp only at hSw); go_simp <;> with_reducible rfl
  try simp only [Act.put, List.getElem_toArray, List.getElem_cons_succ, List.getElem_cons_zero, List.setIfInBounds_toArray, List.set_cons_zero, List.set_cons_succ]
  refine wpAnyH_take (i := 29) (v := ?_) rfl (by kernel_rfl) (by kernel_rfl) (by kernel_rfl) (fun _ _ _ h => h) (Or.inl ⟨by rfl, ?_⟩) (by assumption) ?_
  rotate_left
  · intro w hSw; (try dsimp only at hSw); go_simp <;> with_reducible rfl
  try simp only [Act.put, List.getElem_toArray, List.getElem_cons_succ, List.getElem_cons_zero, List.setIfInBounds_toArray, List.set_cons_zero, List.set_cons_succ]
  refine wpAnyH_take (i := 30) (v := ?_) rfl (by kernel_rfl) (by kernel_rfl) (by kernel_rfl) (fun _ _ _ h => h) (Or.inl ⟨by rfl, ?_⟩) (by assumption) ?_
  rotate_left
  · intro w hSw; (try dsimp only at hSw); go_simp <;> with_reducible rfl
  try simp only [Act.put, List.getElem_toArray, List.getElem_cons_succ, List.getElem_cons_zero, List.setIfInBounds_toArray, List.set_cons_zero, List.set_cons_succ]
  refine wpAnyH_take (i := 31) (v := ?_) rfl (by kernel_rfl) (by kernel_rfl) (by kernel_rfl) (fun _ _ _ h => h) (Or.inl ⟨by rfl, ?_⟩) (by assumption) ?_
  rotate_left
  · intro w hSw; (try dsimp only at hSw); go_simp <;> with_reducible rfl
  try simp only [Act.put, List.getElem_toArray, List.getElem_cons_succ, List.getElem_cons_zero, List.setIfInBounds_toArray, List.set_cons_zero, List.set_cons_succ]
  refine wpAnyH_take (i := 33) (v := ?_) rfl (by kernel_rfl) (by kernel_rfl) (by kernel_rfl) (fun _ _ _ h => h) (Or.inl ⟨by rfl, ?_⟩) (by assumption) ?_
  rotate_left
  · intro w hSw; (try dsimp only at hSw); go_simp <;> with_reducible rfl
  try simp only [Act.put, List.getElem_toArray, List.getElem_cons_succ, List.getElem_cons_zero, List.setIfInBounds_toArray, List.set_cons_zero, List.set_cons_succ]
  refine wpAnyH_take (i := 35) (v := ?_) rfl (by kernel_rfl) (by kernel_rfl) (by kernel_rfl) (fun _ _ _ h => h) (Or.inl ⟨by rfl, ?_⟩) (by assumption) ?_
  rotate_left
  · intro w hSw; (try dsimp only at hSw); go_simp <;> with_reducible rfl
  try simp only [Act.put, List.getElem_toArray, List.getElem_cons_succ, List.getElem_cons_zero, List.setIfInBounds_toArray, List.set_cons_zero, List.set_cons_succ]
  refine wpAnyH_ready (rs := [32]) (by kernel_rfl) (by simp) ?_
  refine AllReadyH.cons rfl (fun K hK => ?_) AllReadyH.nil
  go_simp
  refine hK.out _ _ ?_ (fun hHeld => ?_)
  · (try dsimp only); (first | exact ⟨run_loadVeil HO1.out P13d, run_loadVeil HO2.out Q13d⟩ | exact ⟨run_loadVeil HO1.out P14, run_loadVeil HO2.out Q14⟩ | exact ⟨run_loadVeil HO1.out (P14.alloc _), run_loadVeil HO2.out (Q14.alloc _)⟩ | exact ⟨run_loadVeil HO1.out P15, run_loadVeil HO2.out Q15⟩ | exact ⟨run_loadVeil HO1.out P16, run_loadVeil HO2.out Q16⟩ | exact ⟨run_loadVeil HO1.out P17, run_loadVeil HO2.out Q17⟩)
  clear hK K
  try simp only [Act.put, List.getElem_toArray, List.getElem_cons_succ, List.getElem_cons_zero, List.setIfInBounds_toArray, List.set_cons_zero, List.set_cons_succ]
  refine wpAnyH_ready (rs := [34]) (by kernel_rfl) (by simp) ?_
  refine AllReadyH.cons rfl (fun K hK => ?_) AllReadyH.nil
  (first | (refine step_append_sees_g _ (by rfl) (.tmp 89) (.tmp 90) _ (by rfl) w14.heap.size 5 i0 _ 1 Tryd.underlying24 hi0 hz0 hz1 hz2 rfl (.slice (some ⟨w14.heap.size, 0, none⟩) 0 0) 0 [] (by rfl) (own_empty _ _ _ (heap_alloc_new _ _)) B A n c (a.map bv) (by rfl) ((h.upTo B14 hB).alloc (Nat.le_trans hB B14.size) _) (bv_one _) (by simp only [maxLen]; omega) (by omega) (by rw [World.size_alloc]; omega) w14.heap.size w14 ((Below.refl _ _).alloc (Nat.le_refl _) _) (Nat.le_refl _) ?_; intro A8 c8 w15 hown8 hb8; simp only [Nat.zero_add, List.nil_append] at hown8; (try simp only [Nat.zero_add]); have hz8 := hb8.size; have P15 := P14.keep hb8 P14.lt; have Q15 := Q14.keep hb8 Q14.lt) | (refine step_append_sees_g _ (by rfl) (.tmp 91) (.tmp 92) _ (by rfl) w14.heap.size 5 i0 _ 1 Tryd.underlying24 hi0 hz0 hz1 hz2 rfl (.slice A8 n c8) n _ (by rfl) hown8 B A2 n2 c2 (b.map bv) (by rfl) ((h2.upTo B14 hB).upTo hb8 (Nat.le_trans hB B14.size)) (bv_one _) (by simp only [maxLen]; omega) (by omega) hz8 w14.heap.size w14 hb8 (Nat.le_refl _) ?_; intro A9 c9 w16 hown9 hb9; have hs9 := (seesIn_of_own hown9).1; rw [← List.map_append] at hs9; have P16 := P14.keep hb9 P14.lt; have Q16 := Q14.keep hb9 Q14.lt; have B16 := B14.trans (hb9.mono B14.size)) | (go_at_call 29; (first | ((with_reducible refine (S1.out _ B13d).mono ?_); rintro e w14 ⟨rfl, hb14⟩; have B14 := B13d.trans (hb14.mono B13d.size); have P14 := P13d.keep hb14 P13d.lt; have Q14 := Q13d.keep hb14 Q13d.lt) | ((with_reducible refine (S2.out _ A9 c9 B16 hs9).mono ?_); rintro e w17 ⟨rfl, hb17⟩; have B17 := B16.trans (hb17.mono B16.size); have P17 := P16.keep hb17 P16.lt; have Q17 := Q16.keep hb17 Q16.lt))))
  refine hK.out _ _ ?_ (fun hHeld => ?_)
  · (try dsimp only); (first | exact ⟨run_loadVeil HO1.out P13d, run_loadVeil HO2.out Q13d⟩ | exact ⟨run_loadVeil HO1.out P14, run_loadVeil HO2.out Q14⟩ | exact ⟨run_loadVeil HO1.out (P14.alloc _), run_loadVeil HO2.out (Q14.alloc _)⟩ | exact ⟨run_loadVeil HO1.out P15, run_loadVeil HO2.out Q15⟩ | exact ⟨run_loadVeil HO1.out P16, run_loadVeil HO2.out Q16⟩ | exact ⟨run_loadVeil HO1.out P17, run_loadVeil HO2.out Q17⟩)
  clear hK K
  try simp only [Act.put, List.getElem_toArray, List.getElem_cons_succ, List.getElem_cons_zero, List.setIfInBounds_toArray, List.set_cons_zero, List.set_cons_succ]
  refine wpAnyH_ready (rs := [36]) (by kernel_rfl) (by simp) ?_
  refine AllReadyH.cons rfl (fun K hK => ?_) AllReadyH.nil
  (first | (refine step_append_sees_g _ (by rfl) (.tmp 89) (.tmp 90) _ (by rfl) w14.heap.size 5 i0 _ 1 Tryd.underlying24 hi0 hz0 hz1 hz2 rfl (.slice (some ⟨w14.heap.size, 0, none⟩) 0 0) 0 [] (by rfl) (own_empty _ _ _ (heap_alloc_new _ _)) B A n c (a.map bv) (by rfl) ((h.upTo B14 hB).alloc (Nat.le_trans hB B14.size) _) (bv_one _) (by simp only [maxLen]; omega) (by omega) (by rw [World.size_alloc]; omega) w14.heap.size w14 ((Below.refl _ _).alloc (Nat.le_refl _) _) (Nat.le_refl _) ?_; intro A8 c8 w15 hown8 hb8; simp only [Nat.zero_add, List.nil_append] at hown8; (try simp only [Nat.zero_add]); have hz8 := hb8.size; have P15 := P14.keep hb8 P14.lt; have Q15 := Q14.keep hb8 Q14.lt) | (refine step_append_sees_g _ (by rfl) (.tmp 91) (.tmp 92) _ (by rfl) w14.heap.size 5 i0 _ 1 Tryd.underlying24 hi0 hz0 hz1 hz2 rfl (.slice A8 n c8) n _ (by rfl) hown8 B A2 n2 c2 (b.map bv) (by rfl) ((h2.upTo B14 hB).upTo hb8 (Nat.le_trans hB B14.size)) (bv_one _) (by simp only [maxLen]; omega) (by omega) hz8 w14.heap.size w14 hb8 (Nat.le_refl _) ?_; intro A9 c9 w16 hown9 hb9; have hs9 := (seesIn_of_own hown9).1; rw [← List.map_append] at hs9; have P16 := P14.keep hb9 P14.lt; have Q16 := Q14.keep hb9 Q14.lt; have B16 := B14.trans (hb9.mono B14.size)) | (go_at_call 29; (first | ((with_reducible refine (S1.out _ B13d).mono ?_); rintro e w14 ⟨rfl, hb14⟩; have B14 := B13d.trans (hb14.mono B13d.size); have P14 := P13d.keep hb14 P13d.lt; have Q14 := Q13d.keep hb14 Q13d.lt) | ((with_reducible refine (S2.out _ A9 c9 B16 hs9).mono ?_); rintro e w17 ⟨rfl, hb17⟩; have B17 := B16.trans (hb17.mono B16.size); have P17 := P16.keep hb17 P16.lt; have Q17 := Q16.keep hb17 Q16.lt))))
  refine hK.out _ _ ?_ (fun hHeld => ?_)
  · (try dsimp only); (first | exact ⟨run_loadVeil HO1.out P13d, run_loadVeil HO2.out Q13d⟩ | exact ⟨run_loadVeil HO1.out P14, run_loadVeil HO2.out Q14⟩ | exact ⟨run_loadVeil HO1.out (P14.alloc _), run_loadVeil HO2.out (Q14.alloc _)⟩ | exact ⟨run_loadVeil HO1.out P15, run_loadVeil HO2.out Q15⟩ | exact ⟨run_loadVeil HO1.out P16, run_loadVeil HO2.out Q16⟩ | exact ⟨run_loadVeil HO1.out P17, run_loadVeil HO2.out Q17⟩)
  clear hK K
  try simp only [Act.put, List.getElem_toArray, List.getElem_cons_succ, List.getElem_cons_zero, List.setIfInBounds_toArray, List.set_cons_zero, List.set_cons_succ]
  refine wpAnyH_ready (rs := [37]) (by kernel_rfl) (by simp) ?_
  refine AllReadyH.cons rfl (fun K hK => ?_) AllReadyH.nil
  go_simp
  (first | (refine step_append_sees_g _ (by rfl) (.tmp 89) (.tmp 90) _ (by rfl) w14.heap.size 5 i0 _ 1 Tryd.underlying24 hi0 hz0 hz1 hz2 rfl (.slice (some ⟨w14.heap.size, 0, none⟩) 0 0) 0 [] (by rfl) (own_empty _ _ _ (heap_alloc_new _ _)) B A n c (a.map bv) (by rfl) ((h.upTo B14 hB).alloc (Nat.le_trans hB B14.size) _) (bv_one _) (by simp only [maxLen]; omega) (by omega) (by rw [World.size_alloc]; omega) w14.heap.size w14 ((Below.refl _ _).alloc (Nat.le_refl _) _) (Nat.le_refl _) ?_; intro A8 c8 w15 hown8 hb8; simp only [Nat.zero_add, List.nil_append] at hown8; (try simp only [Nat.zero_add]); have hz8 := hb8.size; have P15 := P14.keep hb8 P14.lt; have Q15 := Q14.keep hb8 Q14.lt) | (refine step_append_sees_g _ (by rfl) (.tmp 91) (.tmp 92) _ (by rfl) w14.heap.size 5 i0 _ 1 Tryd.underlying24 hi0 hz0 hz1 hz2 rfl (.slice A8 n c8) n _ (by rfl) hown8 B A2 n2 c2 (b.map bv) (by rfl) ((h2.upTo B14 hB).upTo hb8 (Nat.le_trans hB B14.size)) (bv_one _) (by simp only [maxLen]; omega) (by omega) hz8 w14.heap.size w14 hb8 (Nat.le_refl _) ?_; intro A9 c9 w16 hown9 hb9; have hs9 := (seesIn_of_own hown9).1; rw [← List.map_append] at hs9; have P16 := P14.keep hb9 P14.lt; have Q16 := Q14.keep hb9 Q14.lt; have B16 := B14.trans (hb9.mono B14.size)) | (go_at_call 29; (first | ((with_reducible refine (S1.out _ B13d).mono ?_); rintro e w14 ⟨rfl, hb14⟩; have B14 := B13d.trans (hb14.mono B13d.size); have P14 := P13d.keep hb14 P13d.lt; have Q14 := Q13d.keep hb14 Q13d.lt) | ((with_reducible refine (S2.out _ A9 c9 B16 hs9).mono ?_); rintro e w17 ⟨rfl, hb17⟩; have B17 := B16.trans (hb17.mono B16.size); have P17 := P16.keep hb17 P16.lt; have Q17 := Q16.keep hb17 Q16.lt))))
  go_wp2_with fail
  refine hK.out _ _ ?_ (fun hHeld => ?_)
  · (try dsimp only); (first | exact ⟨run_loadVeil HO1.out P13d, run_loadVeil HO2.out Q13d⟩ | exact ⟨run_loadVeil HO1.out P14, run_loadVeil HO2.out Q14⟩ | exact ⟨run_loadVeil HO1.out (P14.alloc _), run_loadVeil HO2.out (Q14.alloc _)⟩ | exact ⟨run_loadVeil HO1.out P15, run_loadVeil HO2.out Q15⟩ | exact ⟨run_loadVeil HO1.out P16, run_loadVeil HO2.out Q16⟩ | exact ⟨run_loadVeil HO1.out P17, run_loadVeil HO2.out Q17⟩)
  clear hK K
  try simp only [Act.put, List.getElem_toArray, List.getElem_cons_succ, List.getElem_cons_zero, List.setIfInBounds_toArray, List.set_cons_zero, List.set_cons_succ]
  refine wpAnyH_take (i := 38) (v := ?_) rfl (by kernel_rfl) (by kernel_rfl) (by kernel_rfl) (fun _ _ _ h => h) (Or.inl ⟨by rfl, ?_⟩) (by assumption) ?_
  rotate_left
  · intro w hSw; (try dsimp only at hSw); go_simp <;> with_reducible rfl
  try simp only [Act.put, List.getElem_toArray, List.getElem_cons_succ, List.getElem_cons_zero, List.setIfInBounds_toArray, List.set_cons_zero, List.set_cons_succ]
  refine wpAnyH_take (i := 39) (v := ?_) rfl (by kernel_rfl) (by kernel_rfl) (by kernel_rfl) (fun _ _ _ h => h) (Or.inl ⟨by rfl, ?_⟩) (by assumption) ?_
  rotate_left
  · intro w hSw; (try dsimp only at hSw); go_simp <;> with_reducible rfl
  try simp only [Act.put, List.getElem_toArray, List.getElem_cons_succ, List.getElem_cons_zero, List.setIfInBounds_toArray, List.set_cons_zero, List.set_cons_succ]
  refine wpAnyH_take (i := 40) (v := ?_) rfl (by kernel_rfl) (by kernel_rfl) (by kernel_rfl) (fun _ _ _ h => h) (Or.inl ⟨by rfl, ?_⟩) (by assumption) ?_
  rotate_left
  · intro w hSw; (try dsimp only at hSw); go_simp <;> with_reducible rfl
  try simp only [Act.put, List.getElem_toArray, List.getElem_cons_succ, List.getElem_cons_zero, List.setIfInBounds_toArray, List.set_cons_zero, List.set_cons_succ]
  refine wpAnyH_done (by kernel_rfl) ?_ _
  refine NoPanic.normal ?_
  go_wp2
  go_ret
  exact ⟨rfl, B17⟩
end Go.Proofs.YtppaffamlfghjaaDoor
