/-
  The document's numbers modulo P: products.
  The document's numbers modulo P: powers; what a number is multiplied by to be 1.
-/
import Derived.Test.YtlfkohanfeejfaaDoorMae
namespace Go.Proofs.YtlfkohanfeejfaaDoor
open Go.RowKit

theorem Tryd.built32 : Tryd.prog.built 72 [] = some (zn 32) := by kernel_rfl
theorem Tryd.info32 : (Tryd.prog.info? 72).map (·.size) = some 32 := by kernel_rfl
theorem Tryd.builtFe : Tryd.prog.built 24 [] = some (zn 4) := by kernel_rfl

/-- The first i of sixteen sums; the others are 0. -/
def lowL (L : List Nat) (i : Nat) : List Nat := (List.range 16).map fun j => if j < i then L.getD j 0 + 38 * L.getD (j + 16) 0 else 0
theorem lowL_length (L : List Nat) (i : Nat) : (lowL L i).length = 16 := by simp [lowL]
theorem lowL_full (L : List Nat) : lowL L 16 = lows L := by
  unfold lowL lows
  refine List.map_congr_left fun j hj => ?_
  rw [if_pos (by simpa using hj)]
theorem lowL_zero (L : List Nat) : lowL L 0 = List.replicate 16 0 := rfl
theorem lowL_set (L : List Nat) (i : Nat) : (lowL L i).set i (L.getD i 0 + 38 * L.getD (i + 16) 0) = lowL L (i + 1) := by
  refine List.ext_getElem (by simp [lowL]) fun j h1 h2 => ?_
  rw [List.getElem_set]
  simp only [lowL, List.getElem_map, List.getElem_range]
  split
  · next e => subst e; rw [if_pos (by omega)]
  · next e => by_cases h : j < i
              · rw [if_pos h, if_pos (by omega)]
              · rw [if_neg h, if_neg (by omega)]

theorem low_wrap {p q : Nat} (hp : p ≤ (16 + 1) * 4294836225) (hq : q ≤ (16 + 1) * 4294836225) : IntKind.u64.wrap ((p : Int) + IntKind.u64.wrap (38 * (q : Int))) = ((p + 38 * q : Nat) : Int) := by
  rw [IntKind.wrap_u64, IntKind.wrap_u64]; omega

/-- The first k digits of a pass, and the rest as it was. -/
def pL (L : List Nat) (k : Nat) : List Nat := (pass (L.take k) 0).1 ++ L.drop k
def pc (L : List Nat) (k : Nat) : Nat := (pass (L.take k) 0).2
theorem pL_len (L : List Nat) {k : Nat} (h : k ≤ L.length) : (pass (L.take k) 0).1.length = k := by rw [pass_length, List.length_take]; omega
theorem pL_length (L : List Nat) {k : Nat} (h : k ≤ L.length) : (pL L k).length = L.length := by unfold pL; rw [List.length_append, pL_len L h, List.length_drop]; omega
theorem pL_get (L : List Nat) {k : Nat} (h : k < L.length) : (pL L k).getD k 0 = L.getD k 0 := by
  have hl := pL_len L (Nat.le_of_lt h)
  unfold pL
  rw [List.getD_eq_getElem?_getD, List.getElem?_append_right (by omega), hl, Nat.sub_self, List.getElem?_drop, Nat.add_zero, ← List.getD_eq_getElem?_getD]
theorem take_snoc (L : List Nat) {k : Nat} (h : k < L.length) : L.take (k + 1) = L.take k ++ [L.getD k 0] := by
  rw [List.take_succ_eq_append_getElem h, List.getD_eq_getElem?_getD, List.getElem?_eq_getElem h, Option.getD_some]
theorem pL_succ (L : List Nat) {k : Nat} (h : k < L.length) : (pL L k).set k ((L.getD k 0 + pc L k) % 65536) = pL L (k + 1) := by
  have hl := pL_len L (Nat.le_of_lt h)
  unfold pL pc
  rw [take_snoc L h, pass_snoc, List.drop_eq_getElem_cons h, List.set_append_right _ _ (by omega), hl, Nat.sub_self, List.set_cons_zero]
  simp
theorem pc_succ (L : List Nat) {k : Nat} (h : k < L.length) : pc L (k + 1) = (L.getD k 0 + pc L k) / 65536 := by
  unfold pc
  rw [take_snoc L h, pass_snoc]
theorem pc_lt (L : List Nat) (k : Nat) (h : ∀ x ∈ L, x < 4398046511104) : pc L k < 134217728 := pass_carry _ _ (fun x hx => h x (List.mem_of_mem_take hx)) (by omega)
theorem pL_full {L : List Nat} (h : L.length = 16) : pL L 16 = (pass L 0).1 := by unfold pL; rw [List.take_of_length_le (by omega), List.drop_of_length_le (by omega), List.append_nil]
theorem pc_full {L : List Nat} (h : L.length = 16) : pc L 16 = (pass L 0).2 := by unfold pc; rw [List.take_of_length_le (by omega)]
theorem getD_lt42 {L : List Nat} (h : ∀ x ∈ L, x < 4398046511104) (i : Nat) : L.getD i 0 < 4398046511104 := by
  rw [List.getD_eq_getElem?_getD]
  cases hg : L[i]? with
  | none => simp
  | some y => exact h y (List.mem_of_getElem? hg)
def rN (l : List Nat) : Nat → List Nat
  | 0 => l
  | n + 1 => round38 (rN l n)
theorem rN_length {l : List Nat} (h : l.length = 16) : ∀ n, (rN l n).length = 16
  | 0 => h
  | n + 1 => by rw [rN, round38_length, rN_length h n]
theorem rN_lt {l : List Nat} (h : ∀ x ∈ l, x < 4398046511104) : ∀ n, ∀ x ∈ rN l n, x < 4398046511104
  | 0 => h
  | n + 1 => round38_lt (rN_lt h n)
theorem carry_wrap {x c : Nat} (hx : x < 4398046511104) (hc : c < 134217728) : IntKind.u64.wrap ((x : Int) + (c : Int)) = ((x + c : Nat) : Int) := by
  rw [IntKind.wrap_u64]; omega
theorem top_wrap {x c : Nat} (hx : x < 65536) (hc : c < 134217728) : IntKind.u64.wrap ((x : Int) + IntKind.u64.wrap (38 * (c : Int))) = ((x + 38 * c : Nat) : Int) := by
  rw [IntKind.wrap_u64, IntKind.wrap_u64]; omega

theorem mul_start (w : World) (m n : Nat) (c1 c2 c3 : Array Value) (h1 : c1 = ((lims m).map nv).toArray) (h2 : c2 = ((lims n).map nv).toArray) (h3 : c3 = ((lims 0).map nv).toArray) :
    ∃ wv, wv = (((w.alloc (.cells c1 24)).alloc (.cells c2 24)).alloc (.cells c3 24)) ∧ HoldsN wv 24 w.heap.size (lims m) ∧ HoldsN wv 24 (w.heap.size + 1) (lims n) ∧ HoldsN wv 24 (w.heap.size + 2) (lims 0) ∧ Below w.heap.size w wv := by
  obtain ⟨a, b, c, d, _⟩ := fe_start3 w m n 0 c1 c2 c3 h1 h2 h3
  exact ⟨_, rfl, a, b, c, d⟩

theorem all_wrap {p x y : Nat} (hp : p ≤ 15 * 4294836225) (hx : x ≤ 65535) (hy : y ≤ 65535) : IntKind.u64.wrap ((p : Int) + IntKind.u64.wrap ((x : Int) * (y : Int))) = ((p + x * y : Nat) : Int) := by
  have h : x * y ≤ 65535 * 65535 := Nat.mul_le_mul hx hy
  rw [← Int.natCast_mul, IntKind.wrap_u64, IntKind.wrap_u64]
  omega

set_option maxRecDepth 100000 in
set_option maxHeartbeats 4000000 in
theorem rMul_any (m n : Nat) (w : World) (hm : m < big) (hn : n < big) :
    Calls Tryd.prog 26 #[fev m, fev n] w (GaveF w (toF m * toF n).val) := by
  have hp16 : (65536 : Nat) ^ 16 = big := by decide
  obtain ⟨wv, hwv, hA, hB, hC, hb⟩ := mul_start w m n _ _ #[.int .u64 0, .int .u64 0, .int .u64 0, .int .u64 0] rfl rfl (by kernel_rfl)
  have hprod : Hid (∀ L, Prods (digits m 16) (digits n 16) 16 0 L → (∀ d ∈ round38 (round38 (round38 (lows L))), d < 65536) ∧ (round38 (round38 (round38 (lows L)))).length = 16 ∧ toF (dv (round38 (round38 (round38 (lows L))))) = toF m * toF n) := Lib.hid fun L hL => product (by rw [hp16]; exact hm) (by rw [hp16]; exact hn) hL
  have DM : Hid (∀ W, Calls Tryd.prog 58 #[.agg ((lims m).map nv).toArray] W fun e w' => e = .returned (.agg ((digits m 16).map nv).toArray) ∧ Below W.heap.size W w') := Lib.hid fun W => rdigits_any m W
  have DN : Hid (∀ W, Calls Tryd.prog 58 #[.agg ((lims n).map nv).toArray] W fun e w' => e = .returned (.agg ((digits n 16).map nv).toArray) ∧ Below W.heap.size W w') := Lib.hid fun W => rdigits_any n W
  have hXl := Lib.hid (digits_length m 16)
  have hYl := Lib.hid (digits_length n 16)
  have hXt := Lib.hid (digits_lt m 16)
  have hYt := Lib.hid (digits_lt n 16)
  rw [fev_eq, fev_eq]
  generalize digits m 16 = X at *
  generalize digits n 16 = Y at *
  generalize toF m * toF n = res at *
  go_enter Tryd.func26, Tryd.ntmps26
  go_wp2_with (first
    | (with_reducible refine wpList_load_n rfl 24 (.tmp 2) rfl w.heap.size rfl (lims m) 4 (by rw [← hwv]; exact hA) rfl Tryd.underlying24 Tryd.infoFe ?_)
    | (with_reducible refine wpList_load_n rfl 24 (.tmp 3) rfl (w.heap.size + 1) rfl (lims n) 4 hB2 rfl Tryd.underlying24 Tryd.infoFe ?_)
    | (go_at_call 58
       with_reducible refine (DM.out _).mono ?_
       rintro e w1 ⟨rfl, hb1⟩
       rw [← hwv] at hb1
       clear hwv
       have hB1 := hB.keep hb1 hB.lt
       have hC1 := hC.keep hb1 hC.lt
       have b1 := hb.trans (hb1.mono hb.size)
       have z1 := zn_new w1 70 16
       have b1a := b1.alloc b1.size (.cells (zn 16) 70)
       have hB1a := hB1.alloc (.cells (zn 16) 70)
       have hC1a := hC1.alloc (.cells (zn 16) 70)
       have l1 := hC1.lt)
    | (with_reducible refine wpList_store_n rfl 70 (.tmp 5) (.tmp 21) rfl w1.heap.size X 16 rfl rfl hXl.out (List.replicate 16 0) (by with_unfolding_all exact z1) Tryd.info16 rfl w.heap.size w (by with_unfolding_all exact b1a) (by omega) ?_
       intro w2 hX2 o2 s2 b2
       have hB2 : HoldsN w2 24 (w.heap.size + 1) (lims n) := (o2 _ (by omega)).trans (by with_unfolding_all exact hB1a)
       have hC2 : HoldsN w2 24 (w.heap.size + 2) (lims 0) := (o2 _ (by omega)).trans (by with_unfolding_all exact hC1a)
       have l2 := hX2.lt
       clear o2 s2 z1 b1a hB1a hC1a hB1 hC1 b1 hb1 hA hB hC hb)
    | (go_at_call 58
       with_reducible refine (DN.out _).mono ?_
       rintro e w3 ⟨rfl, hb3⟩
       have hX3 := hX2.keep hb3 hX2.lt
       have hC3 := hC2.keep hb3 hC2.lt
       have b3 := b2.trans (hb3.mono b2.size)
       have l3 := hb3.size
       have z3 := zn_new w3 70 16
       have b3a := b3.alloc b3.size (.cells (zn 16) 70)
       have hX3a := hX3.alloc (.cells (zn 16) 70)
       have hC3a := hC3.alloc (.cells (zn 16) 70))
    | (with_reducible refine wpList_store_n rfl 70 (.tmp 6) (.tmp 23) rfl w3.heap.size Y 16 rfl rfl hYl.out (List.replicate 16 0) (by with_unfolding_all exact z3) Tryd.info16 rfl w.heap.size w (by with_unfolding_all exact b3a) (by omega) ?_
       intro w4 hY4 o4 s4 b4
       have hX4 : HoldsN w4 70 w1.heap.size X := (o4 _ (by omega)).trans (by with_unfolding_all exact hX3a)
       have hC4 : HoldsN w4 24 (w.heap.size + 2) (lims 0) := (o4 _ (by omega)).trans (by with_unfolding_all exact hC3a)
       have l4 := hY4.lt
       clear o4 s4 z3 b3a hX3a hC3a hX3 hC3 b3 hb3 hX2 hB2 hC2 b2
       have z5 := zn_new w4 72 32
       have b5 := b4.alloc b4.size (.cells (zn 32) 72)
       have hX5 := hX4.alloc (.cells (zn 32) 72)
       have hY5 := hY4.alloc (.cells (zn 32) 72)
       have hC5 := hC4.alloc (.cells (zn 32) 72))
    | (with_reducible refine wpList_buildTo rfl 72 #[] rfl (some 24) rfl (zn 32) (by with_unfolding_all exact Tryd.built32) ?_)
    | (with_reducible refine wpList_store_n rfl 72 (.tmp 7) (.tmp 24) rfl w4.heap.size (List.replicate 32 0) 32 rfl (by with_unfolding_all exact rfl) rfl (List.replicate 32 0) (by with_unfolding_all exact z5) Tryd.info32 rfl w.heap.size w (by with_unfolding_all exact b5) (by omega) ?_
       intro w6 hL6 o6 s6 b6
       have hX6 : HoldsN w6 70 w1.heap.size X := (o6 _ (by omega)).trans (by with_unfolding_all exact hX5)
       have hY6 : HoldsN w6 70 w3.heap.size Y := (o6 _ (by omega)).trans (by with_unfolding_all exact hY5)
       have hC6 : HoldsN w6 24 (w.heap.size + 2) (lims 0) := (o6 _ (by omega)).trans (by with_unfolding_all exact hC5)
       clear o6 s6 z5 b5 hX5 hY5 hC5 hX4 hY4 hC4 b4))
  go_loopw [8] (fun v wr => ∃ i : Nat, i ≤ 16 ∧ v = .int .i64 (i : Int) ∧ ∃ L, Prods X Y i 0 L ∧ HoldsN wr 72 w4.heap.size L ∧ HoldsN wr 70 w1.heap.size X ∧ HoldsN wr 70 w3.heap.size Y ∧ HoldsN wr 24 (w.heap.size + 2) (lims 0) ∧ Below w.heap.size w wr)
    (fun v _ => 16 - (intOf v).toNat)
  case atStart => exact ⟨0, Nat.zero_le _, rfl, _, Prods.start X Y, hL6, hX6, hY6, hC6, b6⟩
  case round =>
    clear hL6 hX6 hY6 hC6 b6
    obtain ⟨i, hi, rfl, L, hP, hL, hX, hY, hC, hb⟩ := hrel
    by_cases hlt : i < 16
    · have hlt2 : (i : Int) < 16 := by omega
      go_wp2
      go_loopw [9] (fun v wr => ∃ k : Nat, k ≤ 16 ∧ v = .int .i64 (k : Int) ∧ ∃ L, Prods X Y i k L ∧ HoldsN wr 72 w4.heap.size L ∧ HoldsN wr 70 w1.heap.size X ∧ HoldsN wr 70 w3.heap.size Y ∧ HoldsN wr 24 (w.heap.size + 2) (lims 0) ∧ Below w.heap.size w wr)
        (fun v _ => 16 - (intOf v).toNat)
      case atStart => exact ⟨0, Nat.zero_le _, rfl, L, hP, hL, hX, hY, hC, hb⟩
      case round =>
        clear hP hL hX hY hC hb
        obtain ⟨k, hk, rfl, L, hP, hL, hX, hY, hC, hb⟩ := hrel
        by_cases hltk : k < 16
        · have hltk2 : (k : Int) < 16 := by omega
          have cX := hX.cell (j := i) (by rw [hXl.out]; exact hlt)
          have cY := hY.cell (j := k) (by rw [hYl.out]; exact hltk)
          have cL := hL.cell (j := i + k) (by rw [hP.len]; omega)
          have fL := hL.frozen (i + k)
          have hst := Lib.hid (hP.step hXt.out hYt.out hlt hltk hYl.out)
          have hlow := hP.low (i + k)
          rw [if_neg (by omega)] at hlow
          have hwr := Lib.hid (all_wrap (p := L.getD (i + k) 0) (x := X.getD i 0) (y := Y.getD k 0) (Nat.le_trans hlow (Nat.mul_le_mul_right _ (by omega))) (getD_lt hXt.out i) (getD_lt hYt.out k))
          have hset := Lib.hid (fun W (h : HoldsN W 72 w4.heap.size L) => h.set (i + k) (L.getD (i + k) 0 + X.getD i 0 * Y.getD k 0))
          clear hlow
          generalize L.set (i + k) (L.getD (i + k) 0 + X.getD i 0 * Y.getD k 0) = L' at *
          generalize X.getD i 0 = x at *
          generalize Y.getD k 0 = y at *
          generalize L.getD (i + k) 0 = p at *
          have hik : IntKind.i64.wrap ((i : Int) + k) = ((i + k : Nat) : Int) := by rw [IntKind.wrap_i64]; omega
          have hik2 : ((i + k : Nat) : Int) < 32 := by omega
          generalize i + k = s at *
          go_wp2
          go_region
          rw [hwr.out]
          go_wp2
          go_roundw
          case rel => exact ⟨k + 1, by omega, by go_num, L', hst.out, hset.out _ hL, hX.setOther _ _ (by simp; omega), hY.setOther _ _ (by simp; omega), hC.setOther _ _ (by simp; omega), (hb.setCell (by simp; omega) _).drew⟩
          case measure => simp [intOf]; omega
        · rw [show (k : Int) = 16 by omega]
          obtain rfl : k = 16 := by omega
          have hrow := Lib.hid (hP.row (by rw [hXl.out]; exact hlt) hYl.out)
          go_wp2
          go_roundw
          case rel => exact ⟨i + 1, by omega, by go_num, L, hrow.out, hL, hX, hY, hC, hb⟩
          case measure => simp [intOf]; omega
    · rw [show (i : Int) = 16 by omega]
      obtain rfl : i = 16 := by omega
      have hfin := Lib.hid (hprod.out L hP)
      have hbd := Lib.hid (hP.done hXl.out).2
      have hLl := Lib.hid hP.len
      clear hP hprod hX hY
      have z8 := zn_new wr 70 16
      have b8 := hb.alloc hb.size (.cells (zn 16) 70)
      have hL8 := hL.alloc (.cells (zn 16) 70)
      have hC8 := hC.alloc (.cells (zn 16) 70)
      have lL := hL.lt
      go_wp2_with (first
        | (with_reducible refine wpList_buildTo rfl 70 #[] rfl (some 50) rfl (zn 16) (by with_unfolding_all exact Tryd.built16) ?_)
        | (with_reducible refine wpList_store_n rfl 70 (.tmp 10) (.tmp 50) rfl wr.heap.size (List.replicate 16 0) 16 rfl (by with_unfolding_all exact rfl) rfl (List.replicate 16 0) (by with_unfolding_all exact z8) Tryd.info16 rfl w.heap.size w (by with_unfolding_all exact b8) (by omega) ?_
           intro w9 hD9 o9 s9 b9
           have hL9 : HoldsN w9 72 w4.heap.size L := (o9 _ (by omega)).trans (by with_unfolding_all exact hL8)
           have hC9 : HoldsN w9 24 (w.heap.size + 2) (lims 0) := (o9 _ (by omega)).trans (by with_unfolding_all exact hC8)))
      have ng : w.heap.size + 2 < wr.heap.size := by omega
      clear z8 b8 hL8 hC8 o9 s9 hL hC hb
      generalize hg : wr.heap.size = g at *
      clear hg
      rw [← lowL_zero L] at hD9
      go_loopw [11] (fun v wr => ∃ i : Nat, i ≤ 16 ∧ v = .int .i64 (i : Int) ∧ HoldsN wr 70 g (lowL L i) ∧ HoldsN wr 72 w4.heap.size L ∧ HoldsN wr 24 (w.heap.size + 2) (lims 0) ∧ Below w.heap.size w wr)
        (fun v _ => 16 - (intOf v).toNat)
      case atStart => exact ⟨0, Nat.zero_le _, rfl, hD9, hL9, hC9, b9⟩
      case round =>
        clear hD9 hL9 hC9 b9
        obtain ⟨k, hk, rfl, hD, hL, hC, hb⟩ := hrel
        by_cases hltk : k < 16
        · have hltk2 : (k : Int) < 16 := by omega
          have cL := hL.cell (j := k) (by rw [hLl.out]; omega)
          have cM := hL.cell (j := k + 16) (by rw [hLl.out]; omega)
          have fD := hD.frozen k
          have cD := hD.cell (j := k) (by rw [lowL_length]; exact hltk)
          have hset := Lib.hid (lowL_set L k)
          have hwr := Lib.hid (low_wrap (hbd.out k) (hbd.out (k + 16)))
          generalize L.getD k 0 = p at *
          generalize L.getD (k + 16) 0 = q at *
          have hik : IntKind.i64.wrap ((k : Int) + 16) = ((k + 16 : Nat) : Int) := by rw [IntKind.wrap_i64]; omega
          have hik2 : ((k + 16 : Nat) : Int) < 32 := by omega
          generalize k + 16 = s at *
          go_wp2
          go_region
          rw [hwr.out]
          go_wp2
          go_roundw
          case rel => exact ⟨k + 1, by omega, by go_num, by rw [← hset.out]; exact hD.set k (p + 38 * q), hL.setOther _ _ (by simp; omega), hC.setOther _ _ (by simp; omega), (hb.setCell (by simp; omega) _).drew⟩
          case measure => simp [intOf]; omega
        · rw [show (k : Int) = 16 by omega]
          obtain rfl : k = 16 := by omega
          rw [lowL_full] at hD
          have hlt := Lib.hid (lows_lt hbd.out)
          have hll := Lib.hid (lows_length L)
          clear hL hbd hLl
          generalize lows L = l at *
          go_wp2
          go_loopw [12] (fun v wr => ∃ r : Nat, r ≤ 3 ∧ v = .int .i64 (r : Int) ∧ HoldsN wr 70 g (rN l r) ∧ HoldsN wr 24 (w.heap.size + 2) (lims 0) ∧ Below w.heap.size w wr)
            (fun v _ => 3 - (intOf v).toNat)
          case atStart => exact ⟨0, Nat.zero_le _, rfl, hD, hC, hb⟩
          case round =>
            clear hD hC hb
            obtain ⟨r, hr, rfl, hD, hC, hb⟩ := hrel
            by_cases hltr : r < 3
            · have hltr2 : (r : Int) < 3 := by omega
              have hnext : Hid (round38 (rN l r) = rN l (r + 1)) := Lib.hid rfl
              have hRl := Lib.hid (rN_length hll.out r)
              have hRt := Lib.hid (rN_lt hlt.out r)
              generalize rN l r = R at *
              go_wp2
              go_loopw [13, 14] (fun vc vi wr => ∃ k : Nat, k ≤ 16 ∧ vi = .int .i64 (k : Int) ∧ vc = .int .u64 (pc R k : Int) ∧ HoldsN wr 70 g (pL R k) ∧ HoldsN wr 24 (w.heap.size + 2) (lims 0) ∧ Below w.heap.size w wr)
                (fun _ vi _ => 16 - (intOf vi).toNat)
              case atStart => exact ⟨0, Nat.zero_le _, rfl, rfl, hD, hC, hb⟩
              case round =>
                clear hD hC hb
                obtain ⟨k, hk, rfl, rfl, hD, hC, hb⟩ := hrel
                by_cases hltk : k < 16
                · have hltk2 : (k : Int) < 16 := by omega
                  have cD := hD.cell (j := k) (by rw [pL_length R (by rw [hRl.out]; exact hk), hRl.out]; exact hltk)
                  rw [pL_get R (by rw [hRl.out]; exact hltk)] at cD
                  have fD := hD.frozen k
                  have hset := Lib.hid (pL_succ R (k := k) (by rw [hRl.out]; exact hltk))
                  have hpc := Lib.hid (pc_succ R (k := k) (by rw [hRl.out]; exact hltk))
                  have hs := carry_wrap (getD_lt42 hRt.out k) (pc_lt R k hRt.out)
                  have hsb := Nat.add_lt_add (getD_lt42 hRt.out k) (pc_lt R k hRt.out)
                  generalize R.getD k 0 = x at *
                  generalize pc R k = c at *
                  generalize x + c = s at *
                  have ht : (s : Int).tmod 65536 = ((s % 65536 : Nat) : Int) := by rw [Int.tmod_eq_emod_of_nonneg (Int.natCast_nonneg _)]; rfl
                  have hq : (s : Int).tdiv 65536 = ((s / 65536 : Nat) : Int) := by rw [Int.tdiv_eq_ediv_of_nonneg (Int.natCast_nonneg _)]; rfl
                  have hcw : IntKind.u64.wrap ((s / 65536 : Nat) : Int) = ((s / 65536 : Nat) : Int) := by rw [IntKind.wrap_u64]; omega
                  generalize s % 65536 = d at *
                  generalize s / 65536 = c' at *
                  go_wp2
                  go_roundw
                  case rel => exact ⟨k + 1, by omega, by go_num, by rw [hpc.out], by rw [← hset.out]; exact hD.set k d, hC.setOther _ _ (by simp; omega), hb.setCell (by simp; omega) _⟩
                  case measure => simp [intOf]; omega
                · rw [show (k : Int) = 16 by omega]
                  obtain rfl : k = 16 := by omega
                  have hc := Lib.hid (pc_lt R 16 hRt.out)
                  rw [pL_full hRl.out] at hD
                  have hr38 : Hid ((pass R 0).1.set 0 ((pass R 0).1.getD 0 0 + 38 * pc R 16) = round38 R) := Lib.hid (by rw [pc_full hRl.out]; rfl)
                  have hw := top_wrap (x := (pass R 0).1.getD 0 0) (Nat.lt_succ_of_le (getD_lt (pass_lt R 0) 0)) hc.out
                  have c0 := hD.cell (j := 0) (by rw [pass_length, hRl.out]; omega)
                  have f0 := hD.frozen 0
                  generalize (pass R 0).1 = PR at *
                  generalize PR.getD 0 0 = x at *
                  generalize pc R 16 = c at *
                  go_wp2
                  go_roundw
                  case rel => exact ⟨r + 1, by omega, by go_num, by rw [← hnext.out, ← hr38.out]; exact hD.set 0 (x + 38 * c), hC.setOther _ _ (by simp; omega), hb.setCell (by simp; omega) _⟩
                  case measure => simp [intOf]; omega
            · rw [show (r : Int) = 3 by omega]
              obtain rfl : r = 3 := by omega
              have hD3 : HoldsN wr 70 g (round38 (round38 (round38 l))) := hD
              obtain ⟨hdt, hdl, hres⟩ := hfin.out
              have Hdt := Lib.hid hdt
              have Hdl := Lib.hid hdl
              have Hres := Lib.hid hres
              clear hD hfin hlt hll hdt hdl hres
              generalize round38 (round38 (round38 l)) = D at *
              have z8 := zn_new wr 24 4
              have b8 := hb.alloc hb.size (.cells (zn 4) 24)
              have hD8 := hD3.alloc (.cells (zn 4) 24)
              have hC8 := hC.alloc (.cells (zn 4) 24)
              have lD := hD3.lt
              go_wp2_with (first
                | (with_reducible refine wpList_buildTo rfl 24 #[] rfl (some 91) rfl (zn 4) (by with_unfolding_all exact Tryd.builtFe) ?_)
                | (with_reducible refine wpList_store_n rfl 24 (.tmp 16) (.tmp 91) rfl wr.heap.size (List.replicate 4 0) 4 rfl (by with_unfolding_all exact rfl) rfl (List.replicate 4 0) (by with_unfolding_all exact z8) Tryd.infoFe rfl w.heap.size w (by with_unfolding_all exact b8) (by omega) ?_
                   intro w9 hO9 o9 s9 b9
                   have hD9 : HoldsN w9 70 g D := (o9 _ (by omega)).trans (by with_unfolding_all exact hD8)
                   have hC9 : HoldsN w9 24 (w.heap.size + 2) (lims 0) := (o9 _ (by omega)).trans (by with_unfolding_all exact hC8)))
              have nh : g < wr.heap.size := by omega
              clear z8 b8 hD8 hC8 o9 s9 hD3 hC hb
              generalize hgg : wr.heap.size = h at *
              clear hgg
              rw [show List.replicate 4 0 = lims (dv (D.take 0)) from lims_zero] at hO9
              go_loopw [17, 18] (fun vc vi wr => ∃ i : Nat, i ≤ 16 ∧ vi = .int .i64 (i : Int) ∧ vc = .int .u64 0 ∧ HoldsN wr 24 h (lims (dv (D.take i))) ∧ HoldsN wr 70 g D ∧ HoldsN wr 24 (w.heap.size + 2) (lims 0) ∧ Below w.heap.size w wr)
                (fun _ vi _ => 16 - (intOf vi).toNat)
              case atStart => exact ⟨0, Nat.zero_le _, rfl, rfl, hO9, hD9, hC9, b9⟩
              case round =>
                clear hO9 hD9 hC9 b9
                obtain ⟨k, hk, rfl, rfl, hO, hD, hC, hb⟩ := hrel
                by_cases hltk : k < 16
                · have hltk2 : (k : Int) < 16 := by omega
                  have cD := hD.cell (j := k) (by rw [Hdl.out]; exact hltk)
                  have cO := hO.cell (j := k / 4) (by rw [lims_length]; omega)
                  rw [lims_get _ (by omega)] at cO
                  have fO := hO.frozen (k / 4)
                  have eq4 : (k : Int).tdiv 4 = ((k / 4 : Nat) : Int) := by rw [Int.tdiv_eq_ediv_of_nonneg (by omega)]; omega
                  have em4 : (k : Int).tmod 4 = ((k % 4 : Nat) : Int) := by rw [Int.tmod_eq_emod_of_nonneg (by omega)]; omega
                  have lq : ((k / 4 : Nat) : Int) < 4 := by omega
                  have hr4 : k % 4 < 4 := by omega
                  have hdt := getD_lt Hdt.out k
                  have hN : dv (D.take k) < 65536 ^ k := by
                    have := dv_lt (D.take k) (fun x hx => Hdt.out x (List.mem_of_mem_take hx))
                    rwa [List.length_take, Hdl.out, Nat.min_eq_left hk] at this
                  have hnx : Hid (dv (D.take k) + D.getD k 0 * 65536 ^ k = dv (D.take (k + 1))) := Lib.hid (by
                    rw [dv_take_succ D (by rw [Hdl.out]; exact hltk), List.getD_eq_getElem?_getD, List.getElem?_eq_getElem (by rw [Hdl.out]; exact hltk), Option.getD_some])
                  have hset := Lib.hid (lims_digit hN (Nat.lt_succ_of_le hdt))
                  have hor := Lib.hid (or_digit (limb_top hN).2 (Nat.lt_succ_of_le hdt) hr4)
                  rw [hnx.out] at hset
                  clear hN hnx
                  generalize D.getD k 0 = d at *
                  generalize limb (dv (D.take k)) (k / 4) = x at *
                  generalize k / 4 = qq at *
                  generalize k % 4 = rr at *
                  have lr : (rr : Int) < 4 := by omega
                  have wr1 : IntKind.i64.wrap (16 * (rr : Int)) = 16 * rr := by simp only [IntKind.wrap, IntKind.bits, IntKind.signed]; simp; omega
                  have wr2 : IntKind.u64.wrap (16 * (rr : Int)) = 16 * rr := by rw [IntKind.wrap_u64]; omega
                  have lr3 : 16 * (rr : Int) < 64 := by omega
                  have hs : IntKind.u64.wrap (d : Int) = (d : Int) := by rw [IntKind.wrap_u64]; omega
                  have ht : (d : Int).tmod 65536 = (d : Int) := by rw [Int.tmod_eq_emod_of_nonneg (by omega)]; omega
                  have hq : (d : Int).tdiv 65536 = 0 := by rw [Int.tdiv_eq_ediv_of_nonneg (by omega)]; omega
                  go_wp2
                  go_roundw
                  case rel => exact ⟨k + 1, by omega, by go_num, rfl, by rw [hor.out, ← hset.out]; exact hO.set qq _, hD.setOther _ _ (by simp; omega), hC.setOther _ _ (by simp; omega), hb.setCell (by simp; omega) _⟩
                  case measure => simp [intOf]; omega
                · rw [show (k : Int) = 16 by omega]
                  obtain rfl : k = 16 := by omega
                  rw [List.take_of_length_le (by rw [Hdl.out]; omega)] at hO
                  have hlt : dv D < big := by
                    have := dv_lt D Hdt.out
                    rwa [Hdl.out, hp16] at this
                  have LS : Hid (∀ W, Calls Tryd.prog 57 #[.agg ((lims (dv D)).map nv).toArray] W fun e w' => e = .returned (.agg ((lims res.val).map nv).toArray) ∧ Below W.heap.size W w') := Lib.hid fun W => by rw [← Hres.out]; exact rLeast_any _ W hlt
                  clear hD Hdt Hdl Hres
                  go_wp2_with (first
                    | (with_reducible refine wpList_load_n rfl 24 (.tmp 16) rfl h rfl (lims (dv D)) 4 hO rfl Tryd.underlying24 Tryd.infoFe ?_)
                    | (go_at_call 57
                       with_reducible refine (LS.out _).mono ?_
                       rintro e w3 ⟨rfl, hb3⟩
                       have hC3 := hC.keep hb3 hC.lt
                       have b3 := hb.trans (hb3.mono hb.size))
                    | (with_reducible refine wpList_store_n rfl 24 (.tmp 4) (.tmp 119) rfl (w.heap.size + 2) (lims res.val) 4 rfl rfl rfl (lims 0) hC3 Tryd.infoFe rfl w.heap.size w b3 (by omega) ?_; intro w7 Hg _ _ hb7))
                  exact bodyPost_ret (results_cell_row rfl _ _ _ _ _ _ _ rfl Hg Tryd.underlying24 rfl (by rw [Tryd.infoFe]; rfl)) rfl ⟨rfl, hb7⟩
end Go.Proofs.YtlfkohanfeejfaaDoor

namespace Go.Proofs.YtlfkohanfeejfaaDoor
open Go.RowKit

/-- A bit out of its limb. -/
theorem bit_limb (n j : Nat) : limb n (j / 64) / 2 ^ (j % 64) % 2 = n / 2 ^ j % 2 := by
  have hr : j % 64 < 64 := Nat.mod_lt _ (by omega)
  have e : (2 : Nat) ^ j = 18446744073709551616 ^ (j / 64) * 2 ^ (j % 64) := by
    rw [show (18446744073709551616 : Nat) = 2 ^ 64 by decide, ← Nat.pow_mul, ← Nat.pow_add, Nat.div_add_mod]
  unfold limb
  rw [e, ← Nat.div_div_eq_div_mul]
  generalize n / 18446744073709551616 ^ (j / 64) = x
  generalize j % 64 = r at *
  have eW : (18446744073709551616 : Nat) = 2 ^ r * (2 * 2 ^ (63 - r)) := by
    rw [← Nat.pow_succ', ← Nat.pow_add, show r + (63 - r).succ = 64 by omega]
  have hx : x = x % 18446744073709551616 + 2 ^ r * (2 * (2 ^ (63 - r) * (x / 18446744073709551616))) := by
    have h := Nat.mod_add_div x 18446744073709551616
    rw [← Nat.mul_assoc 2, ← Nat.mul_assoc (2 ^ r), ← eW]
    exact h.symm
  conv => rhs; rw [hx, Nat.add_mul_div_left _ _ (Nat.pow_pos (by omega)), Nat.add_mul_mod_self_left]

theorem fpow_bit (a : F) (e j : Nat) : fpow a (e / 2 ^ j) = if e / 2 ^ j % 2 = 1 then fpow a (e / 2 ^ (j + 1)) * fpow a (e / 2 ^ (j + 1)) * a else fpow a (e / 2 ^ (j + 1)) * fpow a (e / 2 ^ (j + 1)) := by
  have h : e / 2 ^ (j + 1) = e / 2 ^ j / 2 := by rw [Nat.pow_succ, Nat.div_div_eq_div_mul]
  rw [h, ← fpow_add]
  generalize e / 2 ^ j = x
  split
  · next h1 =>
    rw [← fpow_succ]
    congr 1
    omega
  · next h1 =>
    congr 1
    omega
theorem one_val : lims 1 = lims (1 : F).val := rfl

set_option maxRecDepth 100000 in
set_option maxHeartbeats 4000000 in
theorem rPower_any (m e : Nat) (w : World) (hm : m < big) (he : e < big) :
    Calls Tryd.prog 60 #[fev m, fev e] w (GaveF w (fpow (toF m) e).val) := by
  obtain ⟨hA, hB, hC, hb, hsz⟩ := fe_start3 w m e 0 _ _ #[.int .u64 0, .int .u64 0, .int .u64 0, .int .u64 0] rfl rfl (by kernel_rfl)
  have M1 : Hid (∀ (p : F) W, Calls Tryd.prog 26 #[.agg ((lims p.val).map nv).toArray, .agg ((lims p.val).map nv).toArray] W fun e w' => e = .returned (.agg ((lims (p * p).val).map nv).toArray) ∧ Below W.heap.size W w') := Lib.hid fun p W => by
    have := rMul_any p.val p.val W (F.lt_big p) (F.lt_big p)
    rwa [toF_of] at this
  have M2 : Hid (∀ (p : F) W, Calls Tryd.prog 26 #[.agg ((lims p.val).map nv).toArray, .agg ((lims m).map nv).toArray] W fun e w' => e = .returned (.agg ((lims (p * toF m).val).map nv).toArray) ∧ Below W.heap.size W w') := Lib.hid fun p W => by
    have := rMul_any p.val m W (F.lt_big p) hm
    rwa [toF_of] at this
  have hone : Hid (Value.agg #[.int .u64 1, .int .u64 0, .int .u64 0, .int .u64 0] = .agg ((lims (1 : F).val).map nv).toArray) := Lib.hid (by kernel_rfl)
  have hfin : Hid (fpow (toF m) e = fpow (toF m) (e / 2 ^ 0)) := Lib.hid (by rw [Nat.pow_zero, Nat.div_one])
  have hstart : Hid (fpow (toF m) (e / 2 ^ 256) = 1) := Lib.hid (by rw [Nat.div_eq_of_lt (by rw [show (2 : Nat) ^ 256 = big by decide]; exact he), fpow_zero])
  rw [fev_eq, fev_eq, hfin.out]
  clear hfin
  generalize toF m = a at *
  obtain ⟨wv, hwv⟩ : ∃ wv, wv = (((w.alloc (.cells ((lims m).map nv).toArray 24)).alloc (.cells ((lims e).map nv).toArray 24)).alloc (.cells #[.int .u64 0, .int .u64 0, .int .u64 0, .int .u64 0] 24)) := ⟨_, rfl⟩
  rw [← hwv] at hA hB hC hb hsz
  have z1 := zn_new wv 24 4
  have b1 := hb.alloc hb.size (.cells (zn 4) 24)
  have hA1 := hA.alloc (.cells (zn 4) 24)
  have hB1 := hB.alloc (.cells (zn 4) 24)
  have hC1 := hC.alloc (.cells (zn 4) 24)
  rw [hwv] at z1 b1 hA1 hB1 hC1
  go_enter Tryd.func60, Tryd.ntmps60
  go_wp2_with (with_reducible refine wpList_store_n rfl 24 (.tmp 5) (.tmp 7) rfl (w.heap.size + 3) (lims (1 : F).val) 4 (by with_unfolding_all rfl) (by with_unfolding_all exact hone.out) rfl (List.replicate 4 0) (by rw [hwv] at hsz; rw [hsz] at z1; with_unfolding_all exact z1) Tryd.infoFe rfl w.heap.size w (by with_unfolding_all exact b1) (by omega) ?_
               intro w2 hO2 o2 s2 b2
               have hA2 : HoldsN w2 24 w.heap.size (lims m) := (o2 _ (by omega)).trans (by with_unfolding_all exact hA1)
               have hB2 : HoldsN w2 24 (w.heap.size + 1) (lims e) := (o2 _ (by omega)).trans (by with_unfolding_all exact hB1)
               have hC2 : HoldsN w2 24 (w.heap.size + 2) (lims 0) := (o2 _ (by omega)).trans (by with_unfolding_all exact hC1))
  clear hA hB hC hb hsz hA1 hB1 hC1 b1 z1 o2 s2
  rw [← hstart.out] at hO2
  go_loopw [6] (fun v wr => ∃ k : Nat, k ≤ 256 ∧ v = .int .i64 ((k : Int) - 1) ∧ HoldsN wr 24 (w.heap.size + 3) (lims (fpow a (e / 2 ^ k)).val) ∧ HoldsN wr 24 w.heap.size (lims m) ∧ HoldsN wr 24 (w.heap.size + 1) (lims e) ∧ HoldsN wr 24 (w.heap.size + 2) (lims 0) ∧ Below w.heap.size w wr)
    (fun v _ => (intOf v + 1).toNat)
  case atStart => exact ⟨256, Nat.le_refl _, rfl, hO2, hA2, hB2, hC2, b2⟩
  case round =>
    clear hO2 hA2 hB2 hC2 b2 hstart
    obtain ⟨k, hk, rfl, hO, hA, hB, hC, hb⟩ := hrel
    rcases k with _ | j
    · rw [show ((0 : Nat) : Int) - 1 = -1 from rfl]
      clear hA hB
      generalize fpow a (e / 2 ^ 0) = p at *
      go_wp2_with (first
        | (with_reducible refine wpList_load_n rfl 24 (.tmp 5) rfl (w.heap.size + 3) rfl (lims p.val) 4 hO rfl Tryd.underlying24 Tryd.infoFe ?_)
        | (with_reducible refine wpList_store_n rfl 24 (.tmp 4) (.tmp 28) rfl (w.heap.size + 2) (lims p.val) 4 rfl rfl rfl (lims 0) hC Tryd.infoFe rfl w.heap.size w hb (by omega) ?_; intro w7 Hg _ _ hb7))
      exact bodyPost_ret (results_cell_row rfl _ _ _ _ _ _ _ rfl Hg Tryd.underlying24 rfl (by rw [Tryd.infoFe]; rfl)) rfl ⟨rfl, hb7⟩
    · rw [show ((j + 1 : Nat) : Int) - 1 = (j : Int) by omega]
      have hj : j < 256 := by omega
      have hstep := fpow_bit a e j
      have cE := fun W (h : HoldsN W 24 (w.heap.size + 1) (lims e)) => h.cell (j := j / 64) (by rw [lims_length]; omega)
      rw [lims_get _ (by omega)] at cE
      have hbit := bit_limb e j
      have eq4 : (j : Int).tdiv 64 = ((j / 64 : Nat) : Int) := by rw [Int.tdiv_eq_ediv_of_nonneg (by omega)]; omega
      have em4 : (j : Int).tmod 64 = ((j % 64 : Nat) : Int) := by rw [Int.tmod_eq_emod_of_nonneg (by omega)]; omega
      have lq : ((j / 64 : Nat) : Int) < 4 := by omega
      have hr4 : j % 64 < 64 := by omega
      have CE := Lib.hid cE
      clear cE
      generalize limb e (j / 64) = x at *
      generalize j / 64 = qq at *
      generalize j % 64 = rr at *
      have lr : (rr : Int) < 64 := by omega
      have wr2 : IntKind.u64.wrap (rr : Int) = rr := by rw [IntKind.wrap_u64]; omega
      have hv : ((x : Int) / 2 ^ rr).tmod 2 = ((e / 2 ^ j % 2 : Nat) : Int) := by
        rw [show (2 : Int) ^ rr = ((2 ^ rr : Nat) : Int) from (Int.natCast_pow 2 _).symm, ← Int.natCast_ediv, Int.tmod_eq_emod_of_nonneg (Int.natCast_nonneg _), ← hbit]; rfl
      clear hbit
      have Hstep := Lib.hid hstep
      have hlt2 : e / 2 ^ j % 2 < 2 := Nat.mod_lt _ (by omega)
      clear hstep
      generalize fpow a (e / 2 ^ (j + 1)) = p at *
      generalize e / 2 ^ j % 2 = b at *
      by_cases hb1 : b = 1
      · subst hb1
        have Hq : Hid (fpow a (e / 2 ^ j) = p * p * a) := Lib.hid (by rw [Hstep.out, if_pos rfl])
        clear Hstep
        go_wp2_with (first
          | (with_reducible refine wpList_load_n rfl 24 (.tmp 5) rfl (w.heap.size + 3) rfl (lims p.val) 4 hO rfl Tryd.underlying24 Tryd.infoFe ?_)
          | (go_at_call 26
             with_reducible refine (M1.out p _).mono ?_
             rintro e w3 ⟨rfl, hb3⟩
             have hO3 := hO.keep hb3 hO.lt
             have hA3 := hA.keep hb3 hA.lt
             have hB3 := hB.keep hb3 hB.lt
             have hC3 := hC.keep hb3 hC.lt
             have b3 := hb.trans (hb3.mono hb.size))
          | (with_reducible refine wpList_store_n rfl 24 (.tmp 5) (.tmp 14) rfl (w.heap.size + 3) (lims (p * p).val) 4 rfl rfl rfl _ hO3 Tryd.infoFe rfl w.heap.size w b3 (by omega) ?_
             intro w4 hO4 o4 s4 b4
             have hA4 := hA3.oth o4 (by omega)
             have hB4 := hB3.oth o4 (by omega)
             have hC4 := hC3.oth o4 (by omega)
             have cE4 := CE.out w4 hB4)
          | (with_reducible refine wpList_load_n rfl 24 (.tmp 5) rfl (w.heap.size + 3) rfl (lims (p * p).val) 4 hO4 rfl Tryd.underlying24 Tryd.infoFe ?_)
          | (with_reducible refine wpList_load_n rfl 24 (.tmp 2) rfl w.heap.size rfl (lims m) 4 hA4 rfl Tryd.underlying24 Tryd.infoFe ?_)
          | (go_at_call 26
             with_reducible refine (M2.out (p * p) _).mono ?_
             rintro e w5 ⟨rfl, hb5⟩
             have hO5 := hO4.keep hb5 hO4.lt
             have hA5 := hA4.keep hb5 hA4.lt
             have hB5 := hB4.keep hb5 hB4.lt
             have hC5 := hC4.keep hb5 hC4.lt
             have b5 := b4.trans (hb5.mono b4.size))
          | (with_reducible refine wpList_store_n rfl 24 (.tmp 5) (.tmp 27) rfl (w.heap.size + 3) (lims (p * p * a).val) 4 rfl rfl rfl _ hO5 Tryd.infoFe rfl w.heap.size w b5 (by omega) ?_
             intro w6 hO6 o6 s6 b6
             have hA6 := hA5.oth o6 (by omega)
             have hB6 := hB5.oth o6 (by omega)
             have hC6 := hC5.oth o6 (by omega)))
        go_roundw
        case rel => exact ⟨j, by omega, by go_num, by rw [Hq.out]; exact hO6, hA6, hB6, hC6, b6⟩
        case measure => simp [intOf]
      · obtain rfl : b = 0 := by omega
        have Hq : Hid (fpow a (e / 2 ^ j) = p * p) := Lib.hid (by rw [Hstep.out, if_neg (by omega)])
        clear Hstep
        go_wp2_with (first
          | (with_reducible refine wpList_load_n rfl 24 (.tmp 5) rfl (w.heap.size + 3) rfl (lims p.val) 4 hO rfl Tryd.underlying24 Tryd.infoFe ?_)
          | (go_at_call 26
             with_reducible refine (M1.out p _).mono ?_
             rintro e w3 ⟨rfl, hb3⟩
             have hO3 := hO.keep hb3 hO.lt
             have hA3 := hA.keep hb3 hA.lt
             have hB3 := hB.keep hb3 hB.lt
             have hC3 := hC.keep hb3 hC.lt
             have b3 := hb.trans (hb3.mono hb.size))
          | (with_reducible refine wpList_store_n rfl 24 (.tmp 5) (.tmp 14) rfl (w.heap.size + 3) (lims (p * p).val) 4 rfl rfl rfl _ hO3 Tryd.infoFe rfl w.heap.size w b3 (by omega) ?_
             intro w4 hO4 o4 s4 b4
             have hA4 := hA3.oth o4 (by omega)
             have hB4 := hB3.oth o4 (by omega)
             have hC4 := hC3.oth o4 (by omega)
             have cE4 := CE.out w4 hB4))
        go_roundw
        case rel => exact ⟨j, by omega, by go_num, by rw [Hq.out]; exact hO4, hA4, hB4, hC4, b4⟩
        case measure => simp [intOf]
end Go.Proofs.YtlfkohanfeejfaaDoor
