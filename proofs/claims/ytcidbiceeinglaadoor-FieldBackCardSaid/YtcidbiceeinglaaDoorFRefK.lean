/-
  The document's numbers modulo P: the number that bytes are; a number's bytes.
-/
import Derived.Test.YtcidbiceeinglaaDoorFRefJ
import Derived.Test.YtcidbiceeinglaaDoorByteOr
namespace Go.Proofs.YtcidbiceeinglaaDoor
open Go.RowKit

def leNum : List UInt8 → Nat
  | [] => 0
  | x :: xs => x.toNat + 256 * leNum xs
theorem leNum_append : ∀ (a b : List UInt8), leNum (a ++ b) = leNum a + 256 ^ a.length * leNum b
  | [], b => by simp [leNum]
  | x :: a, b => by
    simp only [List.cons_append, leNum, leNum_append a b, List.length_cons, Nat.pow_succ]
    rw [Nat.mul_add, ← Nat.mul_assoc, Nat.mul_comm 256 (256 ^ a.length)]
    omega
theorem leNum_lt : ∀ l : List UInt8, leNum l < 256 ^ l.length
  | [] => by simp [leNum]
  | x :: l => by
    have h1 := leNum_lt l
    have h2 := x.toNat_lt
    simp only [leNum, List.length_cons, Nat.pow_succ]
    omega
theorem leNum_take (l : List UInt8) {k : Nat} (h : k < l.length) : leNum (l.take k) + l[k].toNat * 256 ^ k = leNum (l.take (k + 1)) := by
  rw [List.take_succ_eq_append_getElem h, leNum_append, List.length_take, Nat.min_eq_left (by omega)]
  simp only [leNum, Nat.mul_zero, Nat.add_zero]
  rw [Nat.mul_comm]

/-- A number's bytes, the lowest first. -/
def leBytes (n k : Nat) : List UInt8 := (List.range k).map fun i => UInt8.ofNat (n / 256 ^ i)
theorem leBytes_length (n k : Nat) : (leBytes n k).length = k := by simp [leBytes]
theorem leNum_leBytes (n : Nat) : ∀ k, leNum (leBytes n k) = n % 256 ^ k
  | 0 => by simp [leBytes, leNum, Nat.mod_one]
  | k + 1 => by
    have e : leBytes n (k + 1) = leBytes n k ++ [UInt8.ofNat (n / 256 ^ k)] := by simp [leBytes, List.range_succ]
    rw [e, leNum_append, leNum_leBytes n k, leBytes_length]
    simp only [leNum, Nat.mul_zero, Nat.add_zero, UInt8.toNat_ofNat']
    conv => rhs; rw [Nat.pow_succ, Nat.mod_mul]

/-- Block g holds the bytes l, as an array of type ty. -/
def HoldsB (W : World) (ty g : Nat) (l : List UInt8) : Prop := W.heap[g]? = some (.cells (l.map bv).toArray ty (0, 0))
section
variable {W W' : World} {ty g : Nat} {l : List UInt8}
theorem HoldsB.lt (h : HoldsB W ty g l) : g < W.heap.size := (Array.getElem?_eq_some_iff.1 h).1
theorem HoldsB.keep (h : HoldsB W ty g l) {D : Nat} (hb : Below D W W') (hD : g < D) : HoldsB W' ty g l := (hb.block g hD).trans h
theorem HoldsB.cell (h : HoldsB W ty g l) {j : Nat} (hj : j < l.length) : W.cell? ⟨g, j, none⟩ = some (.int .u8 (l[j].toNat : Int)) := by
  rw [cell_of_row W g j _ ty (0, 0) h]
  simp [bv, hj]
theorem HoldsB.frozen (h : HoldsB W ty g l) (j : Nat) : W.frozen? ⟨g, j, none⟩ = false := frozen_of_row W g j _ ty h
theorem HoldsB.set (h : HoldsB W ty g l) (j : Nat) (x : UInt8) : HoldsB (W.setCell ⟨g, j, none⟩ (.int .u8 (x.toNat : Int))) ty g (l.set j x) := by
  unfold HoldsB
  rw [heap_setCell_same W g j _ ty _ h]
  congr 2
  rw [List.map_set, List.setIfInBounds_toArray]
  rfl
theorem HoldsB.alloc (h : HoldsB W ty g l) (o : Obj) : HoldsB (W.alloc o) ty g l := by
  refine Eq.trans ?_ h
  simp only [World.alloc, Array.getElem?_push]
  rw [if_neg (Nat.ne_of_lt h.lt)]
theorem HoldsB.setOther (h : HoldsB W ty g l) (a : Addr) (v : Value) (hn : g ≠ a.block) : HoldsB (W.setCell a v) ty g l :=
  (heap_setCell_other W a g v hn).trans h
theorem HoldsB.oth {g' : Nat} (h : HoldsB W ty g l) (ho : ∀ k, k ≠ g' → W'.heap[k]? = W.heap[k]?) (hn : g ≠ g') : HoldsB W' ty g l := (ho g hn).trans h
end
theorem holdsB_new (W : World) (ty g : Nat) (cs : Array Value) (l : List UInt8) (hg : g = W.heap.size) (hc : cs = (l.map bv).toArray) : HoldsB (W.alloc (.cells cs ty)) ty g l := by
  subst hg hc
  exact heap_alloc_new W _
theorem Tryd.infoB32 : (Tryd.prog.info? 25).map (·.size) = some 32 := by kernel_rfl
theorem b_one (l : List UInt8) : (l.map bv).toArray.all (·.oneCell') = true := by
  rw [Array.all_eq_true_iff_forall_mem]
  intro v hv
  obtain ⟨x, _, rfl⟩ := List.mem_map.1 (by simpa using hv)
  rfl

theorem of_start (w : World) (l : List UInt8) (c1 c2 c3 : Array Value) (h1 : c1 = (l.map bv).toArray) (h2 : c2 = ((lims 0).map nv).toArray) (h3 : c3 = ((lims 0).map nv).toArray) :
    HoldsB (((w.alloc (.cells c1 25)).alloc (.cells c2 24)).alloc (.cells c3 24)) 25 w.heap.size l ∧ HoldsN (((w.alloc (.cells c1 25)).alloc (.cells c2 24)).alloc (.cells c3 24)) 24 (w.heap.size + 1) (lims 0) ∧
    HoldsN (((w.alloc (.cells c1 25)).alloc (.cells c2 24)).alloc (.cells c3 24)) 24 (w.heap.size + 2) (lims 0) ∧ Below w.heap.size w (((w.alloc (.cells c1 25)).alloc (.cells c2 24)).alloc (.cells c3 24)) := by
  have e1 : (w.alloc (.cells c1 25)).heap.size = w.heap.size + 1 := World.size_alloc ..
  have e2 : ((w.alloc (.cells c1 25)).alloc (.cells c2 24)).heap.size = w.heap.size + 2 := by rw [World.size_alloc, e1]
  exact ⟨((holdsB_new w _ _ c1 l rfl h1).alloc _).alloc _, (holdsN_new _ _ _ c2 _ e1.symm h2).alloc _, holdsN_new _ _ _ c3 _ e2.symm h3, (((Below.refl _ w).alloc (Nat.le_refl _) _).alloc (by omega) _).alloc (by omega) _⟩

set_option maxRecDepth 100000 in
set_option maxHeartbeats 1000000 in
theorem rOf_any (l : List UInt8) (w : World) (hl : l.length = 32) :
    Calls Tryd.prog 19 #[.agg (l.map bv).toArray] w (GaveF w (toF (leNum l)).val) := by
  obtain ⟨hA, hC, hD, hb⟩ := of_start w l _ #[.int .u64 0, .int .u64 0, .int .u64 0, .int .u64 0] #[.int .u64 0, .int .u64 0, .int .u64 0, .int .u64 0] rfl (by kernel_rfl) (by kernel_rfl)
  have hl0 : lims 0 = lims (leNum (l.take 0)) := rfl
  have Hl := Lib.hid hl
  clear hl
  go_enter Tryd.func19, Tryd.ntmps19
  go_wp2_with (with_reducible refine wpList_store_n rfl 24 (.tmp 3) (.tmp 5) rfl (w.heap.size + 2) (lims 0) 4 (by with_unfolding_all rfl) (by with_unfolding_all rfl) rfl (lims 0) (by with_unfolding_all exact hD) Tryd.infoFe rfl w.heap.size w (by with_unfolding_all exact hb) (by omega) ?_
               intro w2 hD2 o2 s2 b2
               have hA2 : HoldsB w2 25 w.heap.size l := (o2 _ (by omega)).trans (by with_unfolding_all exact hA)
               have hC2 : HoldsN w2 24 (w.heap.size + 1) (lims 0) := (o2 _ (by omega)).trans (by with_unfolding_all exact hC))
  clear hA hC hD hb o2 s2
  rw [hl0] at hD2
  clear hl0
  go_loopw [4] (fun v wr => ∃ k : Nat, k ≤ 32 ∧ v = .int .i64 (k : Int) ∧ HoldsB wr 25 w.heap.size l ∧ HoldsN wr 24 (w.heap.size + 1) (lims 0) ∧ HoldsN wr 24 (w.heap.size + 2) (lims (leNum (l.take k))) ∧ Below w.heap.size w wr)
    (fun v _ => 32 - (intOf v).toNat)
  case atStart => exact ⟨0, Nat.zero_le _, rfl, hA2, hC2, hD2, b2⟩
  case round =>
    clear hA2 hC2 hD2 b2
    obtain ⟨k, hk, rfl, hA, hC, hO, hb⟩ := hrel
    by_cases hltk : k < 32
    · have hltk2 : (k : Int) < 32 := by omega
      have hkl : k < l.length := by rw [Hl.out]; exact hltk
      have cA := hA.cell (j := k) hkl
      have cO := hO.cell (j := k / 8) (by rw [lims_length]; omega)
      rw [lims_get _ (by omega)] at cO
      have fO := hO.frozen (k / 8)
      have eq4 : (k : Int).tdiv 8 = ((k / 8 : Nat) : Int) := by rw [Int.tdiv_eq_ediv_of_nonneg (by omega)]; omega
      have em4 : (k : Int).tmod 8 = ((k % 8 : Nat) : Int) := by rw [Int.tmod_eq_emod_of_nonneg (by omega)]; omega
      have lq : ((k / 8 : Nat) : Int) < 4 := by omega
      have hr4 : k % 8 < 8 := by omega
      have hd : l[k].toNat < 256 := l[k].toNat_lt
      have hN : leNum (l.take k) < 256 ^ k := by
        have := leNum_lt (l.take k)
        rwa [List.length_take, Hl.out, Nat.min_eq_left hk] at this
      have hnx := Lib.hid (leNum_take l hkl)
      have hset := Lib.hid (lims_digit8 hN hd)
      have hor := Lib.hid (or_digit8 (limb_top8 hN).2 hd hr4)
      rw [hnx.out] at hset
      clear hN hnx
      generalize l[k].toNat = d at *
      generalize limb (leNum (l.take k)) (k / 8) = x at *
      generalize k / 8 = qq at *
      generalize k % 8 = rr at *
      have lr : (rr : Int) < 8 := by omega
      have wr1 : IntKind.i64.wrap (8 * (rr : Int)) = 8 * rr := by simp only [IntKind.wrap, IntKind.bits, IntKind.signed]; simp; omega
      have wr2 : IntKind.u64.wrap (8 * (rr : Int)) = 8 * rr := by rw [IntKind.wrap_u64]; omega
      have lr3 : 8 * (rr : Int) < 64 := by omega
      have hs : IntKind.u64.wrap (d : Int) = (d : Int) := by rw [IntKind.wrap_u64]; omega
      go_wp2
      go_region
      rw [hor.out]
      go_wp2
      go_roundw
      case rel => exact ⟨k + 1, by omega, by go_num, hA.setOther _ _ (by simp; omega), hC.setOther _ _ (by simp), by rw [← hset.out]; exact hO.set qq _, (hb.setCell (by simp; omega) _).drew⟩
      case measure => simp [intOf]; omega
    · rw [show (k : Int) = 32 by omega]
      obtain rfl : k = 32 := by omega
      rw [List.take_of_length_le (by rw [Hl.out]; omega)] at hO
      have LS : Hid (∀ W, Calls Tryd.prog 34 #[.agg ((lims (leNum l)).map nv).toArray] W fun e w' => e = .returned (.agg ((lims (toF (leNum l)).val).map nv).toArray) ∧ Below W.heap.size W w') := Lib.hid fun W => by
        refine rLeast_any _ W ?_
        have := leNum_lt l
        rw [Hl.out] at this
        exact Nat.lt_of_lt_of_le this (by decide)
      generalize (toF (leNum l)).val = r at *
      generalize leNum l = n at *
      clear hA
      go_wp2_with (first
        | (with_reducible refine wpList_load_n rfl 24 (.tmp 3) rfl (w.heap.size + 2) rfl (lims n) 4 hO rfl Tryd.underlying24 Tryd.infoFe ?_)
        | (go_at_call 34
           with_reducible refine (LS.out _).mono ?_
           rintro e w3 ⟨rfl, hb3⟩
           have hC3 := hC.keep hb3 hC.lt
           have b3 := hb.trans (hb3.mono hb.size))
        | (with_reducible refine wpList_store_n rfl 24 (.tmp 2) (.tmp 28) rfl (w.heap.size + 1) (lims r) 4 rfl rfl rfl (lims 0) hC3 Tryd.infoFe rfl w.heap.size w b3 (by omega) ?_; intro w7 Hg _ _ hb7))
      exact bodyPost_ret (results_cell_row rfl _ _ _ _ _ _ _ rfl Hg Tryd.underlying24 rfl (by rw [Tryd.infoFe]; rfl)) rfl ⟨rfl, hb7⟩

/-- A byte out of its limb. -/
theorem byte_limb (n i : Nat) : limb n (i / 8) / 2 ^ (8 * (i % 8)) % 256 = n / 256 ^ i % 256 := by
  unfold limb
  have e : (256 : Nat) ^ i = 18446744073709551616 ^ (i / 8) * 256 ^ (i % 8) := by
    rw [show (18446744073709551616 : Nat) = 256 ^ 8 by decide, ← Nat.pow_mul, ← Nat.pow_add, Nat.div_add_mod]
  rw [e, ← Nat.div_div_eq_div_mul, Nat.pow_mul, show (2 : Nat) ^ 8 = 256 by decide]
  generalize n / 18446744073709551616 ^ (i / 8) = x
  have hr : i % 8 < 8 := Nat.mod_lt _ (by omega)
  generalize i % 8 = r at *
  have eW : (18446744073709551616 : Nat) = 256 ^ r * (256 * 256 ^ (7 - r)) := by
    rw [← Nat.pow_succ', ← Nat.pow_add, show r + (7 - r).succ = 8 by omega]
  have hx : x = x % 18446744073709551616 + 256 ^ r * (256 * (256 ^ (7 - r) * (x / 18446744073709551616))) := by
    have h := Nat.mod_add_div x 18446744073709551616
    rw [← Nat.mul_assoc 256, ← Nat.mul_assoc (256 ^ r), ← eW]
    exact h.symm
  conv => rhs; rw [hx, Nat.add_mul_div_left _ _ (Nat.pow_pos (by omega)), Nat.add_mul_mod_self_left]

/-- The bytes below i; the others are 0. -/
def bytL (n i : Nat) : List UInt8 := (List.range 32).map fun j => if j < i then UInt8.ofNat (n / 256 ^ j) else 0
theorem bytL_length (n i : Nat) : (bytL n i).length = 32 := by simp [bytL]
theorem bytL_full (n : Nat) : bytL n 32 = leBytes n 32 := by
  unfold bytL leBytes
  refine List.map_congr_left fun j hj => ?_
  rw [if_pos (by simpa using hj)]
theorem bytL_zero (n : Nat) : bytL n 0 = List.replicate 32 0 := rfl
theorem bytL_set (n i : Nat) : (bytL n i).set i (UInt8.ofNat (n / 256 ^ i)) = bytL n (i + 1) := by
  refine List.ext_getElem (by simp [bytL]) fun j h1 h2 => ?_
  rw [List.getElem_set]
  simp only [bytL, List.getElem_map, List.getElem_range]
  split
  · next e => subst e; rw [if_pos (by omega)]
  · next e => by_cases h : j < i
              · rw [if_pos h, if_pos (by omega)]
              · rw [if_neg h, if_neg (by omega)]

def zb : Array Value := ((List.replicate 32 (0 : UInt8)).map bv).toArray
theorem Tryd.builtB32 : Tryd.prog.built 25 [] = some zb := by kernel_rfl

/-- 'x := a' of an array of bytes in a block; 'r = a'. -/
theorem wpList_load_b {P : Program} {ops : Array Oper} {rest : List Oper} {o : Oper} {a : Act} {w : World} {Q : Exit → Act → World → Prop} (hgd : o.guard = none) (ty : TypeId) (x : Operand) (ho : o.op = .load ty x)
    (g : Nat) (hx : a.eval x = .pointer (some ⟨g, 0, none⟩)) (l : List UInt8) {e : TypeId} {n : Nat} (hg : HoldsB w ty g l) (hl : l.length = 32)
    (hu : P.underlying ty = some (.array n e)) (hi : (P.info? ty).map (·.size) = some 32)
    (h : wpList P ops Q rest (a.put o.dst (.agg (l.map bv).toArray)) w) : wpList P ops Q (o :: rest) a w :=
  wpList_load_row hgd ty x ho g hx ty _ (0, 0) _ hg hu rfl (by rw [hi]; simp [hl]) h
theorem wpList_store_b {P : Program} {ops : Array Oper} {rest : List Oper} {o : Oper} {a : Act} {w : World} {Q : Exit → Act → World → Prop} (hgd : o.guard = none) (ty : TypeId) (x y : Operand) (ho : o.op = .store ty x y)
    (g : Nat) (l : List UInt8) (hx : a.eval x = .pointer (some ⟨g, 0, none⟩)) (hy : a.eval y = .agg (l.map bv).toArray) (hl : l.length = 32)
    (old : List UInt8) (hg : HoldsB w ty g old) (hi : (P.info? ty).map (·.size) = some 32) (hold : old.length = 32) (D : Nat) (w0 : World) (hb : Below D w0 w) (hD : D ≤ g)
    (h : ∀ w' : World, HoldsB w' ty g l → (∀ k, k ≠ g → w'.heap[k]? = w.heap[k]?) → w'.heap.size = w.heap.size → Below D w0 w' → wpList P ops Q rest (a.put o.dst undef) w') : wpList P ops Q (o :: rest) a w :=
  wpList_store_row hgd ty x y ho g _ hx hy ty _ hg (by rw [hi]; simp [hl]) (by simp [hl, hold]) (b_one l)
    (h _ (show _ = _ from setRow_heap w g _ _ ty _ hg) (fun k hk => setRow_other w g k _ hk) (by simp) (below_setRow hb hD _))

theorem bytes_start (w : World) (m : Nat) (c1 c2 : Array Value) (h1 : c1 = ((lims m).map nv).toArray) (h2 : c2 = zb) :
    HoldsN ((w.alloc (.cells c1 24)).alloc (.cells c2 25)) 24 w.heap.size (lims m) ∧ HoldsB ((w.alloc (.cells c1 24)).alloc (.cells c2 25)) 25 (w.heap.size + 1) (List.replicate 32 0) ∧ Below w.heap.size w ((w.alloc (.cells c1 24)).alloc (.cells c2 25)) := by
  obtain ⟨a, b, e⟩ := fe_start w m c1 h1
  exact ⟨a.alloc _, holdsB_new _ _ _ _ _ e.symm h2, b.alloc (by omega) _⟩

set_option maxRecDepth 100000 in
set_option maxHeartbeats 1000000 in
theorem rBytes_any (m : Nat) (w : World) (hm : m < big) :
    Calls Tryd.prog 21 #[fev m] w fun e w' => e = .returned (.agg ((leBytes (toF m).val 32).map bv).toArray) ∧ Below w.heap.size w w' := by
  obtain ⟨hA, hC, hb⟩ := bytes_start w m _ zb rfl rfl
  obtain ⟨a, ha⟩ : ∃ a, a = (toF m).val := ⟨_, rfl⟩
  have LM : Hid (∀ W, Calls Tryd.prog 34 #[.agg ((lims m).map nv).toArray] W fun e w' => e = .returned (.agg ((lims a).map nv).toArray) ∧ Below W.heap.size W w') := Lib.hid fun W => by rw [ha]; exact rLeast_any m W hm
  rw [fev_eq, ← ha]
  clear ha
  go_enter Tryd.func21, Tryd.ntmps21
  go_wp2_with (first
    | (with_reducible refine wpList_load_n rfl 24 (.tmp 1) rfl w.heap.size rfl (lims m) 4 (by with_unfolding_all exact hA) rfl Tryd.underlying24 Tryd.infoFe ?_)
    | (go_at_call 34
       (with_reducible refine (LM.out _).mono ?_)
       rintro e w3 ⟨rfl, hb3⟩
       have hA3 := hA.keep hb3 hA.lt
       have hC3 := hC.keep hb3 hC.lt
       have b3 := hb.trans (hb3.mono hb.size))
    | (with_reducible refine wpList_store_n rfl 24 (.tmp 1) (.tmp 6) rfl w.heap.size (lims a) 4 rfl rfl rfl (lims m) hA3 Tryd.infoFe rfl w.heap.size w b3 (Nat.le_refl _) ?_
       intro w4 hA4 o4 s4 b4
       clear s4
       have hC4 := hC3.oth o4 (by omega)
       have l4 := hC4.lt
       have z5 : HoldsB (w4.alloc (.cells zb 25)) 25 w4.heap.size (List.replicate 32 0) := holdsB_new w4 _ _ _ _ rfl rfl
       have b5 := b4.alloc b4.size (.cells zb 25)
       have hA5 := hA4.alloc (.cells zb 25)
       have hC5 := hC4.alloc (.cells zb 25))
    | (with_reducible refine wpList_buildTo rfl 25 #[] rfl (some 7) rfl zb (by with_unfolding_all exact Tryd.builtB32) ?_)
    | (with_reducible refine wpList_store_b rfl 25 (.tmp 3) (.tmp 7) rfl w4.heap.size (List.replicate 32 0) rfl (by with_unfolding_all exact rfl) (by simp) (List.replicate 32 0) (by with_unfolding_all exact z5) Tryd.infoB32 (by simp) w.heap.size w (by with_unfolding_all exact b5) (by omega) ?_
       intro w6 hD6 o6 s6 b6
       have hA6 : HoldsN w6 24 w.heap.size (lims a) := (o6 _ (by omega)).trans (by with_unfolding_all exact hA5)
       have hC6 : HoldsB w6 25 (w.heap.size + 1) (List.replicate 32 0) := (o6 _ (by omega)).trans (by with_unfolding_all exact hC5)))
  clear hA hC hb hA3 hC3 b3 hb3 hA4 hC4 b4 o4 z5 b5 hA5 hC5 o6 s6
  rw [← bytL_zero a] at hD6
  generalize w4.heap.size = g at *
  go_loopw [4] (fun v wr => ∃ k : Nat, k ≤ 32 ∧ v = .int .i64 (k : Int) ∧ HoldsN wr 24 w.heap.size (lims a) ∧ HoldsB wr 25 (w.heap.size + 1) (List.replicate 32 0) ∧ HoldsB wr 25 g (bytL a k) ∧ Below w.heap.size w wr)
    (fun v _ => 32 - (intOf v).toNat)
  case atStart => exact ⟨0, Nat.zero_le _, rfl, hA6, hC6, hD6, b6⟩
  case round =>
    clear hA6 hC6 hD6 b6
    obtain ⟨k, hk, rfl, hA, hC, hD, hb⟩ := hrel
    by_cases hlt : k < 32
    · have hlt2 : (k : Int) < 32 := by omega
      have ca := hA.cell (j := k / 8) (by rw [lims_length]; omega)
      rw [lims_get _ (by omega)] at ca
      have hf := hD.frozen k
      have co := hD.cell (j := k) (by rw [bytL_length]; exact hlt)
      have hset := Lib.hid (bytL_set a k)
      have hbl := byte_limb a k
      have eq4 : (k : Int).tdiv 8 = ((k / 8 : Nat) : Int) := by rw [Int.tdiv_eq_ediv_of_nonneg (by omega)]; omega
      have em4 : (k : Int).tmod 8 = ((k % 8 : Nat) : Int) := by rw [Int.tmod_eq_emod_of_nonneg (by omega)]; omega
      have lq : ((k / 8 : Nat) : Int) < 4 := by omega
      have hr4 : k % 8 < 8 := by omega
      generalize limb a (k / 8) = x at *
      generalize k / 8 = qq at *
      generalize k % 8 = rr at *
      have lr : (rr : Int) < 8 := by omega
      have wr1 : IntKind.i64.wrap (8 * (rr : Int)) = 8 * rr := by simp only [IntKind.wrap, IntKind.bits, IntKind.signed]; simp; omega
      have wr2 : IntKind.u64.wrap (8 * (rr : Int)) = 8 * rr := by rw [IntKind.wrap_u64]; omega
      have lr3 : 8 * (rr : Int) < 64 := by omega
      have hv : (x : Int) / 2 ^ (8 * rr) % 256 = ((UInt8.ofNat (a / 256 ^ k)).toNat : Int) := by
        rw [show (2 : Int) ^ (8 * rr) = ((2 ^ (8 * rr) : Nat) : Int) from (Int.natCast_pow 2 _).symm, ← Int.natCast_ediv, UInt8.toNat_ofNat']
        exact (Int.natCast_emod _ 256).symm.trans (congrArg _ hbl)
      have Hv := Lib.hid hv
      clear hv hbl
      generalize UInt8.ofNat (a / 256 ^ k) = d at *
      go_wp2
      go_roundw
      case rel => exact ⟨k + 1, by omega, by go_num, hA.setOther _ _ (by simp; omega), hC.setOther _ _ (by simp; omega), by rw [Hv.out, ← hset.out]; exact hD.set k d, hb.setCell (by simp; omega) _⟩
      case measure => simp [intOf]; omega
    · rw [show (k : Int) = 32 by omega]
      obtain rfl : k = 32 := by omega
      rw [bytL_full] at hD
      go_wp2_with (first
        | (with_reducible refine wpList_load_b rfl 25 (.tmp 3) rfl g rfl (leBytes a 32) hD (leBytes_length _ _) Tryd.underlying25 Tryd.infoB32 ?_)
        | (with_reducible refine wpList_store_b rfl 25 (.tmp 2) (.tmp 24) rfl (w.heap.size + 1) (leBytes a 32) rfl rfl (leBytes_length _ _) _ hC Tryd.infoB32 (by simp) w.heap.size w hb (by omega) ?_; intro w7 Hg _ _ hb7))
      exact bodyPost_ret (results_cell_row rfl _ _ (w.heap.size + 1) _ _ _ _ rfl Hg Tryd.underlying25 rfl (by rw [Tryd.infoB32]; simp [leBytes_length])) rfl ⟨rfl, hb7⟩
end Go.Proofs.YtcidbiceeinglaaDoor
