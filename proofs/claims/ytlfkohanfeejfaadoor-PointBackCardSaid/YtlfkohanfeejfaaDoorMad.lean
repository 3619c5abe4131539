/-
  Numbers of four limbs: what is got, and taken, limb by limb; a call's first blocks; how such arrays are compared. (No program's types are named.)
  The document's numbers modulo P: P, which is less, differences, the least.
  The document's numbers modulo P: a difference, limb by limb.
  The document's numbers modulo P: the least; what is below 0; sums.
  The document's numbers modulo P: sums.
-/
import Derived.Test.YtlfkohanfeejfaaDoorMac
namespace Go.Proofs.YtlfkohanfeejfaaDoor
open Go.RowKit

theorem lims_get (n : Nat) {j : Nat} (h : j < 4) : (lims n).getD j 0 = limb n j := by
  match j, h with
  | 0, _ => rfl
  | 1, _ => rfl
  | 2, _ => rfl
  | 3, _ => rfl
theorem lims_zero : [0, 0, 0, 0] = lims 0 := by decide
theorem four_start (w : World) (ty : TypeId) (m : Nat) (c1 : Array Value) (h1 : c1 = ((lims m).map nv).toArray) : HoldsN (w.alloc (.cells c1 ty)) ty w.heap.size (lims m) ∧ Below w.heap.size w (w.alloc (.cells c1 ty)) ∧ (w.alloc (.cells c1 ty)).heap.size = w.heap.size + 1 :=
  ⟨holdsN_new _ _ _ _ _ rfl h1, (Below.refl _ w).alloc (Nat.le_refl _) _, World.size_alloc ..⟩
theorem four_start2 (w : World) (ty : TypeId) (m n : Nat) (c1 c2 : Array Value) (h1 : c1 = ((lims m).map nv).toArray) (h2 : c2 = ((lims n).map nv).toArray) :
    HoldsN ((w.alloc (.cells c1 ty)).alloc (.cells c2 ty)) ty w.heap.size (lims m) ∧ HoldsN ((w.alloc (.cells c1 ty)).alloc (.cells c2 ty)) ty (w.heap.size + 1) (lims n) ∧
    Below w.heap.size w ((w.alloc (.cells c1 ty)).alloc (.cells c2 ty)) ∧ ((w.alloc (.cells c1 ty)).alloc (.cells c2 ty)).heap.size = w.heap.size + 2 := by
  obtain ⟨a, b, e⟩ := four_start w ty m c1 h1
  exact ⟨a.alloc _, holdsN_new _ _ _ _ _ e.symm h2, b.alloc (by omega) _, by rw [World.size_alloc, e]⟩
theorem four_start3 (w : World) (ty : TypeId) (m n k : Nat) (c1 c2 c3 : Array Value) (h1 : c1 = ((lims m).map nv).toArray) (h2 : c2 = ((lims n).map nv).toArray) (h3 : c3 = ((lims k).map nv).toArray) :
    HoldsN (((w.alloc (.cells c1 ty)).alloc (.cells c2 ty)).alloc (.cells c3 ty)) ty w.heap.size (lims m) ∧ HoldsN (((w.alloc (.cells c1 ty)).alloc (.cells c2 ty)).alloc (.cells c3 ty)) ty (w.heap.size + 1) (lims n) ∧
    HoldsN (((w.alloc (.cells c1 ty)).alloc (.cells c2 ty)).alloc (.cells c3 ty)) ty (w.heap.size + 2) (lims k) ∧ Below w.heap.size w (((w.alloc (.cells c1 ty)).alloc (.cells c2 ty)).alloc (.cells c3 ty)) ∧
    (((w.alloc (.cells c1 ty)).alloc (.cells c2 ty)).alloc (.cells c3 ty)).heap.size = w.heap.size + 3 := by
  obtain ⟨a, a2, b, e⟩ := four_start2 w ty m n c1 c2 h1 h2
  exact ⟨a.alloc _, a2.alloc _, holdsN_new _ _ _ _ _ e.symm h3, b.alloc (by omega) _, by rw [World.size_alloc, e]⟩

/-- A call that gives a number. -/
def GaveF (w : World) (n : Nat) (e : Ending) (w' : World) : Prop := e = .returned (fev n) ∧ Below w.heap.size w w'

/-- The first k limbs of a difference, and the rest of what it is taken from. -/
def tookL (m n k : Nat) : List Nat := (subs ((lims m).take k) ((lims n).take k) 0).1 ++ (lims m).drop k
def tookB (m n k : Nat) : Nat := (subs ((lims m).take k) ((lims n).take k) 0).2
theorem lims_take_succ (n : Nat) {k : Nat} (h : k < 4) : (lims n).take (k + 1) = (lims n).take k ++ [limb n k] := by
  match k, h with
  | 0, _ => rfl
  | 1, _ => rfl
  | 2, _ => rfl
  | 3, _ => rfl
theorem lims_drop (n : Nat) {k : Nat} (h : k < 4) : (lims n).drop k = limb n k :: (lims n).drop (k + 1) := by
  match k, h with
  | 0, _ => rfl
  | 1, _ => rfl
  | 2, _ => rfl
  | 3, _ => rfl
theorem took_len (m n : Nat) {k : Nat} (h : k ≤ 4) : (subs ((lims m).take k) ((lims n).take k) 0).1.length = k := by
  rw [subs_length _ _ _ (by simp [lims_length]), List.length_take, lims_length]; omega
theorem tookL_length (m n : Nat) {k : Nat} (h : k ≤ 4) : (tookL m n k).length = 4 := by
  unfold tookL; rw [List.length_append, took_len m n h, List.length_drop, lims_length]; omega
theorem tookL_get (m n : Nat) {k : Nat} (h : k < 4) : (tookL m n k).getD k 0 = limb m k := by
  have hl := took_len m n (Nat.le_of_lt h)
  unfold tookL
  rw [lims_drop m h, List.getD_eq_getElem?_getD, List.getElem?_append_right (by omega), hl, Nat.sub_self]
  rfl
theorem tookB_bit (m n k : Nat) : tookB m n k ≤ 1 := subs_bit _ _ _ (by omega)
theorem tookL_succ (m n : Nat) {k : Nat} (h : k < 4) : (tookL m n k).set k ((limb m k + 18446744073709551616 - (limb n k + tookB m n k)) % 18446744073709551616) = tookL m n (k + 1) := by
  have hl := took_len m n (Nat.le_of_lt h)
  have e : (lims m).take k = (lims m).take k := rfl
  unfold tookL tookB
  rw [lims_take_succ m h, lims_take_succ n h, subs_snoc _ _ _ _ _ (by simp [lims_length]), lims_drop m h, List.set_append_right _ _ (by omega), hl, Nat.sub_self, List.set_cons_zero]
  simp
theorem tookB_succ (m n : Nat) {k : Nat} (h : k < 4) : tookB m n (k + 1) = if limb m k < limb n k ∨ (limb m k = limb n k ∧ tookB m n k = 1) then 1 else 0 := by
  have hb := tookB_bit m n k
  unfold tookB at *
  rw [lims_take_succ m h, lims_take_succ n h, subs_snoc _ _ _ _ _ (by simp [lims_length]), borrow_told hb]
theorem tookL_whole {m n : Nat} (hm : m < big) (h : n ≤ m) : tookL m n 4 = lims (m - n) := by
  have hw := subs_whole hm h
  have hs := subs_small [limb m 0, limb m 1, limb m 2, limb m 3] [limb n 0, limb n 1, limb n 2, limb n 3] 0
  have hl := took_len m n (Nat.le_refl 4)
  have e : tookL m n 4 = (subs [limb m 0, limb m 1, limb m 2, limb m 3] [limb n 0, limb n 1, limb n 2, limb n 3] 0).1 := by unfold tookL; exact List.append_nil _
  change (subs [limb m 0, limb m 1, limb m 2, limb m 3] [limb n 0, limb n 1, limb n 2, limb n 3] 0).1.length = 4 at hl
  rw [e]
  generalize (subs [limb m 0, limb m 1, limb m 2, limb m 3] [limb n 0, limb n 1, limb n 2, limb n 3] 0).1 = l at *
  match l, hl, hs with
  | [a, b, c, d], _, hs => rw [← hw, ← limbs_wv, lims_limbs (hs a (by simp)) (hs b (by simp)) (hs c (by simp)) (hs d (by simp))]
theorem lost_wrap {x y c : Nat} (hx : x < 18446744073709551616) (hy : y < 18446744073709551616) (hc : c ≤ 1) :
    IntKind.u64.wrap (IntKind.u64.wrap ((x : Int) - (y : Int)) - (c : Int)) = (((x + 18446744073709551616 - (y + c)) % 18446744073709551616 : Nat) : Int) := by
  rw [IntKind.wrap_u64, IntKind.wrap_u64]; omega

def cellNat (w : World) (g j : Nat) : Nat :=
  match w.cell? ⟨g, j, none⟩ with
  | some (.int _ z) => z.toNat
  | _ => 0
/-- The number that a block holds. -/
def numAt (w : World) (g : Nat) : Nat := limbs (cellNat w g 0) (cellNat w g 1) (cellNat w g 2) (cellNat w g 3)
theorem numAt_of {w : World} {ty g n : Nat} (h : HoldsN w ty g (lims n)) (hn : n < big) : numAt w g = n := by
  have c : ∀ j, j < 4 → cellNat w g j = limb n j := fun j hj => by
    unfold cellNat
    rw [h.cell (by rw [lims_length]; exact hj), lims_get _ hj]
    simp
  unfold numAt
  rw [c 0 (by omega), c 1 (by omega), c 2 (by omega), c 3 (by omega), limbs_limb hn]

/-- The first k limbs of a sum, and the rest of what it is added to. -/
def gotL (m n k : Nat) : List Nat := (adds ((lims m).take k) ((lims n).take k) 0).1 ++ (lims m).drop k
def gotC (m n k : Nat) : Nat := (adds ((lims m).take k) ((lims n).take k) 0).2
theorem lims_small (n : Nat) : Small64 (lims n) := fun x hx => by
  simp only [lims, List.mem_cons, List.not_mem_nil, or_false] at hx
  rcases hx with rfl | rfl | rfl | rfl <;> exact limb_lt _ _
theorem got_len (m n : Nat) {k : Nat} (h : k ≤ 4) : (adds ((lims m).take k) ((lims n).take k) 0).1.length = k := by
  rw [adds_length _ _ _ (by simp [lims_length]), List.length_take, lims_length]; omega
theorem gotL_length (m n : Nat) {k : Nat} (h : k ≤ 4) : (gotL m n k).length = 4 := by
  unfold gotL; rw [List.length_append, got_len m n h, List.length_drop, lims_length]; omega
theorem gotL_get (m n : Nat) {k : Nat} (h : k < 4) : (gotL m n k).getD k 0 = limb m k := by
  have hl := got_len m n (Nat.le_of_lt h)
  unfold gotL
  rw [lims_drop m h, List.getD_eq_getElem?_getD, List.getElem?_append_right (by omega), hl, Nat.sub_self]
  rfl
theorem gotC_bit (m n k : Nat) : gotC m n k ≤ 1 := adds_bit _ _ _ (fun x hx => lims_small m x (List.mem_of_mem_take hx)) (fun x hx => lims_small n x (List.mem_of_mem_take hx)) (by omega)
theorem gotL_succ (m n : Nat) {k : Nat} (h : k < 4) : (gotL m n k).set k ((limb m k + limb n k + gotC m n k) % 18446744073709551616) = gotL m n (k + 1) := by
  have hl := got_len m n (Nat.le_of_lt h)
  unfold gotL gotC
  rw [lims_take_succ m h, lims_take_succ n h, adds_snoc _ _ _ _ _ (by simp [lims_length]), lims_drop m h, List.set_append_right _ _ (by omega), hl, Nat.sub_self, List.set_cons_zero]
  simp
theorem gotC_succ (m n : Nat) {k : Nat} (h : k < 4) : gotC m n (k + 1) = if (limb m k + limb n k + gotC m n k) % 18446744073709551616 < limb m k ∨ ((limb m k + limb n k + gotC m n k) % 18446744073709551616 = limb m k ∧ gotC m n k = 1) then 1 else 0 := by
  have hb := gotC_bit m n k
  unfold gotC at *
  rw [lims_take_succ m h, lims_take_succ n h, adds_snoc _ _ _ _ _ (by simp [lims_length]), carry_told (limb_lt m k) (limb_lt n k) hb]
theorem gotL_whole {m n : Nat} (h : m + n < big) : gotL m n 4 = lims (m + n) := by
  have hw := adds_whole h
  have hs := adds_small [limb m 0, limb m 1, limb m 2, limb m 3] [limb n 0, limb n 1, limb n 2, limb n 3] 0
  have hl := got_len m n (Nat.le_refl 4)
  have e : gotL m n 4 = (adds [limb m 0, limb m 1, limb m 2, limb m 3] [limb n 0, limb n 1, limb n 2, limb n 3] 0).1 := by unfold gotL; exact List.append_nil _
  change (adds [limb m 0, limb m 1, limb m 2, limb m 3] [limb n 0, limb n 1, limb n 2, limb n 3] 0).1.length = 4 at hl
  rw [e]
  generalize (adds [limb m 0, limb m 1, limb m 2, limb m 3] [limb n 0, limb n 1, limb n 2, limb n 3] 0).1 = l at *
  match l, hl, hs with
  | [a, b, c, d], _, hs => rw [← hw, ← limbs_wv, lims_limbs (hs a (by simp)) (hs b (by simp)) (hs c (by simp)) (hs d (by simp))]
theorem got_wrap {x y c : Nat} :
    IntKind.u64.wrap (IntKind.u64.wrap ((x : Int) + (y : Int)) + (c : Int)) = (((x + y + c) % 18446744073709551616 : Nat) : Int) := by
  rw [IntKind.wrap_u64, IntKind.wrap_u64]; omega
/-- 'r = a' of a number at a step. -/
theorem step_store_fe {P : Program} {ops : Array Oper} {o : Oper} {a : Act} {w : World} {K : Act → World → Prop} {Q : Exit → Act → World → Prop} {E : Prop} (hgd : o.guard = none) (ty : TypeId) (x y : Operand) (ho : o.op = .store ty x y)
    (g : Nat) (n : Nat) (hx : a.eval x = .pointer (some ⟨g, 0, none⟩)) (hy : a.eval y = .agg ((lims n).map nv).toArray)
    (old : List Nat) (hg : HoldsN w ty g old) (hi : (P.info? ty).map (·.size) = some 4) (hold : old.length = 4) (D : Nat) (w0 : World) (hb : Below D w0 w) (hD : D ≤ g)
    (h : ∀ w' : World, HoldsN w' ty g (lims n) → (∀ k, k ≠ g → w'.heap[k]? = w.heap[k]?) → w'.heap.size = w.heap.size → Below D w0 w' → K (a.put o.dst undef) w') :
    if Region.wanted o (yielded ops a.tmps) = true then Oper.wp P o a w K Q else E := by
  have hw : Region.wanted o (yielded ops a.tmps) = true := by simp [Region.wanted, hgd]
  rw [if_pos hw]
  exact wp_store_row ty x y ho g _ hx hy ty _ hg (by rw [hi]; rfl) (by simpa [lims_length] using hold) (n_one _)
    (h _ (show _ = _ from setRow_heap w g _ _ ty _ hg) (fun k hk => setRow_other w g k _ hk) (by simp) (below_setRow hb hD _))

theorem eqItems_ints {P : Program} {w : World} {e : TypeId} {k : IntKind} (he : P.underlying e = some (.int k)) (hp : P.plainKey e = true) (d : Nat) (a b : List Int) :
    ∀ is : List Nat, (∀ i ∈ is, i < a.length ∧ i < b.length) → (Op.eqItems (d + 1) e 1 (a.map (Value.int k)).toArray (b.map (Value.int k)).toArray is).run P w = .ok (is.all fun i => a.getD i 0 == b.getD i 0) w
  | [], _ => by simp [Op.eqItems]
  | i :: is, h => by
    have hi := h i (by simp)
    have h1 := run_part_plain (P := P) (w := w) hp (xs := (a.map (Value.int k)).toArray) (off := i * 1) (v := .int k a[i]) (by simp [hi.1])
    have h2 := run_part_plain (P := P) (w := w) hp (xs := (b.map (Value.int k)).toArray) (off := i * 1) (v := .int k b[i]) (by simp [hi.2])
    have h3 : (Op.equalIn (d + 1) e (.int k a[i]) (.int k b[i])).run P w = .ok (a[i] == b[i]) w := by
      simp [Op.equalIn, run_underlying he]
    have ih := eqItems_ints (w := w) he hp d a b is (fun j hj => h j (by simp [hj]))
    have ga : a.getD i 0 = a[i] := by rw [List.getD_eq_getElem?_getD, List.getElem?_eq_getElem hi.1, Option.getD_some]
    have gb : b.getD i 0 = b[i] := by rw [List.getD_eq_getElem?_getD, List.getElem?_eq_getElem hi.2, Option.getD_some]
    simp only [Op.eqItems, Sem.run_bind, h1, h2, h3, Result.andThen_ok, List.all_cons, ga, gb]
    cases a[i] == b[i] with
    | true => simpa using ih
    | false => simp

theorem lims_eq (m n : Nat) : (List.range 4).all (fun i => ((lims m).map fun x : Nat => (x : Int)).getD i 0 == ((lims n).map fun x : Nat => (x : Int)).getD i 0) = decide (lims m = lims n) := by
  have e : ∀ k : Nat, (lims k).map (fun x : Nat => (x : Int)) = [(limb k 0 : Int), (limb k 1 : Int), (limb k 2 : Int), (limb k 3 : Int)] := fun _ => rfl
  rw [e, e]
  unfold lims
  rw [Bool.eq_iff_iff]
  simp [List.range, List.range.loop]
  omega

end Go.Proofs.YtlfkohanfeejfaaDoor

namespace Go.Proofs.YtlfkohanfeejfaaDoor
open Go.RowKit

theorem Tryd.infoFe : (Tryd.prog.info? 24).map (·.size) = some 4 := by kernel_rfl
theorem fe_start (w : World) (m : Nat) (c1 : Array Value) (h1 : c1 = ((lims m).map nv).toArray) : HoldsN (w.alloc (.cells c1 24)) 24 w.heap.size (lims m) ∧ Below w.heap.size w (w.alloc (.cells c1 24)) ∧ (w.alloc (.cells c1 24)).heap.size = w.heap.size + 1 := four_start w 24 m c1 h1
theorem fe_start2 (w : World) (m n : Nat) (c1 c2 : Array Value) (h1 : c1 = ((lims m).map nv).toArray) (h2 : c2 = ((lims n).map nv).toArray) :
    HoldsN ((w.alloc (.cells c1 24)).alloc (.cells c2 24)) 24 w.heap.size (lims m) ∧ HoldsN ((w.alloc (.cells c1 24)).alloc (.cells c2 24)) 24 (w.heap.size + 1) (lims n) ∧ Below w.heap.size w ((w.alloc (.cells c1 24)).alloc (.cells c2 24)) ∧ ((w.alloc (.cells c1 24)).alloc (.cells c2 24)).heap.size = w.heap.size + 2 := four_start2 w 24 m n c1 c2 h1 h2
theorem fe_start3 (w : World) (m n k : Nat) (c1 c2 c3 : Array Value) (h1 : c1 = ((lims m).map nv).toArray) (h2 : c2 = ((lims n).map nv).toArray) (h3 : c3 = ((lims k).map nv).toArray) :
    HoldsN (((w.alloc (.cells c1 24)).alloc (.cells c2 24)).alloc (.cells c3 24)) 24 w.heap.size (lims m) ∧ HoldsN (((w.alloc (.cells c1 24)).alloc (.cells c2 24)).alloc (.cells c3 24)) 24 (w.heap.size + 1) (lims n) ∧ HoldsN (((w.alloc (.cells c1 24)).alloc (.cells c2 24)).alloc (.cells c3 24)) 24 (w.heap.size + 2) (lims k) ∧ Below w.heap.size w (((w.alloc (.cells c1 24)).alloc (.cells c2 24)).alloc (.cells c3 24)) ∧ (((w.alloc (.cells c1 24)).alloc (.cells c2 24)).alloc (.cells c3 24)).heap.size = w.heap.size + 3 := four_start3 w 24 m n k c1 c2 c3 h1 h2 h3

set_option maxRecDepth 100000 in
theorem rprime_any (w : World) : Calls Tryd.prog 63 #[] w (GaveF w PP) := by
  obtain ⟨z0, b0, _⟩ := fe_start w 0 #[.int .u64 0, .int .u64 0, .int .u64 0, .int .u64 0] (by kernel_rfl)
  have hP : Hid (Value.agg #[.int .u64 18446744073709551597, .int .u64 18446744073709551615, .int .u64 18446744073709551615, .int .u64 9223372036854775807] = .agg ((lims PP).map nv).toArray) := Lib.hid (by kernel_rfl)
  go_enter Tryd.func63, Tryd.ntmps63
  go_wp2_with (with_reducible refine wpList_store_n rfl 24 (.tmp 0) (.tmp 1) rfl w.heap.size (lims PP) 4 rfl (by with_unfolding_all exact hP.out) rfl (lims 0) (by with_unfolding_all exact z0) Tryd.infoFe rfl w.heap.size w (by with_unfolding_all exact b0) (Nat.le_refl _) ?_; intro w2 Hg _ _ hb2)
  exact bodyPost_ret (results_cell_row rfl _ _ w.heap.size _ _ _ _ rfl Hg Tryd.underlying24 rfl (by rw [Tryd.infoFe]; rfl)) rfl ⟨rfl, hb2⟩

set_option maxRecDepth 100000 in
set_option maxHeartbeats 1000000 in
theorem rLess_any (m n : Nat) (w : World) (hm : m < big) (hn : n < big) :
    Calls Tryd.prog 78 #[fev m, fev n] w fun e w' => e = .returned (.bool (decide (m < n))) ∧ Below w.heap.size w w' := by
  obtain ⟨hA, hB, hb, _⟩ := fe_start2 w m n _ _ rfl rfl
  rw [fev_eq, fev_eq]
  go_enter Tryd.func78, Tryd.ntmps78
  go_wp2
  go_loopw [5] (fun v wr => ∃ k : Nat, k ≤ 4 ∧ v = .int .i64 ((k : Int) - 1) ∧ m / 18446744073709551616 ^ k = n / 18446744073709551616 ^ k ∧ HoldsN wr 24 w.heap.size (lims m) ∧ HoldsN wr 24 (w.heap.size + 1) (lims n) ∧ Below w.heap.size w wr)
    (fun v _ => (intOf v + 1).toNat)
  case atStart => exact ⟨4, Nat.le_refl _, rfl, by rw [hi_top hm, hi_top hn], hA, hB, hb⟩
  case round =>
    clear hA hB hb
    obtain ⟨k, hk, rfl, hhi, hA, hB, hb⟩ := hrel
    rcases k with _ | j
    · rw [Nat.pow_zero, Nat.div_one, Nat.div_one] at hhi
      rw [show ((0 : Nat) : Int) - 1 = -1 from rfl]
      go_wp2
      go_ret
      exact ⟨by rw [decide_eq_false (by omega)]; rfl, hb⟩
    · rw [show ((j + 1 : Nat) : Int) - 1 = (j : Int) by omega]
      have hj : j < 4 := by omega
      have hj2 : (j : Int) < 4 := by omega
      have ca := hA.cell (j := j) (by rw [lims_length]; exact hj)
      have cb := hB.cell (j := j) (by rw [lims_length]; exact hj)
      rw [lims_get _ hj] at ca cb
      have hs := @same_at m n j hhi
      have hl := @less_at m n j hhi
      have hl' := @less_at n m j hhi.symm
      generalize limb m j = x at *
      generalize limb n j = y at *
      by_cases e : x = y
      · subst e
        go_wp2
        go_region
        go_wp2
        go_roundw
        case rel => exact ⟨j, by omega, by go_num, hs (by simp), hA, hB, hb.drew⟩
        case measure => simp [intOf]
      · have e' : ¬ (x : Int) = y := by omega
        go_wp2
        go_region
        go_wp2
        go_region
        go_wp2
        go_ret
        exact ⟨by
          rcases Nat.lt_or_gt_of_ne e with h | h
          · rw [decide_eq_true (hl h), decide_eq_true (by omega)]; rfl
          · rw [decide_eq_false (Nat.lt_asymm (hl' h)), decide_eq_false (by omega)]; rfl, hb.drew.drew⟩

end Go.Proofs.YtlfkohanfeejfaaDoor

namespace Go.Proofs.YtlfkohanfeejfaaDoor
open Go.RowKit

set_option maxRecDepth 100000 in
set_option maxHeartbeats 1000000 in
theorem rtake_any (m n : Nat) (w : World) (hm : m < big) (hn : n ≤ m) :
    Calls Tryd.prog 62 #[fev m, fev n] w (GaveF w (m - n)) := by
  obtain ⟨hA, hB, hC, hb, _⟩ := fe_start3 w m n 0 _ _ #[.int .u64 0, .int .u64 0, .int .u64 0, .int .u64 0] rfl rfl (by kernel_rfl)
  have hwh := Lib.hid (tookL_whole hm hn)
  rw [fev_eq, fev_eq]
  go_enter Tryd.func62, Tryd.ntmps62
  go_wp2
  go_loopw [5, 6] (fun vb vi wr => ∃ k : Nat, k ≤ 4 ∧ vi = .int .i64 (k : Int) ∧ vb = .int .u64 (tookB m n k : Int) ∧ HoldsN wr 24 w.heap.size (tookL m n k) ∧ HoldsN wr 24 (w.heap.size + 1) (lims n) ∧ HoldsN wr 24 (w.heap.size + 2) (lims 0) ∧ Below w.heap.size w wr)
    (fun _ vi _ => 4 - (intOf vi).toNat)
  case atStart => exact ⟨0, Nat.zero_le _, rfl, rfl, hA, hB, hC, hb⟩
  case round =>
    clear hA hB hC hb
    obtain ⟨k, hk, rfl, rfl, hA, hB, hC, hb⟩ := hrel
    by_cases hlt : k < 4
    · have hj2 : (k : Int) < 4 := by omega
      have ca := hA.cell (j := k) (by rw [tookL_length m n hk]; exact hlt)
      have cb := hB.cell (j := k) (by rw [lims_length]; exact hlt)
      rw [tookL_get m n hlt] at ca
      rw [lims_get _ hlt] at cb
      have hf := hA.frozen k
      have hL := Lib.hid (tookL_succ m n hlt)
      have hBs := Lib.hid (tookB_succ m n hlt)
      have hw := Lib.hid (lost_wrap (limb_lt m k) (limb_lt n k) (tookB_bit m n k))
      generalize hx : limb m k = x at *
      generalize hy : limb n k = y at *
      generalize hc : tookB m n k = c at *
      generalize (x + 18446744073709551616 - (y + c)) % 18446744073709551616 = d at *
      go_wp2
      go_region
      rw [hw.out]
      have told : ∀ b : Nat, b = (if x < y ∨ (x = y ∧ c = 1) then 1 else 0) → tookB m n (k + 1) = b := fun b h => by rw [hBs.out, h]
      have Told := Lib.hid told
      clear told
      go_wp2
      by_cases h1 : x < y
      · have d1 : decide ((x : Int) < y) = true := decide_eq_true (by omega)
        go_quiet (fail)
        go_wp2
        go_roundw
        case rel => exact ⟨k + 1, by omega, by go_num, by rw [Told.out 1 (by rw [if_pos (Or.inl h1)])]; rfl, by rw [← hL.out]; exact (hA.drewN _).set k d, (hB.drewN _).setOther _ _ (by simp), (hC.drewN _).setOther _ _ (by simp), (below_drewN hb _).setCell (Nat.le_refl _) _⟩
        case measure => simp [intOf]; omega
      · have d1 : decide ((x : Int) < y) = false := decide_eq_false (by omega)
        by_cases h2 : x = y
        · have d2 : ((x : Int) == (y : Int)) = true := by simp [h2]
          by_cases h3 : c = 1
          · have d3 : ((c : Int) == 1) = true := by simp [h3]
            go_quiet (fail)
            go_wp2
            go_roundw
            case rel => exact ⟨k + 1, by omega, by go_num, by rw [Told.out 1 (by rw [if_pos (Or.inr ⟨h2, h3⟩)])]; rfl, by rw [← hL.out]; exact (hA.drewN _).set k d, (hB.drewN _).setOther _ _ (by simp), (hC.drewN _).setOther _ _ (by simp), (below_drewN hb _).setCell (Nat.le_refl _) _⟩
            case measure => simp [intOf]; omega
          · have d3 : ((c : Int) == 1) = false := by rw [beq_eq_false_iff_ne]; omega
            go_quiet (fail)
            go_wp2
            go_roundw
            case rel => exact ⟨k + 1, by omega, by go_num, by rw [Told.out 0 (by rw [if_neg (by omega)])]; rfl, by rw [← hL.out]; exact (hA.drewN _).set k d, (hB.drewN _).setOther _ _ (by simp), (hC.drewN _).setOther _ _ (by simp), (below_drewN hb _).setCell (Nat.le_refl _) _⟩
            case measure => simp [intOf]; omega
        · have d2 : ((x : Int) == (y : Int)) = false := by rw [beq_eq_false_iff_ne]; omega
          go_quiet (fail)
          go_wp2
          go_roundw
          case rel => exact ⟨k + 1, by omega, by go_num, by rw [Told.out 0 (by rw [if_neg (by omega)])]; rfl, by rw [← hL.out]; exact (hA.drewN _).set k d, (hB.drewN _).setOther _ _ (by simp), (hC.drewN _).setOther _ _ (by simp), (below_drewN hb _).setCell (Nat.le_refl _) _⟩
          case measure => simp [intOf]; omega
    · rw [show (k : Int) = 4 by omega]
      obtain rfl : k = 4 := by omega
      rw [hwh.out] at hA
      clear hB
      go_wp2_with (first
        | (with_reducible refine wpList_load_n rfl 24 (.tmp 2) rfl w.heap.size rfl (lims (m - n)) 4 hA rfl Tryd.underlying24 Tryd.infoFe ?_)
        | (with_reducible refine wpList_store_n rfl 24 (.tmp 4) (.tmp 44) rfl (w.heap.size + 2) (lims (m - n)) 4 rfl rfl rfl (lims 0) hC Tryd.infoFe rfl w.heap.size w hb (by omega) ?_; intro w7 Hg _ _ hb7))
      exact bodyPost_ret (results_cell_row rfl _ _ _ _ _ _ _ rfl Hg Tryd.underlying24 rfl (by rw [Tryd.infoFe]; rfl)) rfl ⟨rfl, hb7⟩
end Go.Proofs.YtlfkohanfeejfaaDoor

namespace Go.Proofs.YtlfkohanfeejfaaDoor
open Go.RowKit

theorem less_PP {x : Nat} : ¬ x < PP → PP ≤ x ∧ x - PP < x ∧ toF (x - PP) = toF x := fun h => by
  have hp : 0 < PP := by decide
  refine ⟨by omega, by omega, ?_⟩
  rw [toF_eq]
  have e : x = (x - PP) + PP * 1 := by omega
  conv => rhs; rw [e, Nat.add_mul_mod_self_left]
theorem toF_small {x : Nat} (h : x < PP) : (toF x).val = x := Nat.mod_eq_of_lt h

set_option maxRecDepth 100000 in
set_option maxHeartbeats 1000000 in
theorem rLeast_any (m : Nat) (w : World) (hm : m < big) :
    Calls Tryd.prog 57 #[fev m] w (GaveF w (toF m).val) := by
  obtain ⟨hA, hC, hb, hsz⟩ := fe_start2 w m 0 _ #[.int .u64 0, .int .u64 0, .int .u64 0, .int .u64 0] rfl (by kernel_rfl)
  have LS : Hid (∀ (x : Nat) W, x < big → Calls Tryd.prog 78 #[.agg ((lims x).map nv).toArray, .agg ((lims PP).map nv).toArray] W fun e w' => e = .returned (.bool (decide (x < PP))) ∧ Below W.heap.size W w') := Lib.hid fun x W hx => rLess_any x PP W hx (by decide)
  have TK : Hid (∀ (x : Nat) W, x < big → PP ≤ x → Calls Tryd.prog 62 #[.agg ((lims x).map nv).toArray, .agg ((lims PP).map nv).toArray] W fun e w' => e = .returned (.agg ((lims (x - PP)).map nv).toArray) ∧ Below W.heap.size W w') := Lib.hid fun x W hx hp => rtake_any x PP W hx hp
  rw [fev_eq]
  go_enter Tryd.func57, Tryd.ntmps57
  go_wp2_with (first
    | (go_at_call 63
       refine (rprime_any _).mono ?_
       rintro e w1 ⟨rfl, hb1⟩
       have hA1 := hA.keep hb1 (by omega)
       have hC1 := hC.keep hb1 (by omega)
       have b1 := hb.trans (hb1.mono (by omega))
       have s1 := hb1.size
       obtain ⟨z1, _, sz1⟩ := fe_start w1 0 #[.int .u64 0, .int .u64 0, .int .u64 0, .int .u64 0] (by kernel_rfl)
       have b1a := b1.alloc b1.size (.cells #[.int .u64 0, .int .u64 0, .int .u64 0, .int .u64 0] 24)
       have hA1a := hA1.alloc (.cells #[.int .u64 0, .int .u64 0, .int .u64 0, .int .u64 0] 24)
       have hC1a := hC1.alloc (.cells #[.int .u64 0, .int .u64 0, .int .u64 0, .int .u64 0] 24))
    | (with_reducible refine wpList_store_n rfl 24 (.tmp 3) (.tmp 4) rfl w1.heap.size (lims PP) 4 rfl rfl rfl (lims 0) (by with_unfolding_all exact z1) Tryd.infoFe rfl w.heap.size w (by with_unfolding_all exact b1a) (by omega) ?_
       intro w2 hP o2 s2 b2
       have hA2 : HoldsN w2 24 w.heap.size (lims m) := (o2 _ (by omega)).trans (by with_unfolding_all exact hA1a)
       have hC2 : HoldsN w2 24 (w.heap.size + 1) (lims 0) := (o2 _ (by omega)).trans (by with_unfolding_all exact hC1a)))
  have s12 : w.heap.size + 2 ≤ w1.heap.size := by omega
  clear hA hC hb hsz hA1 hC1 hb1 b1 s1 z1 sz1 b1a hA1a hC1a o2 s2
  try dsimp only [Act.put]
  go_loopw [] (fun wr => ∃ x : Nat, x < big ∧ toF x = toF m ∧ HoldsN wr 24 w.heap.size (lims x) ∧ HoldsN wr 24 (w.heap.size + 1) (lims 0) ∧ HoldsN wr 24 w1.heap.size (lims PP) ∧ Below w.heap.size w wr)
    (fun wr => numAt wr w.heap.size)
  case atStart => exact ⟨m, hm, rfl, hA2, hC2, hP, b2⟩
  case round =>
    clear hA2 hC2 hP b2
    obtain ⟨x, hx, hxm, hA, hC, hP, hb⟩ := hrel
    have hnum := Lib.hid (numAt_of hA hx)
    by_cases hlt : x < PP
    · have hv := Lib.hid ((toF_small hlt).symm.trans (congrArg Fin.val hxm))
      have hd : decide (x < PP) = true := decide_eq_true hlt
      go_wp2_with (first
        | (with_reducible refine wpList_load_n rfl 24 (.tmp 1) rfl w.heap.size rfl (lims x) 4 hA rfl Tryd.underlying24 Tryd.infoFe ?_)
        | (with_reducible refine wpList_load_n rfl 24 (.tmp 3) rfl w1.heap.size rfl (lims PP) 4 hP rfl Tryd.underlying24 Tryd.infoFe ?_)
        | (go_at_call 78
           refine (LS.out x _ hx).mono ?_
           rintro e w3 ⟨rfl, hb3⟩
           rw [hd]
           have hA := hA.keep hb3 hA.lt
           have hC := hC.keep hb3 hC.lt
           have hb := hb.trans (hb3.mono hb.size))
        | (with_reducible refine wpList_store_n rfl 24 (.tmp 2) (.tmp 12) rfl (w.heap.size + 1) (lims x) 4 rfl rfl rfl (lims 0) hC Tryd.infoFe rfl w.heap.size w hb (by omega) ?_; intro w7 Hg _ _ hb7))
      rw [hv.out] at Hg
      exact bodyPost_ret (results_cell_row rfl _ _ _ _ _ _ _ rfl Hg Tryd.underlying24 rfl (by rw [Tryd.infoFe]; rfl)) rfl ⟨rfl, hb7⟩
    · obtain ⟨hp, hls, hto⟩ := less_PP hlt
      have hd : decide (x < PP) = false := decide_eq_false hlt
      go_wp2_with (first
        | (with_reducible refine wpList_load_n rfl 24 (.tmp 1) rfl w.heap.size rfl (lims x) 4 hA rfl Tryd.underlying24 Tryd.infoFe ?_)
        | (with_reducible refine wpList_load_n rfl 24 (.tmp 3) rfl w1.heap.size rfl (lims PP) 4 hP rfl Tryd.underlying24 Tryd.infoFe ?_)
        | (go_at_call 78
           refine (LS.out x _ hx).mono ?_
           rintro e w3 ⟨rfl, hb3⟩
           rw [hd]
           have hA := hA.keep hb3 hA.lt
           have hC := hC.keep hb3 hC.lt
           have hP := hP.keep hb3 hP.lt
           have hb := hb.trans (hb3.mono hb.size))
        | (go_at_call 62
           refine (TK.out x _ hx hp).mono ?_
           rintro e w4 ⟨rfl, hb4⟩
           have hA4 := hA.keep hb4 hA.lt
           have hC4 := hC.keep hb4 hC.lt
           have hP4 := hP.keep hb4 hP.lt
           have b4 := hb.trans (hb4.mono hb.size))
        | (with_reducible refine wpList_store_n rfl 24 (.tmp 1) (.tmp 11) rfl w.heap.size (lims (x - PP)) 4 rfl rfl rfl (lims x) hA4 Tryd.infoFe rfl w.heap.size w b4 (Nat.le_refl _) ?_
           intro w7 hA7 o7 s7 b7
           have hC7 := hC4.oth o7 (by omega)
           have hP7 := hP4.oth o7 (by omega)))
      try dsimp only [Act.put]
      go_roundw
      case rel => exact ⟨x - PP, by omega, hto.trans hxm, hA7, hC7, hP7, b7⟩
      case measure => rw [hnum.out, numAt_of hA7 (by omega)]; exact hls
end Go.Proofs.YtlfkohanfeejfaaDoor

namespace Go.Proofs.YtlfkohanfeejfaaDoor
open Go.RowKit

theorem F.sum_lt (a b : F) : a.val + b.val < big := by
  have h1 := a.isLt
  have h2 := b.isLt
  have h3 : PP + PP < big := by decide
  omega
theorem F.of_sum (a b : F) : (toF (a.val + b.val)).val = (a + b).val := by rw [toF_add, toF_of, toF_of]

set_option maxRecDepth 100000 in
set_option maxHeartbeats 1000000 in
theorem rAdd_any (m n : Nat) (w : World) (hm : m < big) (hn : n < big) :
    Calls Tryd.prog 29 #[fev m, fev n] w (GaveF w (toF m + toF n).val) := by
  obtain ⟨hA, hB, hC, hb, hsz⟩ := fe_start3 w m n 0 _ _ #[.int .u64 0, .int .u64 0, .int .u64 0, .int .u64 0] rfl rfl (by kernel_rfl)
  obtain ⟨a, ha⟩ : ∃ a, a = toF m := ⟨_, rfl⟩
  obtain ⟨b, hbb⟩ : ∃ b, b = toF n := ⟨_, rfl⟩
  have LM : Hid (∀ W, Calls Tryd.prog 57 #[.agg ((lims m).map nv).toArray] W fun e w' => e = .returned (.agg ((lims a.val).map nv).toArray) ∧ Below W.heap.size W w') := Lib.hid fun W => by rw [ha]; exact rLeast_any m W hm
  have LN : Hid (∀ W, Calls Tryd.prog 57 #[.agg ((lims n).map nv).toArray] W fun e w' => e = .returned (.agg ((lims b.val).map nv).toArray) ∧ Below W.heap.size W w') := Lib.hid fun W => by rw [hbb]; exact rLeast_any n W hn
  have LS : Hid (∀ W, Calls Tryd.prog 57 #[.agg ((lims (a.val + b.val)).map nv).toArray] W fun e w' => e = .returned (.agg ((lims (a + b).val).map nv).toArray) ∧ Below W.heap.size W w') := Lib.hid fun W => by rw [← F.of_sum]; exact rLeast_any _ W (F.sum_lt a b)
  rw [fev_eq, fev_eq, ← ha, ← hbb]
  have hwh := Lib.hid (gotL_whole (F.sum_lt a b))
  clear ha hbb
  generalize hp : a.val = p at *
  generalize hq : b.val = q at *
  clear hp hq
  go_enter Tryd.func29, Tryd.ntmps29
  go_wp2_with (first
    | (with_reducible refine wpList_load_n rfl 24 (.tmp 2) rfl w.heap.size rfl (lims m) 4 (by with_unfolding_all exact hA) rfl Tryd.underlying24 Tryd.infoFe ?_)
    | (with_reducible refine wpList_load_n rfl 24 (.tmp 3) rfl (w.heap.size + 1) rfl (lims n) 4 hB4 rfl Tryd.underlying24 Tryd.infoFe ?_)
    | (go_at_call 57
       with_reducible refine (LM.out _).mono ?_
       rintro e w3 ⟨rfl, hb3⟩
       have hA3 := hA.keep hb3 hA.lt
       have hB3 := hB.keep hb3 hB.lt
       have hC3 := hC.keep hb3 hC.lt
       have b3 := hb.trans (hb3.mono hb.size))
    | (with_reducible refine wpList_store_n rfl 24 (.tmp 2) (.tmp 9) rfl w.heap.size (lims p) 4 rfl rfl rfl (lims m) hA3 Tryd.infoFe rfl w.heap.size w b3 (Nat.le_refl _) ?_
       intro w4 hA4 o4 s4 b4
       have hB4 := hB3.oth o4 (by omega)
       have hC4 := hC3.oth o4 (by omega)
       clear s4)
    | (go_at_call 57
       with_reducible refine (LN.out _).mono ?_
       rintro e w5 ⟨rfl, hb5⟩
       have hA5 := hA4.keep hb5 hA4.lt
       have hB5 := hB4.keep hb5 hB4.lt
       have hC5 := hC4.keep hb5 hC4.lt
       have b5 := b4.trans (hb5.mono b4.size))
    | (with_reducible refine wpList_store_n rfl 24 (.tmp 3) (.tmp 11) rfl (w.heap.size + 1) (lims q) 4 rfl rfl rfl (lims n) hB5 Tryd.infoFe rfl w.heap.size w b5 (Nat.le_succ _) ?_
       intro w6 hB6 o6 s6 b6
       have hA6 := hA5.oth o6 (by omega)
       have hC6 := hC5.oth o6 (by omega)
       clear s6))
  clear hA hB hC hb hA3 hB3 hC3 hb3 b3 hA4 hB4 hC4 o4 b4 hA5 hB5 hC5 hb5 b5 o6
  go_loopw [5, 6] (fun vb vi wr => ∃ k : Nat, k ≤ 4 ∧ vi = .int .i64 (k : Int) ∧ vb = .int .u64 (gotC p q k : Int) ∧ HoldsN wr 24 w.heap.size (gotL p q k) ∧ HoldsN wr 24 (w.heap.size + 1) (lims q) ∧ HoldsN wr 24 (w.heap.size + 2) (lims 0) ∧ Below w.heap.size w wr)
    (fun _ vi _ => 4 - (intOf vi).toNat)
  case atStart => exact ⟨0, Nat.zero_le _, rfl, rfl, hA6, hB6, hC6, b6⟩
  case round =>
    clear hA6 hB6 hC6 b6
    obtain ⟨k, hk, rfl, rfl, hA, hB, hC, hb⟩ := hrel
    by_cases hlt : k < 4
    · have hj2 : (k : Int) < 4 := by omega
      have ca := hA.cell (j := k) (by rw [gotL_length p q hk]; exact hlt)
      have cb := hB.cell (j := k) (by rw [lims_length]; exact hlt)
      rw [gotL_get p q hlt] at ca
      rw [lims_get _ hlt] at cb
      have hf := hA.frozen k
      have hL := Lib.hid (gotL_succ p q hlt)
      have hBs := Lib.hid (gotC_succ p q hlt)
      have hw := Lib.hid (@got_wrap (limb p k) (limb q k) (gotC p q k))
      generalize hx : limb p k = x at *
      generalize hy : limb q k = y at *
      generalize hc : gotC p q k = c at *
      generalize (x + y + c) % 18446744073709551616 = d at *
      go_wp2
      go_region
      rw [hw.out]
      have told : ∀ b : Nat, b = (if d < x ∨ (d = x ∧ c = 1) then 1 else 0) → gotC p q (k + 1) = b := fun b h => by rw [hBs.out, h]
      have Told := Lib.hid told
      clear told
      by_cases h1 : d < x
      · have d1 : decide ((d : Int) < x) = true := decide_eq_true (by omega)
        go_wp2
        go_roundw
        case rel => exact ⟨k + 1, by omega, by go_num, by rw [Told.out 1 (by rw [if_pos (Or.inl h1)])]; rfl, by rw [← hL.out]; exact (hA.drewN _).set k d, (hB.drewN _).setOther _ _ (by simp), (hC.drewN _).setOther _ _ (by simp), (below_drewN hb _).setCell (Nat.le_refl _) _⟩
        case measure => simp [intOf]; omega
      · have d1 : decide ((d : Int) < x) = false := decide_eq_false (by omega)
        by_cases h2 : d = x
        · subst h2
          by_cases h3 : c = 1
          · have d3 : ((c : Int) == 1) = true := by simp [h3]
            go_wp2
            go_roundw
            case rel => exact ⟨k + 1, by omega, by go_num, by rw [Told.out 1 (by rw [if_pos (Or.inr ⟨rfl, h3⟩)])]; rfl, by rw [← hL.out]; exact (hA.drewN _).set k d, (hB.drewN _).setOther _ _ (by simp), (hC.drewN _).setOther _ _ (by simp), (below_drewN hb _).setCell (Nat.le_refl _) _⟩
            case measure => simp [intOf]; omega
          · have d3 : ((c : Int) == 1) = false := by rw [beq_eq_false_iff_ne]; omega
            go_wp2
            go_roundw
            case rel => exact ⟨k + 1, by omega, by go_num, by rw [Told.out 0 (by rw [if_neg (by omega)])]; rfl, by rw [← hL.out]; exact (hA.drewN _).set k d, (hB.drewN _).setOther _ _ (by simp), (hC.drewN _).setOther _ _ (by simp), (below_drewN hb _).setCell (Nat.le_refl _) _⟩
            case measure => simp [intOf]; omega
        · have d2 : ((d : Int) == (x : Int)) = false := by rw [beq_eq_false_iff_ne]; omega
          go_wp2
          go_roundw
          case rel => exact ⟨k + 1, by omega, by go_num, by rw [Told.out 0 (by rw [if_neg (by omega)])]; rfl, by rw [← hL.out]; exact (hA.drewN _).set k d, (hB.drewN _).setOther _ _ (by simp), (hC.drewN _).setOther _ _ (by simp), (below_drewN hb _).setCell (Nat.le_refl _) _⟩
          case measure => simp [intOf]; omega
    · rw [show (k : Int) = 4 by omega]
      obtain rfl : k = 4 := by omega
      rw [hwh.out] at hA
      clear hB
      go_wp2_with (first
        | (with_reducible refine wpList_load_n rfl 24 (.tmp 2) rfl w.heap.size rfl (lims (p + q)) 4 hA rfl Tryd.underlying24 Tryd.infoFe ?_)
        | (go_at_call 57
           with_reducible refine (LS.out _).mono ?_
           rintro e w3 ⟨rfl, hb3⟩
           have hC3 := hC.keep hb3 hC.lt
           have b3 := hb.trans (hb3.mono hb.size))
        | (with_reducible refine wpList_store_n rfl 24 (.tmp 4) (.tmp 45) rfl (w.heap.size + 2) (lims (a + b).val) 4 rfl rfl rfl (lims 0) hC3 Tryd.infoFe rfl w.heap.size w b3 (by omega) ?_; intro w7 Hg _ _ hb7))
      exact bodyPost_ret (results_cell_row rfl _ _ _ _ _ _ _ rfl Hg Tryd.underlying24 rfl (by rw [Tryd.infoFe]; rfl)) rfl ⟨rfl, hb7⟩
end Go.Proofs.YtlfkohanfeejfaaDoor
