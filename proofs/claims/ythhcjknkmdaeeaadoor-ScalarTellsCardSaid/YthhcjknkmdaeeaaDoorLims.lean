/-
  Numbers of four limbs: what is got, and taken, limb by limb; a call's first blocks; how such arrays are compared. (No program's types are named.)
-/
import Derived.Test.YthhcjknkmdaeeaaDoorNums
import Derived.Test.YthhcjknkmdaeeaaDoorLimbs
namespace Go.Proofs.YthhcjknkmdaeeaaDoor
open Go.RowKit

theorem lims_get (n : Nat) {j : Nat} (h : j < 4) : (lims n).getD j 0 = limb n j := by
  match j, h with
  | 0, _ => rfl
  | 1, _ => rfl
  | 2, _ => rfl
  | 3, _ => rfl
theorem lims_zero : [0, 0, 0, 0] = lims 0 := by decide
theorem four_start (w : World) (ty : TypeId) (m : Nat) (c1 : Array Value) (h1 : c1 = ((lims m).map nv).toArray) : HoldsN (w.alloc (.cells c1 ty)) ty w.heap.size (lims m) ∧ Below w.heap.size w (w.alloc (.cells c1 ty)) ∧ (w.alloc (.cells c1 ty)).heap.size = w.heap.size + 1 :=
  ⟨holdsN_new _ _ _ _ _ rfl h1, (Below.refl _ w).alloc (Nat.le_refl _) _, World.size_alloc ..⟩
theorem four_start2 (w : World) (ty : TypeId) (m n : Nat) (c1 c2 : Array Value) (h1 : c1 = ((lims m).map nv).toArray) (h2 : c2 = ((lims n).map nv).toArray) :
    HoldsN ((w.alloc (.cells c1 ty)).alloc (.cells c2 ty)) ty w.heap.size (lims m) ∧ HoldsN ((w.alloc (.cells c1 ty)).alloc (.cells c2 ty)) ty (w.heap.size + 1) (lims n) ∧
    Below w.heap.size w ((w.alloc (.cells c1 ty)).alloc (.cells c2 ty)) ∧ ((w.alloc (.cells c1 ty)).alloc (.cells c2 ty)).heap.size = w.heap.size + 2 := by
  obtain ⟨a, b, e⟩ := four_start w ty m c1 h1
  exact ⟨a.alloc _, holdsN_new _ _ _ _ _ e.symm h2, b.alloc (by omega) _, by rw [World.size_alloc, e]⟩
theorem four_start3 (w : World) (ty : TypeId) (m n k : Nat) (c1 c2 c3 : Array Value) (h1 : c1 = ((lims m).map nv).toArray) (h2 : c2 = ((lims n).map nv).toArray) (h3 : c3 = ((lims k).map nv).toArray) :
    HoldsN (((w.alloc (.cells c1 ty)).alloc (.cells c2 ty)).alloc (.cells c3 ty)) ty w.heap.size (lims m) ∧ HoldsN (((w.alloc (.cells c1 ty)).alloc (.cells c2 ty)).alloc (.cells c3 ty)) ty (w.heap.size + 1) (lims n) ∧
    HoldsN (((w.alloc (.cells c1 ty)).alloc (.cells c2 ty)).alloc (.cells c3 ty)) ty (w.heap.size + 2) (lims k) ∧ Below w.heap.size w (((w.alloc (.cells c1 ty)).alloc (.cells c2 ty)).alloc (.cells c3 ty)) ∧
    (((w.alloc (.cells c1 ty)).alloc (.cells c2 ty)).alloc (.cells c3 ty)).heap.size = w.heap.size + 3 := by
  obtain ⟨a, a2, b, e⟩ := four_start2 w ty m n c1 c2 h1 h2
  exact ⟨a.alloc _, a2.alloc _, holdsN_new _ _ _ _ _ e.symm h3, b.alloc (by omega) _, by rw [World.size_alloc, e]⟩

/-- A call that gives a number. -/
def GaveF (w : World) (n : Nat) (e : Ending) (w' : World) : Prop := e = .returned (fev n) ∧ Below w.heap.size w w'

/-- The first k limbs of a difference, and the rest of what it is taken from. -/
def tookL (m n k : Nat) : List Nat := (subs ((lims m).take k) ((lims n).take k) 0).1 ++ (lims m).drop k
def tookB (m n k : Nat) : Nat := (subs ((lims m).take k) ((lims n).take k) 0).2
theorem lims_take_succ (n : Nat) {k : Nat} (h : k < 4) : (lims n).take (k + 1) = (lims n).take k ++ [limb n k] := by
  match k, h with
  | 0, _ => rfl
  | 1, _ => rfl
  | 2, _ => rfl
  | 3, _ => rfl
theorem lims_drop (n : Nat) {k : Nat} (h : k < 4) : (lims n).drop k = limb n k :: (lims n).drop (k + 1) := by
  match k, h with
  | 0, _ => rfl
  | 1, _ => rfl
  | 2, _ => rfl
  | 3, _ => rfl
theorem took_len (m n : Nat) {k : Nat} (h : k ≤ 4) : (subs ((lims m).take k) ((lims n).take k) 0).1.length = k := by
  rw [subs_length _ _ _ (by simp [lims_length]), List.length_take, lims_length]; omega
theorem tookL_length (m n : Nat) {k : Nat} (h : k ≤ 4) : (tookL m n k).length = 4 := by
  unfold tookL; rw [List.length_append, took_len m n h, List.length_drop, lims_length]; omega
theorem tookL_get (m n : Nat) {k : Nat} (h : k < 4) : (tookL m n k).getD k 0 = limb m k := by
  have hl := took_len m n (Nat.le_of_lt h)
  unfold tookL
  rw [lims_drop m h, List.getD_eq_getElem?_getD, List.getElem?_append_right (by omega), hl, Nat.sub_self]
  rfl
theorem tookB_bit (m n k : Nat) : tookB m n k ≤ 1 := subs_bit _ _ _ (by omega)
theorem tookL_succ (m n : Nat) {k : Nat} (h : k < 4) : (tookL m n k).set k ((limb m k + 18446744073709551616 - (limb n k + tookB m n k)) % 18446744073709551616) = tookL m n (k + 1) := by
  have hl := took_len m n (Nat.le_of_lt h)
  have e : (lims m).take k = (lims m).take k := rfl
  unfold tookL tookB
  rw [lims_take_succ m h, lims_take_succ n h, subs_snoc _ _ _ _ _ (by simp [lims_length]), lims_drop m h, List.set_append_right _ _ (by omega), hl, Nat.sub_self, List.set_cons_zero]
  simp
theorem tookB_succ (m n : Nat) {k : Nat} (h : k < 4) : tookB m n (k + 1) = if limb m k < limb n k ∨ (limb m k = limb n k ∧ tookB m n k = 1) then 1 else 0 := by
  have hb := tookB_bit m n k
  unfold tookB at *
  rw [lims_take_succ m h, lims_take_succ n h, subs_snoc _ _ _ _ _ (by simp [lims_length]), borrow_told hb]
theorem tookL_whole {m n : Nat} (hm : m < big) (h : n ≤ m) : tookL m n 4 = lims (m - n) := by
  have hw := subs_whole hm h
  have hs := subs_small [limb m 0, limb m 1, limb m 2, limb m 3] [limb n 0, limb n 1, limb n 2, limb n 3] 0
  have hl := took_len m n (Nat.le_refl 4)
  have e : tookL m n 4 = (subs [limb m 0, limb m 1, limb m 2, limb m 3] [limb n 0, limb n 1, limb n 2, limb n 3] 0).1 := by unfold tookL; exact List.append_nil _
  change (subs [limb m 0, limb m 1, limb m 2, limb m 3] [limb n 0, limb n 1, limb n 2, limb n 3] 0).1.length = 4 at hl
  rw [e]
  generalize (subs [limb m 0, limb m 1, limb m 2, limb m 3] [limb n 0, limb n 1, limb n 2, limb n 3] 0).1 = l at *
  match l, hl, hs with
  | [a, b, c, d], _, hs => rw [← hw, ← limbs_wv, lims_limbs (hs a (by simp)) (hs b (by simp)) (hs c (by simp)) (hs d (by simp))]
theorem lost_wrap {x y c : Nat} (hx : x < 18446744073709551616) (hy : y < 18446744073709551616) (hc : c ≤ 1) :
    IntKind.u64.wrap (IntKind.u64.wrap ((x : Int) - (y : Int)) - (c : Int)) = (((x + 18446744073709551616 - (y + c)) % 18446744073709551616 : Nat) : Int) := by
  rw [IntKind.wrap_u64, IntKind.wrap_u64]; omega

def cellNat (w : World) (g j : Nat) : Nat :=
  match w.cell? ⟨g, j, none⟩ with
  | some (.int _ z) => z.toNat
  | _ => 0
/-- The number that a block holds. -/
def numAt (w : World) (g : Nat) : Nat := limbs (cellNat w g 0) (cellNat w g 1) (cellNat w g 2) (cellNat w g 3)
theorem numAt_of {w : World} {ty g n : Nat} (h : HoldsN w ty g (lims n)) (hn : n < big) : numAt w g = n := by
  have c : ∀ j, j < 4 → cellNat w g j = limb n j := fun j hj => by
    unfold cellNat
    rw [h.cell (by rw [lims_length]; exact hj), lims_get _ hj]
    simp
  unfold numAt
  rw [c 0 (by omega), c 1 (by omega), c 2 (by omega), c 3 (by omega), limbs_limb hn]

/-- The first k limbs of a sum, and the rest of what it is added to. -/
def gotL (m n k : Nat) : List Nat := (adds ((lims m).take k) ((lims n).take k) 0).1 ++ (lims m).drop k
def gotC (m n k : Nat) : Nat := (adds ((lims m).take k) ((lims n).take k) 0).2
theorem lims_small (n : Nat) : Small64 (lims n) := fun x hx => by
  simp only [lims, List.mem_cons, List.not_mem_nil, or_false] at hx
  rcases hx with rfl | rfl | rfl | rfl <;> exact limb_lt _ _
theorem got_len (m n : Nat) {k : Nat} (h : k ≤ 4) : (adds ((lims m).take k) ((lims n).take k) 0).1.length = k := by
  rw [adds_length _ _ _ (by simp [lims_length]), List.length_take, lims_length]; omega
theorem gotL_length (m n : Nat) {k : Nat} (h : k ≤ 4) : (gotL m n k).length = 4 := by
  unfold gotL; rw [List.length_append, got_len m n h, List.length_drop, lims_length]; omega
theorem gotL_get (m n : Nat) {k : Nat} (h : k < 4) : (gotL m n k).getD k 0 = limb m k := by
  have hl := got_len m n (Nat.le_of_lt h)
  unfold gotL
  rw [lims_drop m h, List.getD_eq_getElem?_getD, List.getElem?_append_right (by omega), hl, Nat.sub_self]
  rfl
theorem gotC_bit (m n k : Nat) : gotC m n k ≤ 1 := adds_bit _ _ _ (fun x hx => lims_small m x (List.mem_of_mem_take hx)) (fun x hx => lims_small n x (List.mem_of_mem_take hx)) (by omega)
theorem gotL_succ (m n : Nat) {k : Nat} (h : k < 4) : (gotL m n k).set k ((limb m k + limb n k + gotC m n k) % 18446744073709551616) = gotL m n (k + 1) := by
  have hl := got_len m n (Nat.le_of_lt h)
  unfold gotL gotC
  rw [lims_take_succ m h, lims_take_succ n h, adds_snoc _ _ _ _ _ (by simp [lims_length]), lims_drop m h, List.set_append_right _ _ (by omega), hl, Nat.sub_self, List.set_cons_zero]
  simp
theorem gotC_succ (m n : Nat) {k : Nat} (h : k < 4) : gotC m n (k + 1) = if (limb m k + limb n k + gotC m n k) % 18446744073709551616 < limb m k ∨ ((limb m k + limb n k + gotC m n k) % 18446744073709551616 = limb m k ∧ gotC m n k = 1) then 1 else 0 := by
  have hb := gotC_bit m n k
  unfold gotC at *
  rw [lims_take_succ m h, lims_take_succ n h, adds_snoc _ _ _ _ _ (by simp [lims_length]), carry_told (limb_lt m k) (limb_lt n k) hb]
theorem gotL_whole {m n : Nat} (h : m + n < big) : gotL m n 4 = lims (m + n) := by
  have hw := adds_whole h
  have hs := adds_small [limb m 0, limb m 1, limb m 2, limb m 3] [limb n 0, limb n 1, limb n 2, limb n 3] 0
  have hl := got_len m n (Nat.le_refl 4)
  have e : gotL m n 4 = (adds [limb m 0, limb m 1, limb m 2, limb m 3] [limb n 0, limb n 1, limb n 2, limb n 3] 0).1 := by unfold gotL; exact List.append_nil _
  change (adds [limb m 0, limb m 1, limb m 2, limb m 3] [limb n 0, limb n 1, limb n 2, limb n 3] 0).1.length = 4 at hl
  rw [e]
  generalize (adds [limb m 0, limb m 1, limb m 2, limb m 3] [limb n 0, limb n 1, limb n 2, limb n 3] 0).1 = l at *
  match l, hl, hs with
  | [a, b, c, d], _, hs => rw [← hw, ← limbs_wv, lims_limbs (hs a (by simp)) (hs b (by simp)) (hs c (by simp)) (hs d (by simp))]
theorem got_wrap {x y c : Nat} :
    IntKind.u64.wrap (IntKind.u64.wrap ((x : Int) + (y : Int)) + (c : Int)) = (((x + y + c) % 18446744073709551616 : Nat) : Int) := by
  rw [IntKind.wrap_u64, IntKind.wrap_u64]; omega
/-- 'r = a' of a number at a step. -/
theorem step_store_fe {P : Program} {ops : Array Oper} {o : Oper} {a : Act} {w : World} {K : Act → World → Prop} {Q : Exit → Act → World → Prop} {E : Prop} (hgd : o.guard = none) (ty : TypeId) (x y : Operand) (ho : o.op = .store ty x y)
    (g : Nat) (n : Nat) (hx : a.eval x = .pointer (some ⟨g, 0, none⟩)) (hy : a.eval y = .agg ((lims n).map nv).toArray)
    (old : List Nat) (hg : HoldsN w ty g old) (hi : (P.info? ty).map (·.size) = some 4) (hold : old.length = 4) (D : Nat) (w0 : World) (hb : Below D w0 w) (hD : D ≤ g)
    (h : ∀ w' : World, HoldsN w' ty g (lims n) → (∀ k, k ≠ g → w'.heap[k]? = w.heap[k]?) → w'.heap.size = w.heap.size → Below D w0 w' → K (a.put o.dst undef) w') :
    if Region.wanted o (yielded ops a.tmps) = true then Oper.wp P o a w K Q else E := by
  have hw : Region.wanted o (yielded ops a.tmps) = true := by simp [Region.wanted, hgd]
  rw [if_pos hw]
  exact wp_store_row ty x y ho g _ hx hy ty _ hg (by rw [hi]; rfl) (by simpa [lims_length] using hold) (n_one _)
    (h _ (show _ = _ from setRow_heap w g _ _ ty _ hg) (fun k hk => setRow_other w g k _ hk) (by simp) (below_setRow hb hD _))

theorem eqItems_ints {P : Program} {w : World} {e : TypeId} {k : IntKind} (he : P.underlying e = some (.int k)) (hp : P.plainKey e = true) (d : Nat) (a b : List Int) :
    ∀ is : List Nat, (∀ i ∈ is, i < a.length ∧ i < b.length) → (Op.eqItems (d + 1) e 1 (a.map (Value.int k)).toArray (b.map (Value.int k)).toArray is).run P w = .ok (is.all fun i => a.getD i 0 == b.getD i 0) w
  | [], _ => by simp [Op.eqItems]
  | i :: is, h => by
    have hi := h i (by simp)
    have h1 := run_part_plain (P := P) (w := w) hp (xs := (a.map (Value.int k)).toArray) (off := i * 1) (v := .int k a[i]) (by simp [hi.1])
    have h2 := run_part_plain (P := P) (w := w) hp (xs := (b.map (Value.int k)).toArray) (off := i * 1) (v := .int k b[i]) (by simp [hi.2])
    have h3 : (Op.equalIn (d + 1) e (.int k a[i]) (.int k b[i])).run P w = .ok (a[i] == b[i]) w := by
      simp [Op.equalIn, run_underlying he]
    have ih := eqItems_ints (w := w) he hp d a b is (fun j hj => h j (by simp [hj]))
    have ga : a.getD i 0 = a[i] := by rw [List.getD_eq_getElem?_getD, List.getElem?_eq_getElem hi.1, Option.getD_some]
    have gb : b.getD i 0 = b[i] := by rw [List.getD_eq_getElem?_getD, List.getElem?_eq_getElem hi.2, Option.getD_some]
    simp only [Op.eqItems, Sem.run_bind, h1, h2, h3, Result.andThen_ok, List.all_cons, ga, gb]
    cases a[i] == b[i] with
    | true => simpa using ih
    | false => simp

theorem lims_eq (m n : Nat) : (List.range 4).all (fun i => ((lims m).map fun x : Nat => (x : Int)).getD i 0 == ((lims n).map fun x : Nat => (x : Int)).getD i 0) = decide (lims m = lims n) := by
  have e : ∀ k : Nat, (lims k).map (fun x : Nat => (x : Int)) = [(limb k 0 : Int), (limb k 1 : Int), (limb k 2 : Int), (limb k 3 : Int)] := fun _ => rfl
  rw [e, e]
  unfold lims
  rw [Bool.eq_iff_iff]
  simp [List.range, List.range.loop]
  omega

end Go.Proofs.YthhcjknkmdaeeaaDoor
