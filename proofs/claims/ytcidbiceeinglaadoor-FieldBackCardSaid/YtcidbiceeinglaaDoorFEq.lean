/-
  Numbers of four limbs compared as arrays.
-/
import Derived.Test.YtcidbiceeinglaaDoorFRefA
import Derived.ChangeKeysEq
namespace Go.Proofs.YtcidbiceeinglaaDoor
open Go.RowKit

theorem Tryd.plainU64 : Tryd.prog.plainKey 22 = true := by kernel_rfl
theorem Tryd.cellsU64 : Tryd.prog.cellsOf 22 = 1 := by kernel_rfl
theorem Tryd.infoU64 : (Tryd.prog.info? 22).map (fun i => (i.zero, i.size, i.bytes)) = some (some (.int .u64 0), 1, 8) := by kernel_rfl

theorem eqItems_ints {P : Program} {w : World} {e : TypeId} {k : IntKind} (he : P.underlying e = some (.int k)) (hp : P.plainKey e = true) (d : Nat) (a b : List Int) :
    ∀ is : List Nat, (∀ i ∈ is, i < a.length ∧ i < b.length) → (Op.eqItems (d + 1) e 1 (a.map (Value.int k)).toArray (b.map (Value.int k)).toArray is).run P w = .ok (is.all fun i => a.getD i 0 == b.getD i 0) w
  | [], _ => by simp [Op.eqItems]
  | i :: is, h => by
    have hi := h i (by simp)
    have h1 := run_part_plain (P := P) (w := w) hp (xs := (a.map (Value.int k)).toArray) (off := i * 1) (v := .int k a[i]) (by simp [hi.1])
    have h2 := run_part_plain (P := P) (w := w) hp (xs := (b.map (Value.int k)).toArray) (off := i * 1) (v := .int k b[i]) (by simp [hi.2])
    have h3 : (Op.equalIn (d + 1) e (.int k a[i]) (.int k b[i])).run P w = .ok (a[i] == b[i]) w := by
      simp [Op.equalIn, run_underlying he]
    have ih := eqItems_ints (w := w) he hp d a b is (fun j hj => h j (by simp [hj]))
    have ga : a.getD i 0 = a[i] := by rw [List.getD_eq_getElem?_getD, List.getElem?_eq_getElem hi.1, Option.getD_some]
    have gb : b.getD i 0 = b[i] := by rw [List.getD_eq_getElem?_getD, List.getElem?_eq_getElem hi.2, Option.getD_some]
    simp only [Op.eqItems, Sem.run_bind, h1, h2, h3, Result.andThen_ok, List.all_cons, ga, gb]
    cases a[i] == b[i] with
    | true => simpa using ih
    | false => simp

theorem lims_eq (m n : Nat) : (List.range 4).all (fun i => ((lims m).map fun x : Nat => (x : Int)).getD i 0 == ((lims n).map fun x : Nat => (x : Int)).getD i 0) = decide (lims m = lims n) := by
  have e : ∀ k : Nat, (lims k).map (fun x : Nat => (x : Int)) = [(limb k 0 : Int), (limb k 1 : Int), (limb k 2 : Int), (limb k 3 : Int)] := fun _ => rfl
  rw [e, e]
  unfold lims
  rw [Bool.eq_iff_iff]
  simp [List.range, List.range.loop]
  omega

theorem run_eql_fe (m n : Nat) (w : World) (hm : m < big) (hn : n < big) : (binOp .eql 24 (.agg ((lims m).map nv).toArray) (.agg ((lims n).map nv).toArray)).run Tryd.prog w = .ok (.bool (decide (m = n))) w := by
  obtain ⟨i, hi, _⟩ := info_parts Tryd.infoU64
  have em : ∀ k : Nat, (lims k).map nv = ((lims k).map fun x : Nat => (x : Int)).map (Value.int .u64) := fun k => by rw [List.map_map]; rfl
  rw [em, em]
  have h := run_equalIn_array (P := Tryd.prog) w 9999 (((lims m).map fun x : Nat => (x : Int)).map (Value.int .u64)).toArray (((lims n).map fun x : Nat => (x : Int)).map (Value.int .u64)).toArray Tryd.underlying24 hi
  rw [Tryd.cellsU64, eqItems_ints Tryd.underlying22 Tryd.plainU64 9998 _ _ _ (fun i hi => by simp only [List.length_map, lims_length]; exact ⟨List.mem_range.1 hi, List.mem_range.1 hi⟩), lims_eq] at h
  have hd : decide (lims m = lims n) = decide (m = n) := by
    by_cases e : m = n
    · rw [decide_eq_true e, decide_eq_true (by rw [e])]
    · rw [decide_eq_false e, decide_eq_false (fun h => e (lims_inj hm hn h))]
  rw [hd] at h
  generalize (((lims m).map fun x : Nat => (x : Int)).map (Value.int .u64)).toArray = xs at *
  generalize (((lims n).map fun x : Nat => (x : Int)).map (Value.int .u64)).toArray = ys at *
  simp only [binOp]
  simp [Op.equal, Op.maxDepth, h]
theorem run_guard_fe (x y : Operand) (a b : Array Value) (w : World) : (eqGuard .eql 24 x y (.agg a) (.agg b)).run Tryd.prog w = .ok () w := by
  simp [eqGuard]
theorem run_eql_F (a b : F) (w : World) : (binOp .eql 24 (.agg ((lims a.val).map nv).toArray) (.agg ((lims b.val).map nv).toArray)).run Tryd.prog w = .ok (.bool (decide (a = b))) w := by
  have h := run_eql_fe a.val b.val w (F.lt_big a) (F.lt_big b)
  rw [show decide (a.val = b.val) = decide (a = b) by
    by_cases e : a = b
    · rw [decide_eq_true e, decide_eq_true (congrArg Fin.val e)]
    · rw [decide_eq_false e, decide_eq_false (fun h => e (Fin.ext h))]] at h
  exact h
end Go.Proofs.YtcidbiceeinglaaDoor
