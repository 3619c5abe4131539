/-
  Keys are compared as arrays; keys that lie in blocks of the call's own.
-/
import Derived.Test.YtbkmbbhgpogeiaaTurn
import Derived.Test.YtbkmbbhgpogeiaaPut
import Derived.ChangeKeysEq
import Derived.Deep.MidRow
namespace Go.Proofs.Ytbkmbbhgpogeiaa
open Go.RowKit

theorem eqItems_keys {P : Program} {w : World} {e : TypeId} (he : P.underlying e = some (.int .u8)) (hp : P.plainKey e = true) (d : Nat) (a b : List UInt8) (hl : a.length = b.length) :
    ∀ is : List Nat, (∀ i ∈ is, i < a.length) → (Op.eqItems (d + 1) e 1 (a.map bv).toArray (b.map bv).toArray is).run P w = .ok (is.all fun i => a[i]? == b[i]?) w
  | [], _ => by simp [Op.eqItems]
  | i :: is, h => by
    have hi := h i (by simp)
    have hj : i < b.length := by omega
    have h1 := run_part_plain (P := P) (w := w) hp (xs := (a.map bv).toArray) (off := i * 1) (v := bv a[i]) (by simp [hi])
    have h2 := run_part_plain (P := P) (w := w) hp (xs := (b.map bv).toArray) (off := i * 1) (v := bv b[i]) (by simp [hj])
    have h3 : (Op.equalIn (d + 1) e (bv a[i]) (bv b[i])).run P w = .ok (((a[i].toNat : Int)) == (b[i].toNat : Int)) w := by
      unfold bv
      simp [Op.equalIn, run_underlying he]
    have ih := eqItems_keys (w := w) he hp d a b hl is (fun j hj => h j (by simp [hj]))
    have e1 : (((a[i].toNat : Int)) == (b[i].toNat : Int)) = (a[i]? == b[i]?) := by
      rw [List.getElem?_eq_getElem hi, List.getElem?_eq_getElem hj, Bool.eq_iff_iff]
      simp only [beq_iff_eq, Option.some.injEq]
      exact ⟨fun h => UInt8.toNat_inj.1 (by omega), fun h => by rw [h]⟩
    simp only [Op.eqItems, Sem.run_bind, h1, h2, h3, Result.andThen_ok, e1, List.all_cons]
    cases (a[i]? == b[i]?)
    · simp
    · simpa using ih

theorem all_range_eq (a b : List UInt8) (hl : a.length = b.length) : ((List.range a.length).all fun i => a[i]? == b[i]?) = decide (a = b) := by
  rw [Bool.eq_iff_iff, decide_eq_true_iff, List.all_eq_true]
  constructor
  · intro h
    apply List.ext_getElem? 
    intro i
    rcases Nat.lt_or_ge i a.length with hi | hi
    · have := h i (List.mem_range.2 hi)
      simpa using this
    · rw [List.getElem?_eq_none hi, List.getElem?_eq_none (by omega)]
  · intro h i _
    rw [h]; simp

theorem Try.plainU8 : Try.prog.plainKey 5 = true := by kernel_rfl
theorem Try.cellsU8 : Try.prog.cellsOf 5 = 1 := by kernel_rfl

theorem run_eql_key (a b : List UInt8) (w : World) (ha : a.length = 32) (hb : b.length = 32) : (binOp .eql 36 (kv a) (kv b)).run Try.prog w = .ok (.bool (decide (a = b))) w := by
  obtain ⟨i, hi, _⟩ := info_parts Try.infoU8
  have h := run_equalIn_array (P := Try.prog) w 9999 (a.map bv).toArray (b.map bv).toArray Try.underlying36 hi
  rw [Try.cellsU8, eqItems_keys Try.underlying5 Try.plainU8 9998 a b (by omega) _ (fun i hi => by rw [ha]; exact List.mem_range.1 hi)] at h
  have e := all_range_eq a b (by omega)
  rw [ha] at e
  rw [e] at h
  unfold kv
  simp only [binOp]
  simp [Op.equal, Op.maxDepth, h]

theorem run_guard_key (x y : Operand) (a b : List UInt8) (w : World) : (eqGuard .eql 36 x y (kv a) (kv b)).run Try.prog w = .ok () w := by
  unfold kv
  simp [eqGuard]

theorem key_range {w : World} {g : Nat} {l : List UInt8} {t : TypeId} (hg : w.heap[g]? = some (.cells (l.map bv).toArray t (0, 0))) : w.rangeAt g 0 (l.map bv) := fun j v hv => by
  rw [Nat.zero_add, cell_of_row w g j _ _ _ hg]
  simpa using hv

theorem range_below {w w' : World} {D g : Nat} {cs : List Value} (h : w.rangeAt g 0 cs) (hb : Below D w w') (hg : g < D) : w'.rangeAt g 0 cs := fun j v hv => (hb.cell (p := ⟨g, 0 + j, none⟩) hg).trans (h j v hv)
end Go.Proofs.Ytbkmbbhgpogeiaa
