/-
  What the laws of layer 5 share: numbers and bytes compared; the blocks that a call holds; bytes read out of their block.
-/
import Derived.Test.YthhcjknkmdaeeaaDoorSProg
import Derived.ChangeKeysEq
namespace Go.Proofs.YthhcjknkmdaeeaaDoor
open Go.RowKit

theorem Tryd.plainU64 : Tryd.prog.plainKey 22 = true := by kernel_rfl
theorem Tryd.cellsU64 : Tryd.prog.cellsOf 22 = 1 := by kernel_rfl
theorem Tryd.infoU64 : (Tryd.prog.info? 22).map (fun i => (i.zero, i.size, i.bytes)) = some (some (.int .u64 0), 1, 8) := by kernel_rfl

theorem run_eql_sc (m n : Nat) (w : World) (hm : m < big) (hn : n < big) : (binOp .eql 24 (.agg ((lims m).map nv).toArray) (.agg ((lims n).map nv).toArray)).run Tryd.prog w = .ok (.bool (decide (m = n))) w := by
  obtain ⟨i, hi, _⟩ := info_parts Tryd.infoU64
  have em : ∀ k : Nat, (lims k).map nv = ((lims k).map fun x : Nat => (x : Int)).map (Value.int .u64) := fun k => by rw [List.map_map]; rfl
  rw [em, em]
  have h := run_equalIn_array (P := Tryd.prog) w 9999 (((lims m).map fun x : Nat => (x : Int)).map (Value.int .u64)).toArray (((lims n).map fun x : Nat => (x : Int)).map (Value.int .u64)).toArray Tryd.underlying24 hi
  rw [Tryd.cellsU64, eqItems_ints Tryd.underlying22 Tryd.plainU64 9998 _ _ _ (fun i hi => by simp only [List.length_map, lims_length]; exact ⟨List.mem_range.1 hi, List.mem_range.1 hi⟩), lims_eq] at h
  have hd : decide (lims m = lims n) = decide (m = n) := by
    by_cases e : m = n
    · rw [decide_eq_true e, decide_eq_true (by rw [e])]
    · rw [decide_eq_false e, decide_eq_false (fun h => e (lims_inj hm hn h))]
  rw [hd] at h
  generalize (((lims m).map fun x : Nat => (x : Int)).map (Value.int .u64)).toArray = xs at *
  generalize (((lims n).map fun x : Nat => (x : Int)).map (Value.int .u64)).toArray = ys at *
  simp only [binOp]
  simp [Op.equal, Op.maxDepth, h]
theorem run_guard_sc (x y : Operand) (a b : Array Value) (w : World) : (eqGuard .eql 24 x y (.agg a) (.agg b)).run Tryd.prog w = .ok () w := by
  simp [eqGuard]
theorem run_eql_S (a b : Sn) (w : World) : (binOp .eql 24 (.agg ((lims a.val).map nv).toArray) (.agg ((lims b.val).map nv).toArray)).run Tryd.prog w = .ok (.bool (decide (a = b))) w := by
  have h := run_eql_sc a.val b.val w (Sn.lt_big a) (Sn.lt_big b)
  rw [show decide (a.val = b.val) = decide (a = b) by
    by_cases e : a = b
    · rw [decide_eq_true e, decide_eq_true (congrArg Fin.val e)]
    · rw [decide_eq_false e, decide_eq_false (fun h => e (Fin.ext h))]] at h
  exact h
theorem Tryd.plainU8 : Tryd.prog.plainKey 5 = true := by kernel_rfl
theorem Tryd.cellsU8 : Tryd.prog.cellsOf 5 = 1 := by kernel_rfl
theorem Tryd.infoU8 : (Tryd.prog.info? 5).map (fun i => (i.zero, i.size, i.bytes)) = some (some (.int .u8 0), 1, 1) := by kernel_rfl
/-- Arrays of thirty-two bytes, compared. -/
theorem eq_bytes (a b : List UInt8) (ha : a.length = 32) (hb : b.length = 32) : (List.range 32).all (fun i => (a.map fun x : UInt8 => (x.toNat : Int)).getD i 0 == (b.map fun x : UInt8 => (x.toNat : Int)).getD i 0) = decide (a = b) := by
  rw [Bool.eq_iff_iff, List.all_eq_true, decide_eq_true_eq]
  constructor
  · intro h
    refine List.ext_getElem (by rw [ha, hb]) fun i h1 h2 => ?_
    have := h i (List.mem_range.2 (by omega))
    rw [List.getD_eq_getElem?_getD, List.getD_eq_getElem?_getD, List.getElem?_map, List.getElem?_map, List.getElem?_eq_getElem h1, List.getElem?_eq_getElem h2] at this
    simp only [Option.map_some, Option.getD_some, beq_iff_eq] at this
    exact UInt8.toNat_inj.1 (by omega)
  · rintro rfl i _
    simp
theorem run_eql_b (a b : List UInt8) (ha : a.length = 32) (hb : b.length = 32) (w : World) : (binOp .eql 26 (.agg (a.map bv).toArray) (.agg (b.map bv).toArray)).run Tryd.prog w = .ok (.bool (decide (a = b))) w := by
  obtain ⟨i, hi, _⟩ := info_parts Tryd.infoU8
  have em : ∀ l : List UInt8, l.map bv = (l.map fun x : UInt8 => (x.toNat : Int)).map (Value.int .u8) := fun l => by rw [List.map_map]; rfl
  rw [em, em]
  have h := run_equalIn_array (P := Tryd.prog) w 9999 ((a.map fun x : UInt8 => (x.toNat : Int)).map (Value.int .u8)).toArray ((b.map fun x : UInt8 => (x.toNat : Int)).map (Value.int .u8)).toArray Tryd.underlying26 hi
  rw [Tryd.cellsU8, eqItems_ints Tryd.underlying5 Tryd.plainU8 9998 _ _ _ (fun i hi => by simp only [List.length_map, ha, hb]; exact ⟨List.mem_range.1 hi, List.mem_range.1 hi⟩), eq_bytes a b ha hb] at h
  generalize ((a.map fun x : UInt8 => (x.toNat : Int)).map (Value.int .u8)).toArray = xs at *
  generalize ((b.map fun x : UInt8 => (x.toNat : Int)).map (Value.int .u8)).toArray = ys at *
  simp only [binOp]
  simp [Op.equal, Op.maxDepth, h]
theorem run_guard_b (x y : Operand) (a b : Array Value) (w : World) : (eqGuard .eql 26 x y (.agg a) (.agg b)).run Tryd.prog w = .ok () w := by
  simp [eqGuard]


/-- Blocks below D that hold numbers. -/
structure Bl (w : World) (D : Nat) (bs : List (Nat × Nat)) (W : World) : Prop where
  hold : ∀ p ∈ bs, p.1 < D ∧ HoldsN W 24 p.1 (lims p.2)
  len : D ≤ W.heap.size
  pos : w.heap.size ≤ D
  below : Below w.heap.size w W
section
variable {w W W' : World} {D g x : Nat} {bs : List (Nat × Nat)}
theorem Bl.stay : ∀ W W', Bl w D bs W → Below W.heap.size W W' → Bl w D bs W' := fun W W' h hb =>
  ⟨fun p hp => ⟨(h.hold p hp).1, (h.hold p hp).2.keep hb (h.hold p hp).2.lt⟩, Nat.le_trans h.len hb.size, h.pos, h.below.trans (hb.mono (Nat.le_trans h.pos h.len))⟩
theorem Bl.size (W : World) (h : Bl w D bs W) : D ≤ W.heap.size := h.len
theorem Bl.get (h : Bl w D bs W) (hp : (g, x) ∈ bs) : HoldsN W 24 g (lims x) := (h.hold _ hp).2
theorem Bl.add (h : Bl w D bs W) (hg : D ≤ g) (hn : HoldsN W' 24 g (lims x)) (ho : ∀ k, k ≠ g → W'.heap[k]? = W.heap[k]?) (hb : Below w.heap.size w W') : Bl w (g + 1) ((g, x) :: bs) W' := by
  refine ⟨fun p hp => ?_, hn.lt, by have := h.pos; omega, hb⟩
  rcases List.mem_cons.1 hp with rfl | hp
  · exact ⟨Nat.lt_succ_self _, hn⟩
  · obtain ⟨h1, h2⟩ := h.hold p hp
    exact ⟨by omega, h2.oth ho (by omega)⟩
theorem Bl.drew (h : Bl w D bs W) : Bl w D bs W.drew := Bl.stay _ _ h (Below.refl _ W).drew
theorem Bl.two {m n : Nat} (hA : HoldsN W 24 w.heap.size (lims m)) (hB : HoldsN W 24 (w.heap.size + 1) (lims n)) (hb : Below w.heap.size w W) : Bl w (w.heap.size + 1 + 1) [(w.heap.size, m), (w.heap.size + 1, n)] W := by
  refine ⟨fun p hp => ?_, hB.lt, by omega, hb⟩
  simp only [List.mem_cons, List.not_mem_nil, or_false] at hp
  rcases hp with rfl | rfl
  · exact ⟨by simp only; omega, hA⟩
  · exact ⟨by simp only; omega, hB⟩
theorem Bl.three {m n k : Nat} (hA : HoldsN W 24 w.heap.size (lims m)) (hB : HoldsN W 24 (w.heap.size + 1) (lims n)) (hC : HoldsN W 24 (w.heap.size + 2) (lims k)) (hb : Below w.heap.size w W) : Bl w (w.heap.size + 1 + 1 + 1) [(w.heap.size, m), (w.heap.size + 1, n), (w.heap.size + 1 + 1, k)] W := by
  refine ⟨fun p hp => ?_, hC.lt, by omega, hb⟩
  simp only [List.mem_cons, List.not_mem_nil, or_false] at hp
  rcases hp with rfl | rfl | rfl
  · exact ⟨by simp only; omega, hA⟩
  · exact ⟨by simp only; omega, hB⟩
  · exact ⟨by simp only; omega, hC⟩
end

theorem eql_same (x : Sn) (W : World) : (binOp .eql 24 (.agg ((lims x.val).map nv).toArray) (.agg ((lims x.val).map nv).toArray)).run Tryd.prog W = .ok (.bool true) W := by
  have h := run_eql_S x x W
  rw [decide_eq_true rfl] at h
  exact h
theorem lit0_eq : Value.agg #[.int .u64 0, .int .u64 0, .int .u64 0, .int .u64 0] = .agg ((lims (0 : Sn).val).map nv).toArray := by kernel_rfl
theorem lit1_eq : Value.agg #[.int .u64 1, .int .u64 0, .int .u64 0, .int .u64 0] = .agg ((lims (1 : Sn).val).map nv).toArray := by kernel_rfl
/-- A number compared with 0, with 1, as they are written. -/
theorem eql_zero (x : Sn) (W : World) : (binOp .eql 24 (.agg ((lims x.val).map nv).toArray) (.agg #[.int .u64 0, .int .u64 0, .int .u64 0, .int .u64 0])).run Tryd.prog W = .ok (.bool (decide (x = 0))) W := by
  rw [lit0_eq]; exact run_eql_S x 0 W
theorem eql_one (x : Sn) (W : World) : (binOp .eql 24 (.agg ((lims x.val).map nv).toArray) (.agg #[.int .u64 1, .int .u64 0, .int .u64 0, .int .u64 0])).run Tryd.prog W = .ok (.bool (decide (x = 1))) W := by
  rw [lit1_eq]; exact run_eql_S x 1 W
theorem toS_zero' : toS 0 = 0 := rfl
theorem toS_one' : toS 1 = 1 := rfl
theorem lit_e0 : Value.agg #[.int .u64 0, .int .u64 0, .int .u64 0, .int .u64 0] = fev 0 := by kernel_rfl
theorem lit_e1 : Value.agg #[.int .u64 1, .int .u64 0, .int .u64 0, .int .u64 0] = fev 1 := by kernel_rfl
theorem lit_e2 : Value.agg #[.int .u64 2, .int .u64 0, .int .u64 0, .int .u64 0] = fev 2 := by kernel_rfl
theorem lit_e3 : Value.agg #[.int .u64 3, .int .u64 0, .int .u64 0, .int .u64 0] = fev 3 := by kernel_rfl
theorem lit_e5 : Value.agg #[.int .u64 5, .int .u64 0, .int .u64 0, .int .u64 0] = fev 5 := by kernel_rfl
theorem lit_e15 : Value.agg #[.int .u64 15, .int .u64 0, .int .u64 0, .int .u64 0] = fev 15 := by kernel_rfl
theorem lit_e258 : Value.agg #[.int .u64 258, .int .u64 0, .int .u64 0, .int .u64 0] = fev 258 := by kernel_rfl
theorem zero_new (W : World) : HoldsN (W.alloc (.cells #[.int .u64 0, .int .u64 0, .int .u64 0, .int .u64 0] 24)) 24 W.heap.size (lims 0) := holdsN_new W _ _ _ _ rfl (by kernel_rfl)
/-- Bytes read out of their block, under a name that the walk does not open. -/
def loadBy (t : TypeId) (a : Addr) : Sem Value := loadVar t a
theorem load_by (a : Addr) : loadVar 26 a = loadBy 26 a := rfl
theorem run_loadBy {w : World} {g : Nat} {l : List UInt8} (hg : HoldsB w 26 g l) (hl : l.length = 32) : (loadBy 26 ⟨g, 0, none⟩).run Tryd.prog w = .ok (.agg (l.map bv).toArray) w :=
  run_loadVar_row w g 26 26 _ (0, 0) _ hg Tryd.underlying26 rfl (by rw [Tryd.infoB32]; simp [hl])
/-- Sixty-four bytes read out of their block, under a name that the walk does not open. -/
def loadBq (t : TypeId) (a : Addr) : Sem Value := loadVar t a
theorem load_bq (a : Addr) : loadVar 25 a = loadBq 25 a := rfl
theorem run_loadBq {w : World} {g : Nat} {l : List UInt8} (hg : HoldsB w 25 g l) (hl : l.length = 64) : (loadBq 25 ⟨g, 0, none⟩).run Tryd.prog w = .ok (.agg (l.map bv).toArray) w :=
  run_loadVar_row w g 25 25 _ (0, 0) _ hg Tryd.underlying25 rfl (by rw [Tryd.infoB64]; simp [hl])
end Go.Proofs.YthhcjknkmdaeeaaDoor
