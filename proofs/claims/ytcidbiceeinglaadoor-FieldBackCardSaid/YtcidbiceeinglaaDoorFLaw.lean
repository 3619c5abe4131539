/-
  What the laws of layer 4 share: the blocks that a call holds; numbers and bytes compared.
-/
import Derived.Test.YtcidbiceeinglaaDoorFAwake
namespace Go.Proofs.YtcidbiceeinglaaDoor
open Go.RowKit

/-- Blocks below D that hold numbers. -/
structure Bl (w : World) (D : Nat) (bs : List (Nat × Nat)) (W : World) : Prop where
  hold : ∀ p ∈ bs, p.1 < D ∧ HoldsN W 24 p.1 (lims p.2)
  len : D ≤ W.heap.size
  pos : w.heap.size ≤ D
  below : Below w.heap.size w W
section
variable {w W W' : World} {D g x : Nat} {bs : List (Nat × Nat)}
theorem Bl.stay : ∀ W W', Bl w D bs W → Below W.heap.size W W' → Bl w D bs W' := fun W W' h hb =>
  ⟨fun p hp => ⟨(h.hold p hp).1, (h.hold p hp).2.keep hb (h.hold p hp).2.lt⟩, Nat.le_trans h.len hb.size, h.pos, h.below.trans (hb.mono (Nat.le_trans h.pos h.len))⟩
theorem Bl.size (W : World) (h : Bl w D bs W) : D ≤ W.heap.size := h.len
theorem Bl.get (h : Bl w D bs W) (hp : (g, x) ∈ bs) : HoldsN W 24 g (lims x) := (h.hold _ hp).2
theorem Bl.add (h : Bl w D bs W) (hg : D ≤ g) (hn : HoldsN W' 24 g (lims x)) (ho : ∀ k, k ≠ g → W'.heap[k]? = W.heap[k]?) (hb : Below w.heap.size w W') : Bl w (g + 1) ((g, x) :: bs) W' := by
  refine ⟨fun p hp => ?_, hn.lt, by have := h.pos; omega, hb⟩
  rcases List.mem_cons.1 hp with rfl | hp
  · exact ⟨Nat.lt_succ_self _, hn⟩
  · obtain ⟨h1, h2⟩ := h.hold p hp
    exact ⟨by omega, h2.oth ho (by omega)⟩
theorem Bl.drew (h : Bl w D bs W) : Bl w D bs W.drew := Bl.stay _ _ h (Below.refl _ W).drew
theorem Bl.two {m n : Nat} (hA : HoldsN W 24 w.heap.size (lims m)) (hB : HoldsN W 24 (w.heap.size + 1) (lims n)) (hb : Below w.heap.size w W) : Bl w (w.heap.size + 1 + 1) [(w.heap.size, m), (w.heap.size + 1, n)] W := by
  refine ⟨fun p hp => ?_, hB.lt, by omega, hb⟩
  simp only [List.mem_cons, List.not_mem_nil, or_false] at hp
  rcases hp with rfl | rfl
  · exact ⟨by simp only; omega, hA⟩
  · exact ⟨by simp only; omega, hB⟩
theorem Bl.three {m n k : Nat} (hA : HoldsN W 24 w.heap.size (lims m)) (hB : HoldsN W 24 (w.heap.size + 1) (lims n)) (hC : HoldsN W 24 (w.heap.size + 2) (lims k)) (hb : Below w.heap.size w W) : Bl w (w.heap.size + 1 + 1 + 1) [(w.heap.size, m), (w.heap.size + 1, n), (w.heap.size + 1 + 1, k)] W := by
  refine ⟨fun p hp => ?_, hC.lt, by omega, hb⟩
  simp only [List.mem_cons, List.not_mem_nil, or_false] at hp
  rcases hp with rfl | rfl | rfl
  · exact ⟨by simp only; omega, hA⟩
  · exact ⟨by simp only; omega, hB⟩
  · exact ⟨by simp only; omega, hC⟩
end

theorem eql_same (x : F) (W : World) : (binOp .eql 24 (.agg ((lims x.val).map nv).toArray) (.agg ((lims x.val).map nv).toArray)).run Tryd.prog W = .ok (.bool true) W := by
  have h := run_eql_F x x W
  rw [decide_eq_true rfl] at h
  exact h
theorem lit0_eq : Value.agg #[.int .u64 0, .int .u64 0, .int .u64 0, .int .u64 0] = .agg ((lims (0 : F).val).map nv).toArray := by kernel_rfl
theorem lit1_eq : Value.agg #[.int .u64 1, .int .u64 0, .int .u64 0, .int .u64 0] = .agg ((lims (1 : F).val).map nv).toArray := by kernel_rfl
/-- A number compared with 0, with 1, as they are written. -/
theorem eql_zero (x : F) (W : World) : (binOp .eql 24 (.agg ((lims x.val).map nv).toArray) (.agg #[.int .u64 0, .int .u64 0, .int .u64 0, .int .u64 0])).run Tryd.prog W = .ok (.bool (decide (x = 0))) W := by
  rw [lit0_eq]; exact run_eql_F x 0 W
theorem eql_one (x : F) (W : World) : (binOp .eql 24 (.agg ((lims x.val).map nv).toArray) (.agg #[.int .u64 1, .int .u64 0, .int .u64 0, .int .u64 0])).run Tryd.prog W = .ok (.bool (decide (x = 1))) W := by
  rw [lit1_eq]; exact run_eql_F x 1 W
theorem toF_zero' : toF 0 = 0 := rfl
theorem toF_one' : toF 1 = 1 := rfl
end Go.Proofs.YtcidbiceeinglaaDoor
