/-
  Words on slices of slices of bytes.
-/
import Derived.Test.YtppaffamlfghjaaDoorWords
namespace Go.Proofs.YtppaffamlfghjaaDoor
open Go.RowKit

/-- The slice (A, n, c) of slices holds the texts ls; all lies below B. -/
def SeesL (w : World) (B : Nat) (A : Option Addr) (n c : Nat) (ls : List (List UInt8)) : Prop :=
  ∃ vs : List Value, Sees w B A n c vs ∧ vs.length = ls.length ∧ ∀ (i : Nat) (v : Value) (l : List UInt8), vs[i]? = some v → ls[i]? = some l → ∃ (Ai : Option Addr) (ci : Nat), v = .slice Ai l.length ci ∧ Sees w B Ai l.length ci (l.map bv)

section
variable {w w' : World} {B B' n c : Nat} {A : Option Addr} {ls : List (List UInt8)}

theorem SeesL.len (h : SeesL w B A n c ls) : ls.length = n := by
  obtain ⟨vs, hs, hl, _⟩ := h
  rw [← hl, hs.len]

theorem SeesL.le (h : SeesL w B A n c ls) : n ≤ c := by
  obtain ⟨vs, hs, hl, _⟩ := h
  exact hs.le

theorem SeesL.max (h : SeesL w B A n c ls) : c ≤ maxLen := by
  obtain ⟨vs, hs, hl, _⟩ := h
  exact hs.max

theorem SeesL.upTo (h : SeesL w B A n c ls) {D : Nat} (hb : Below D w w') (hD : B ≤ D) : SeesL w' B A n c ls := by
  obtain ⟨vs, hs, hl, hi⟩ := h
  refine ⟨vs, hs.upTo hb hD, hl, fun i v l h1 h2 => ?_⟩
  obtain ⟨Ai, ci, e, h3⟩ := hi i v l h1 h2
  exact ⟨Ai, ci, e, h3.upTo hb hD⟩

theorem SeesL.more (h : SeesL w B A n c ls) (hB : B ≤ B') : SeesL w B' A n c ls := by
  obtain ⟨vs, hs, hl, hi⟩ := h
  refine ⟨vs, hs.more hB, hl, fun i v l h1 h2 => ?_⟩
  obtain ⟨Ai, ci, e, h3⟩ := hi i v l h1 h2
  exact ⟨Ai, ci, e, h3.more hB⟩

theorem SeesL.drewN (h : SeesL w B A n c ls) (k : Nat) : SeesL (w.drewN k) B A n c ls :=
  h.upTo (below_drewN (Below.refl B w) k) (Nat.le_refl _)

theorem SeesL.drew (h : SeesL w B A n c ls) : SeesL w.drew B A n c ls := h.upTo (Below.refl B w).drew (Nat.le_refl _)

theorem SeesL.alloc (h : SeesL w B A n c ls) (hB : B ≤ w.heap.size) (o : Obj) : SeesL (w.alloc o) B A n c ls := h.upTo ((Below.refl B w).alloc hB o) (Nat.le_refl _)

/-- A member: the cell that holds it, and what it reads as. -/
theorem SeesL.at_ {k : Nat} (h : SeesL w B A n c ls) (hk : k < n) : ∃ (b o : Nat) (Ak : Option Addr) (ck : Nat) (l : List UInt8), A = some ⟨b, o, none⟩ ∧ b < B ∧ ls[k]? = some l ∧ w.cell? ⟨b, o + k, none⟩ = some (.slice Ak l.length ck) ∧ Sees w B Ak l.length ck (l.map bv) := by
  have hl' := h.len
  obtain ⟨vs, hs, hl, hi⟩ := h
  obtain ⟨b, o, u, e, hb, hu, hc⟩ := hs.cell hk
  have h2 : ls[k]? = some ls[k] := List.getElem?_eq_getElem (by omega)
  obtain ⟨Ai, ci, e2, h3⟩ := hi k u _ hu h2
  subst e2
  exact ⟨b, o, Ai, ci, _, e, hb, h2, hc, h3⟩

theorem SeesL.none_ : SeesL w B none 0 0 [] := ⟨[], Sees.none_, rfl, fun i v l h _ => by simp at h⟩
end

/-- A row of slices that the call has just laid. -/
theorem SeesL.lit (w : World) (e : TypeId) (vs : List Value) (ls : List (List UInt8)) (hl : vs.length = ls.length) (hm : vs.length ≤ maxLen)
    (h : ∀ (i : Nat) (v : Value) (l : List UInt8), vs[i]? = some v → ls[i]? = some l → ∃ (Ai : Option Addr) (ci : Nat), v = .slice Ai l.length ci ∧ Sees w w.heap.size Ai l.length ci (l.map bv)) :
    SeesL (w.alloc (.cells vs.toArray e)) (w.heap.size + 1) (some ⟨w.heap.size, 0, none⟩) vs.length vs.length ls := by
  refine ⟨vs, ⟨rfl, Nat.le_refl _, hm, (fun h => by cases h), fun _ => ⟨w.heap.size, 0, rfl, by omega, fun j u hu => ?_⟩⟩, hl, fun i v l h1 h2 => ?_⟩
  · rw [Nat.zero_add, cell_of_row _ _ j _ _ _ (heap_alloc_new w _)]
    simpa using hu
  · obtain ⟨Ai, ci, e1, h3⟩ := h i v l h1 h2
    exact ⟨Ai, ci, e1, (h3.alloc (Nat.le_refl _) _).more (by omega)⟩

theorem SeesL.three (w : World) (e : TypeId) {A0 A1 A2 : Option Addr} {n0 n1 n2 c0 c1 c2 : Nat} {l0 l1 l2 : List UInt8} (h0 : Sees w w.heap.size A0 n0 c0 (l0.map bv)) (h1 : Sees w w.heap.size A1 n1 c1 (l1.map bv)) (h2 : Sees w w.heap.size A2 n2 c2 (l2.map bv)) :
    SeesL (w.alloc (.cells #[.slice A0 n0 c0, .slice A1 n1 c1, .slice A2 n2 c2] e)) (w.heap.size + 1) (some ⟨w.heap.size, 0, none⟩) 3 3 [l0, l1, l2] := by
  have e0 := h0.len
  have e1 := h1.len
  have e2 := h2.len
  rw [List.length_map] at e0 e1 e2
  subst e0 e1 e2
  refine SeesL.lit w e [.slice A0 l0.length c0, .slice A1 l1.length c1, .slice A2 l2.length c2] [l0, l1, l2] rfl (by simp [maxLen]) fun i v l hv hl => ?_
  match i, hv, hl with
  | 0, hv, hl => simp at hv hl; subst hv hl; exact ⟨A0, c0, rfl, h0⟩
  | 1, hv, hl => simp at hv hl; subst hv hl; exact ⟨A1, c1, rfl, h1⟩
  | 2, hv, hl => simp at hv hl; subst hv hl; exact ⟨A2, c2, rfl, h2⟩
  | i + 3, hv, hl => simp at hv

theorem take_flat {ls : List (List UInt8)} {k : Nat} {l : List UInt8} (h : ls[k]? = some l) : (ls.take (k + 1)).flatten = (ls.take k).flatten ++ l := by
  have hk : k < ls.length := by
    rcases Nat.lt_or_ge k ls.length with h1 | h1
    · exact h1
    · rw [List.getElem?_eq_none h1] at h; cases h
  rw [List.take_succ_eq_append_getElem hk, List.flatten_append]
  rw [List.getElem?_eq_getElem hk] at h
  injection h with h
  simp [h]

/-- How many bytes the first k texts have. -/
def tot (ls : List (List UInt8)) (k : Nat) : Nat := (ls.take k).flatten.length
theorem tot_zero (ls : List (List UInt8)) : tot ls 0 = 0 := by simp [tot]
theorem tot_succ {ls : List (List UInt8)} {k : Nat} {l : List UInt8} (h : ls[k]? = some l) : tot ls (k + 1) = tot ls k + l.length := by unfold tot; rw [take_flat h, List.length_append]

theorem take_flat_le (ls : List (List UInt8)) (k : Nat) : (ls.take k).flatten.length ≤ ls.flatten.length := by
  have h : ls.flatten = (ls.take k).flatten ++ (ls.drop k).flatten := by rw [← List.flatten_append, List.take_append_drop]
  rw [h, List.length_append]
  omega
theorem tot_le (ls : List (List UInt8)) (k : Nat) : tot ls k ≤ ls.flatten.length := take_flat_le ls k
theorem tot_all (ls : List (List UInt8)) {n : Nat} (h : ls.length = n) : tot ls n = ls.flatten.length := by
  unfold tot
  rw [List.take_of_length_le (by omega)]
end Go.Proofs.YtppaffamlfghjaaDoor
