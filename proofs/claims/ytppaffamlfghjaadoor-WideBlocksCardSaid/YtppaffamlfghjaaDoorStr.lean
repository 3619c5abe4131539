/-
  Bytes as strings; the document's Same.
-/
import Derived.Test.YtppaffamlfghjaaDoorRows2
namespace Go.Proofs.YtppaffamlfghjaaDoor
open Go.RowKit

def strOf (l : List UInt8) : ByteArray := ⟨l.toArray⟩
theorem strOf_inj {a b : List UInt8} : strOf a = strOf b ↔ a = b := by
  refine ⟨fun h => ?_, fun h => by rw [h]⟩
  have : (strOf a).data.toList = (strOf b).data.toList := by rw [h]
  simpa [strOf] using this
theorem strOf_eq (s : ByteArray) : strOf s.data.toList = s := by
  unfold strOf
  simp

theorem strOf_toList (l : List UInt8) : (strOf l).toList = l := by
  rw [ByteArray.toList_eq]
  simp [strOf]

theorem foldl_push (l : List UInt8) : ∀ s : ByteArray, ((l.map fun x => (x.toNat : Int)).foldl (fun r n => r.push (UInt8.ofNat n.toNat)) s).data.toList = s.data.toList ++ l := by
  induction l with
  | nil => intro s; simp
  | cons x l ih => intro s; simp only [List.map_cons, List.foldl_cons]; rw [ih]; simp [ByteArray.push]

theorem run_convert_sees {P : Program} {w : World} {B : Nat} {A : Option Addr} {n c : Nat} {l : List UInt8} (src dst e : TypeId) (hs : P.underlying src = some (.slice e)) (he : P.underlying e = some (.int .u8)) (hd : P.underlying dst = some .string) (h : Sees w B A n c (l.map bv)) :
    (convert src dst (.slice A n c)).run P w = .ok (.string (strOf l)) w := by
  rw [run_convert_bytes_string w src dst e A n c hs he hd]
  have hl := h.len
  rw [List.length_map] at hl
  cases A with
  | none =>
    have hn : n = 0 := by have := h.nil rfl; have := h.le; omega
    obtain rfl : l = [] := List.eq_nil_of_length_eq_zero (by omega)
    simp [Conv.bytesToString, Sem.run_pure]
    rfl
  | some a =>
    have hload : (loadCells a n).run P w = .ok ((l.map fun x => (x.toNat : Int)).map (Value.int .u8)).toArray w := by
      have h1 := run_loadCells_list (P := P) w a (l.map bv) (fun j v hv => by
        have hp : 0 < (l.map bv).length := by
          rcases Nat.eq_zero_or_pos (l.map bv).length with h0 | h0
          · rw [List.eq_nil_of_length_eq_zero h0] at hv; simp at hv
          · exact h0
        obtain ⟨ad, e1, hc⟩ := h.src hp
        injection e1 with e1
        subst e1
        exact hc j v hv)
      rw [List.length_map, hl] at h1
      rw [h1, List.map_map]
      rfl
    rw [run_bytesToString w a n c _ hload]
    congr 2
    rw [← strOf_eq (List.foldl _ _ _), foldl_push]
    rfl
end Go.Proofs.YtppaffamlfghjaaDoor
