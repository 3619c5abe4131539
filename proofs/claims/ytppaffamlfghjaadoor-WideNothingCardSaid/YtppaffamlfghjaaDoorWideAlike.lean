/-
  The program's and the document's functions, said alike.
-/
import Derived.Test.YtppaffamlfghjaaDoorWideAwake
namespace Go.Proofs.YtppaffamlfghjaaDoor
open Go.RowKit

def GaveN (w : World) (s : St) (n : Nat) (l : List UInt8) (m : Nat) (err : Int) (e : Ending) (w' : World) : Prop :=
  ∃ A c, e = .returned (.tuple #[hv s A n c m, .int .i64 err]) ∧ Sees w' w'.heap.size A n c (l.map bv) ∧ Below w.heap.size w w'

theorem more_alike (s : St) (A A2 : Option Addr) (n c n2 c2 m : Nat) (r b : List UInt8) (hr : r.length = n) (hn : n ≤ 500) (hn2 : n2 ≤ 500) :
    ∃ (t : St) (N : Nat) (l : List UInt8) (m' : Nat) (err : Int), l.length = N ∧ ∀ (W : World) (B : Nat), Sees W B A n c (r.map bv) → Sees W B A2 n2 c2 (b.map bv) → B ≤ W.heap.size → Laid W →
      Calls Tryd.prog 22 #[hv s A n c m, .slice A2 n2 c2] W (GaveN W t N l m' err) ∧ Calls Tryd.prog 23 #[hv s A n c m, .slice A2 n2 c2] W (GaveN W t N l m' err) := by
  cases hmay : ((n : Int) == (m : Int) % 128) with
  | true =>
    have hn64 : n < 128 := by
      rw [beq_iff_eq] at hmay
      omega
    refine ⟨absorb s (r ++ b), _, left (r ++ b), (m + n2) % 18446744073709551616, 0, rfl, fun W B h h2 hB hL => ⟨?_, ?_⟩⟩
    · exact (More_ok A A2 n c n2 c2 m B _ r b s W h h2 hB hn64 hmay (by omega) rfl hL).mono fun e w' ⟨A', c', he, hs, hb⟩ => ⟨A', c', he, hs.1, hb⟩
    · exact RMore_ok A A2 n c n2 c2 m B r b s W h h2 hB hn64 (by omega) _ rfl (by rw [decide_eq_true hn64, hmay]; rfl)
  | false =>
    refine ⟨s, n, r, m, 1, hr, fun W B h h2 hB hL => ⟨?_, ?_⟩⟩
    · exact (More_bad A A2 n c n2 c2 m B r s W h hB (by omega) hmay).mono fun e w' ⟨A', c', he, hs, hb⟩ => ⟨A', c', he, hs.1, hb⟩
    · exact RMore_bad A A2 n c n2 c2 m B r s W h hB (by omega) (by rw [hmay, Bool.and_false])

theorem end_alike (s : St) (A : Option Addr) (n c m : Nat) (r : List UInt8) (hn : n ≤ 500) (hm : m < 18446744073709551616) :
    ∃ (out : List UInt8) (err : Int), out.length = 64 ∧ ∀ (W : World) (B : Nat), Sees W B A n c (r.map bv) → B ≤ W.heap.size → Laid W →
      Calls Tryd.prog 24 #[hv s A n c m] W (GaveE W out err) ∧ Calls Tryd.prog 25 #[hv s A n c m] W (GaveE W out err) := by
  cases hmay : ((n : Int) == (m : Int) % 128) with
  | true =>
    have hn64 : n < 128 := by
      rw [beq_iff_eq] at hmay
      omega
    exact ⟨endOf s r m, 0, out64_length _, fun W B h hB hL => ⟨End_ok A n c m B r s W h hB hn64 hmay hm hL, REnd_ok A n c m B r s W h hB hn64 (by rw [decide_eq_true hn64, hmay]; rfl)⟩⟩
  | false =>
    exact ⟨List.replicate 64 0, 1, by simp, fun W B _ _ _ => ⟨End_bad A n c m s W (by omega) hmay, REnd_bad A n c m s W (by omega) (by rw [hmay, Bool.and_false])⟩⟩
end Go.Proofs.YtppaffamlfghjaaDoor
