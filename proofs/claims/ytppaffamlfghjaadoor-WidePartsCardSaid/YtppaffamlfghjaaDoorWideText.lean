/-
  A text in parts: what More and End give on the state that its bytes so far have made.
-/
import Derived.Test.YtppaffamlfghjaaDoorWideAlike
namespace Go.Proofs.YtppaffamlfghjaaDoor
open Go.RowKit

theorem absorb_nil : absorb st0 [] = st0 := absorb_short st0 (by decide)
theorem left_nil : left [] = [] := left_short (by decide)

theorem More_text (l b : List UInt8) (A A2 : Option Addr) (N c n2 c2 M N' M' B : Nat) (W : World) (hN : (left l).length = N) (hM : l.length = M) (hb : b.length = n2) (hN' : (left (l ++ b)).length = N') (hM' : (l ++ b).length = M') (hmax : M' ≤ 1000000)
    (h : Sees W B A N c ((left l).map bv)) (h2 : Sees W B A2 n2 c2 (b.map bv)) (hB : B ≤ W.heap.size) (L : Laid W) :
    Calls Tryd.prog 22 #[hv (absorb st0 l) A N c M, .slice A2 n2 c2] W (GaveM W (absorb st0 (l ++ b)) N' (left (l ++ b)) M' 0) := by
  have hl := left_length l
  have ha : (l ++ b).length = l.length + b.length := List.length_append
  have := More_ok A A2 N c n2 c2 M B N' (left l) b (absorb st0 l) W h h2 hB (by omega) (by rw [beq_iff_eq]; omega) (by omega) (by rw [← left_app, hN']) L
  rwa [← absorb_app, ← left_app, show (M + n2) % 18446744073709551616 = M' by omega] at this

theorem End_text (l : List UInt8) (A : Option Addr) (N c M B : Nat) (W : World) (hN : (left l).length = N) (hM : l.length = M) (hmax : M ≤ 1000000) (h : Sees W B A N c ((left l).map bv)) (hB : B ≤ W.heap.size) (L : Laid W) :
    Calls Tryd.prog 24 #[hv (absorb st0 l) A N c M] W (GaveE W (sumOf l) 0) := by
  have hl := left_length l
  have := End_ok A N c M B (left l) (absorb st0 l) W h hB (by omega) (by rw [beq_iff_eq]; omega) (by omega) L
  rwa [show endOf (absorb st0 l) (left l) M = sumOf l by unfold sumOf; rw [hM]] at this
end Go.Proofs.YtppaffamlfghjaaDoor
