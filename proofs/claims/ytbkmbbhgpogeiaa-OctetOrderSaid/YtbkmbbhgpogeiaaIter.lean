/-
  octet.texts: the iterator over the texts that bytes are.
-/
import Derived.RangeFuncNested
import Derived.RangeFuncBound
import Derived.RangeFuncBox
import Derived.RangeFuncCalls
import Derived.RangeFuncLeaves
import Derived.Shelf.Abstract
import Derived.Shelf.RegionOpen
import Derived.WalkKit
import Derived.OwnWalkIn
import Derived.TacticsInMore
import Derived.LoopNIn
import Derived.LoopIn
import Derived.Test.YtbkmbbhgpogeiaaCut
namespace Go.Proofs.Ytbkmbbhgpogeiaa
open Go.RowKit Go.Shelf
attribute [local go_sem] Oper.semAt_some

/-- A piece that the iterator gives: a slice that reads as a text in w0, or none, and false. -/
structure Piece (w0 : World) (n₀ : Nat) where
  A : Option Addr
  m : Nat
  c : Nat
  l : List UInt8
  whole : Bool
  sees : Sees w0 n₀ A m c (l.map bv)
  small : m ≤ 65535

def Piece.enc {w0 : World} {n₀ : Nat} (x : Piece w0 n₀) : Array Value := #[.slice x.A x.m x.c, .bool x.whole]

/-- What has come, all whole, and what is left of the bytes. -/
def Came {w0 : World} {n₀ : Nat} (b : List UInt8) (pre : List (Piece w0 n₀)) (r : List UInt8) : Prop :=
  (∀ x ∈ pre, x.whole = true) ∧ textsOf b = (textsOf r).map (pre.map (·.l) ++ ·) ∧ 2 * pre.length + r.length ≤ b.length

/-- All has come: all texts, or all up to the end within one. -/
def AllCame {w0 : World} {n₀ : Nat} (b : List UInt8) (xs : List (Piece w0 n₀)) : Prop :=
  ((∀ x ∈ xs, x.whole = true) ∧ textsOf b = some (xs.map (·.l))) ∨ (∃ pre x, xs = pre ++ [x] ∧ x.whole = false)

/-- A round has said 'no more'. -/
def SomeCame {w0 : World} {n₀ : Nat} (b : List UInt8) (xs : List (Piece w0 n₀)) : Prop :=
  (∃ pre x, xs = pre ++ [x] ∧ x.whole = false ∧ textsOf b = none) ∨ (∃ pre x, xs = pre ++ [x] ∧ x.whole = true)

theorem Sees_back {w w' : World} {B D n c : Nat} {A : Option Addr} {xs : List Value} (h : Sees w' B A n c xs) (hb : Below D w w') (hD : B ≤ D) : Sees w B A n c xs := h.keep fun p hp => (hb.cell (by omega)).symm

def noPiece (w0 : World) (n₀ : Nat) : Piece w0 n₀ := ⟨none, 0, 0, [], false, Sees.none_, by omega⟩

theorem texts_in (A : Option Addr) (n c : Nat) (k : Nat) (w : World) :
    CallsIn Fence.wide k Try.prog 28 #[.slice A n c] w fun e w' => e = .returned (.func (.func 32) #[] #[.pointer (some ⟨w.heap.size, 0, none⟩)]) ∧ w' = w.alloc (.cells #[.slice A n c] 22) := by
  refine callsIn_wide.2 ?_
  go_enter Try.func28, Try.ntmps28
  go_wp2
  go_ret
  exact ⟨rfl, rfl⟩

set_option maxRecDepth 100000 in
set_option maxHeartbeats 1000000 in
theorem texts1_in (k : Nat) (hk : 1 ≤ k) (l Bn n₀ : Nat) (w0 : World) (A : Option Addr) (n c : Nat) (b : List UInt8) (hs : Sees w0 n₀ A n c (b.map bv)) (hm : n ≤ 2147483647) (J Jx : List (Piece w0 n₀) → World → Prop)
    (hY : ∀ pre x W, J pre W → pre.length < n + 1 → YieldAt Fence.wide (k - 1) Try.prog l x.enc W fun e W' =>
      (e = .returned (.bool true) ∧ J (pre ++ [x]) W' ∧ Below n₀ W W') ∨ (e = .returned (.bool false) ∧ Jx (pre ++ [x]) W'))
    (hJd : ∀ pre W q, J pre W → J pre (W.drewN q))
    (W : World) (hBn : W.cell? ⟨Bn, 0, none⟩ = some (.slice A n c)) (hW : Below n₀ w0 W) (h0 : J [] W) :
    CallsIn Fence.wide k Try.prog 32 #[.func (.yield l) #[] #[], .pointer (some ⟨Bn, 0, none⟩)] W fun e W' => (∃ v, e = .returned v) ∧
      ((∃ ys, AllCame b ys ∧ J ys W') ∨ (∃ pre, SomeCame b pre ∧ Jx pre W')) := by
  refine callsIn_of_wp Try.func32 rfl trivial ?_ rfl
  simp only [Try.ntmps32, List.size_toArray, List.length_cons, List.length_nil, Nat.reduceAdd, Nat.reduceSub, Array.replicate_succ, Array.replicate_zero, List.push_toArray, List.append_toArray, List.nil_append, List.cons_append]
  gi_wp2
  gi_loopw [3] (fun p wr => ∃ (pre : List (Piece w0 n₀)) (r : List UInt8) (Ar : Option Addr) (nr cr : Nat), p = .slice Ar nr cr ∧ Sees w0 n₀ Ar nr cr (r.map bv) ∧ Hid (Came b pre r) ∧ J pre wr ∧ Below n₀ w0 wr)
    (fun p _ => match p with | .slice _ m _ => m | _ => 0)
  case atStart =>
    exact ⟨[], b, A, n, c, rfl, hs, (show Came b [] b from ⟨by simp, by cases textsOf b <;> simp, by simp⟩), h0, hW⟩
  case round =>
    obtain ⟨pre, r, Ar, nr, cr, rfl, hsr, hcame, hJs, hbw⟩ := hrel
    have hb0 := hs.len
    rw [List.length_map] at hb0
    have HB0 := Lib.hid hb0
    clear hb0
    have hl := hsr.len
    rw [List.length_map] at hl
    have HL := Lib.hid hl
    clear hl
    have hpre : pre.length < n + 1 := by have := hcame.out.2.2; have := HB0.out; omega
    have hnr : nr ≤ n := by have := hcame.out.2.2; have := HB0.out; have := HL.out; omega
    rcases Nat.eq_zero_or_pos nr with hz | hz
    · subst hz
      gi_wp2
      go_end0
      have er : r = [] := List.eq_nil_of_length_eq_zero HL.out
      subst er
      exact ⟨⟨_, rfl⟩, .inl ⟨pre, .inl ⟨hcame.out.1, by rw [hcame.out.2.1, textsOf_nil]; simp⟩, hJs⟩⟩
    · have hpos : (0 : Int) < nr := by omega
      have hsw : Sees wr n₀ Ar nr cr (r.map bv) := hsr.upTo hbw (Nat.le_refl _)
      obtain ⟨q, hqq⟩ : ∃ q, beNum (r.take 2) = q := ⟨_, rfl⟩
      have hq16 : q < 65536 := by rw [← hqq]; exact beNum_two r
      have HQ := Lib.hid hqq
      clear hqq
      have HJ := Lib.hid hJs
      by_cases hcut : nr < 2 ∨ nr < 2 + q
      · have hnc : Calls Try.prog 33 #[.slice Ar nr cr] wr (NoCut wr) := by
          by_cases h2 : nr < 2
          · exact cut_short Ar nr cr wr h2
          · exact cut_long Ar nr cr n₀ q r wr HQ hsw (by omega) (by omega) hq16
        have hno : Hid (textsOf b = none) := by
          show _ = _
          rw [hcame.out.2.1]
          by_cases h2 : nr < 2
          · rw [textsOf_none (by rw [HL.out]; exact hz) (cutText_short (by rw [HL.out]; exact h2))]; rfl
          · rw [textsOf_none (by rw [HL.out]; exact hz) (cutText_cut (by rw [HL.out]; omega) (by rw [HL.out, HQ.out]; omega))]; rfl
        have HNC := Lib.hid hnc
        clear hnc hcut
        obtain ⟨fn, tmps, assign, body, hy, hR⟩ := hY pre (noPiece w0 n₀) wr hJs hpre
        dsimp only [Piece.enc, noPiece] at hy
        have HR := Lib.hid hR
        clear hR
        gi_wp2_with (refine ⟨trivial, ?_⟩; gi_at_call 33; refine (callsIn_wide.2 HNC.out).mono ?_; rintro e w1 ⟨rfl, rfl⟩)
        refine HR.out.mono ?_
        rintro e W3 (⟨rfl, hJ3, hk3⟩ | ⟨rfl, hJx3⟩)
        · gi_wp2
          refine bodyPost_ret (results_none rfl _ _ _) rfl ?_
          exact ⟨⟨_, rfl⟩, .inl ⟨pre ++ [noPiece w0 n₀], .inr ⟨pre, _, rfl, rfl⟩, hJ3⟩⟩
        · gi_wp2
          refine bodyPost_ret (results_none rfl _ _ _) rfl ?_
          exact ⟨⟨_, rfl⟩, .inr ⟨pre ++ [noPiece w0 n₀], .inl ⟨pre, _, rfl, rfl, hno.out⟩, hJx3⟩⟩
      · have hok := cut_ok Ar nr cr n₀ q r wr HQ hsw (by omega) hq16 (by omega)
        have HOK := Lib.hid hok
        clear hok
        gi_wp2_with (refine ⟨trivial, ?_⟩; gi_at_call 33; refine (callsIn_wide.2 HOK.out).mono ?_; rintro e w1 ⟨A1, c1, A2, c2, rfl, hs1, hs2, kq, rfl⟩; obtain ⟨fn, tmps, assign, body, hy, hR⟩ := hY pre ⟨A1, q, c1, (r.drop 2).take q, true, Sees_back hs1 hbw (Nat.le_refl _), by omega⟩ (wr.drewN kq) (hJd _ _ _ hJs) hpre; dsimp only [Piece.enc] at hy; have HR := Lib.hid hR; clear hR)
        refine HR.out.mono ?_
        rintro e W3 (⟨rfl, hJ3, hk3⟩ | ⟨rfl, hJx3⟩)
        · gi_wp2
          go_roundw
          case rel =>
            refine ⟨_, r.drop (2 + q), A2, nr - (2 + q), c2, rfl, Sees_back hs2 hbw (Nat.le_refl _), ?_, hJ3, (below_drewN hbw kq).trans hk3⟩
            have hc := cutText_whole (b := r) (by rw [HL.out]; omega) (by rw [HL.out, HQ.out]; omega)
            rw [HQ.out] at hc
            obtain ⟨h1, h2, h3⟩ := hcame.out
            refine (show Came b _ _ from ⟨?_, ?_, ?_⟩)
            · intro x hx
              rcases List.mem_append.1 hx with hx | hx
              · exact h1 x hx
              · rw [List.mem_singleton.1 hx]
            · rw [h2, textsOf_some hc]
              cases textsOf (r.drop (2 + q)) <;> simp
            · rw [List.length_append, List.length_singleton, List.length_drop]
              have := HL.out
              omega
          case measure => show nr - (2 + q) < nr; omega
        · gi_wp2
          refine bodyPost_ret (results_none rfl _ _ _) rfl ?_
          exact ⟨⟨_, rfl⟩, .inr ⟨_, .inr ⟨pre, _, rfl, rfl⟩, hJx3⟩⟩

/-- What octet.texts hands back. -/
theorem texts_stops (k : Nat) (hk : 1 ≤ k) (Bn n₀ : Nat) (w0 w : World) (A : Option Addr) (n c : Nat) (b : List UInt8) (hs : Sees w0 n₀ A n c (b.map bv)) (hm : n ≤ 2147483647) (hBn : Bn < w.heap.size) (hn₀ : n₀ ≤ w.heap.size) (hb : Below n₀ w0 w)
    (hc : w.cell? ⟨Bn, 0, none⟩ = some (.slice A n c)) :
    SeqStopsK Fence.wide k Try.prog 32 #[.pointer (some ⟨Bn, 0, none⟩)] (Piece.enc (w0 := w0) (n₀ := n₀)) (Below n₀) (AllCame b) (SomeCame b) (n + 1) w := fun l J Jx W hW hJ _ hY h0 =>
  texts1_in k hk l Bn n₀ w0 A n c b hs hm J Jx hY (fun pre W q h => hJ pre W _ none h ⟨rfl, rfl, rfl, Nat.le_refl _, fun _ _ _ => rfl⟩ (fun r e => by cases e)) W ((hW.cell (p := ⟨Bn, 0, none⟩) hBn).trans hc) (hb.trans (hW.mono hn₀)) h0
end Go.Proofs.Ytbkmbbhgpogeiaa
