/-
  wide.blocks: the iterator over the blocks of two texts, one behind the other.
-/
import Derived.Test.YtppaffamlfghjaaDoorWideRange
namespace Go.Proofs.YtppaffamlfghjaaDoor
open Go.RowKit Go.Shelf
attribute [local go_sem] Oper.semAt_some

/-- A block that the iterator hands over. -/
structure Blk where
  A : Option Addr
  c : Nat
  l : List UInt8
def Blk.enc (x : Blk) : Array Value := #[.slice x.A 128 x.c]
/-- It is readable. -/
def Blk.vis (x : Blk) (W : World) : Prop := Sees W W.heap.size x.A 128 x.c (x.l.map bv)
def folded (s : St) (xs : List Blk) : St := xs.foldl (fun t x => blk t x.l) s
theorem folded_snoc (s : St) (xs : List Blk) (x : Blk) : folded s (xs ++ [x]) = blk (folded s xs) x.l := by unfold folded; rw [List.foldl_append]; rfl
/-- All blocks have come. -/
def AllIn (t : List UInt8) (xs : List Blk) : Prop := ∀ s, folded s xs = absorb s t
/-- What has come, and what is left. -/
def Upto (t rest : List UInt8) (xs : List Blk) : Prop := ∀ s, absorb s t = absorb (folded s xs) rest
theorem Upto.step {t : List UInt8} {b : List UInt8} {k : Nat} {xs : List Blk} {x : Blk} (h : Upto t (b.drop k) xs) (hx : x.l = (b.drop k).take 128) (hk : k + 128 ≤ b.length) : Upto t (b.drop (k + 128)) (xs ++ [x]) := fun s => by
  rw [h s, folded_snoc, hx, blk_take, absorb_long _ (by rw [List.length_drop]; omega), List.drop_drop]
theorem Upto.all {t rest : List UInt8} {xs : List Blk} (h : Upto t rest xs) (hr : rest.length < 128) : AllIn t xs := fun s => by rw [h s, absorb_short _ hr]

theorem blocks_in (A A2 : Option Addr) (n c n2 c2 k : Nat) (w : World) :
    CallsIn Fence.wide k Tryd.prog 52 #[.slice A n c, .slice A2 n2 c2] w fun e w' => e = .returned (.func (.func 63) #[] #[.pointer (some ⟨w.heap.size, 0, none⟩), .pointer (some ⟨w.heap.size + 1, 0, none⟩)]) ∧ w' = (w.alloc (.cells #[.slice A n c] 24)).alloc (.cells #[.slice A2 n2 c2] 24) := by
  refine callsIn_wide.2 ?_
  go_enter Tryd.func52, Tryd.ntmps52
  go_wp2
  go_ret
  exact ⟨rfl, rfl⟩

set_option maxRecDepth 100000 in
set_option maxHeartbeats 2000000 in
theorem blocks1_goes (m : Nat) (hm : 1 ≤ m) (g g1 g2 : Nat) (A A2 : Option Addr) (n c n2 c2 : Nat) (r b : List UInt8) (w : World) (h : Sees w g A n c (r.map bv)) (h2 : Sees w g A2 n2 c2 (b.map bv)) (hg : g ≤ w.heap.size) (hn : n < 128) (hm2 : n2 ≤ 1000000)
    (hc1 : w.cell? ⟨g1, 0, none⟩ = some (.slice A n c)) (hc2 : w.cell? ⟨g2, 0, none⟩ = some (.slice A2 n2 c2)) (hg1 : g1 ≠ g) (hg2 : g2 ≠ g) :
    Goes Tryd.prog m 63 #[.pointer (some ⟨g1, 0, none⟩), .pointer (some ⟨g2, 0, none⟩)] Blk.enc Blk.vis (AllIn (r ++ b)) g w := by
  intro l J W hW hJ hY h0
  have hlr : r.length = n := by have := h.len; simpa using this
  have hlb : b.length = n2 := by have := h2.len; simpa using this
  have HLR := Lib.hid hlr
  have HLB := Lib.hid hlb
  clear hlr hlb
  have kW : KeepsC g w W := KeepsC.of_below hW
  have hcr := kW.cell hg1 hc1
  have hcb := kW.cell hg2 hc2
  have hle2 := h2.le
  have hmx2 := h2.max
  unfold maxLen at hmx2
  refine callsIn_of_wp Tryd.func63 rfl trivial ?_ rfl
  simp only [Tryd.ntmps63, List.size_toArray, List.length_cons, List.length_nil, Nat.reduceAdd, Nat.reduceSub, Array.replicate_succ, Array.replicate_zero, List.push_toArray, List.append_toArray, List.nil_append, List.cons_append]
  rcases Nat.lt_or_ge (n + n2) 128 with hlt | hge
  · -- no block at all
    have hlt' : ¬ (128 : Int) ≤ (n : Int) + n2 := by omega
    have hlt2 : ¬ (128 : Int) ≤ (n2 : Int) := by omega
    rcases Nat.eq_zero_or_pos n with hz | hz
    · subst hz
      gi_wp2
      gi_loopw [4] (fun v wr => v = .int .i64 0 ∧ wr = W) (fun v _ => 0)
      case atStart => exact ⟨rfl, rfl⟩
      case round =>
        obtain ⟨rfl, rfl⟩ := hrel
        gi_wp2
        go_end0
        exact ⟨⟨_, rfl⟩, [], fun s => (absorb_short s (by rw [List.length_append, HLR.out, HLB.out]; omega)).symm, h0⟩
    · have hz' : (0 : Int) < n := by omega
      gi_wp2
      gi_loopw [4] (fun v wr => v = .int .i64 0 ∧ wr = W) (fun v _ => 0)
      case atStart => exact ⟨rfl, rfl⟩
      case round =>
        obtain ⟨rfl, rfl⟩ := hrel
        gi_wp2
        go_end0
        exact ⟨⟨_, rfl⟩, [], fun s => (absorb_short s (by rw [List.length_append, HLR.out, HLB.out]; omega)).symm, h0⟩
  · have hge' : (128 : Int) ≤ (n : Int) + n2 := by omega
    rcases Nat.eq_zero_or_pos n with hz | hz
    · subst hz
      have HR0 := Lib.hid (List.eq_nil_of_length_eq_zero HLR.out)
      gi_wp2
      gi_loopw [4] (fun v wr => ∃ (pre : List Blk) (k : Nat), v = .int .i64 k ∧ k ≤ n2 ∧ Hid (Upto (r ++ b) (b.drop k) pre) ∧ J pre wr ∧ KeepsC g w wr) (fun v _ => n2 - (intOf v).toNat)
      case atStart => exact ⟨[], 0, rfl, Nat.zero_le _, Lib.hid (fun s => by rw [HR0.out]; rfl), h0, kW⟩
      case round =>
        clear hcr hcb
        obtain ⟨pre, k, rfl, hk, hU, hJ1, hK⟩ := hrel
        have hcb := hK.cell hg2 hc2
        by_cases hlt : k + 128 ≤ n2
        · have hlt1 : (128 : Int) ≤ (n2 : Int) - k := by omega
          have hlt2 : (k : Int) + 128 ≤ c2 := by omega
          have hp := (hK.sees h2 (Nat.le_refl _)).cut (lo := k) (hi := k + 128) (by omega) hlt
          rw [if_neg (by omega), Nat.add_sub_cancel_left, ← List.map_drop, ← List.map_take] at hp
          have hJ1' := Lib.hid hJ1
          obtain ⟨fn, tmps, assign, body, hy, hR⟩ := hY pre ⟨A2.map (·.add k), c2 - k, (b.drop k).take 128⟩ wr hJ1 (hp.more (Nat.le_trans hg hK.1))
          dsimp only [Blk.enc] at hy
          have HR := Lib.hid hR
          clear hR hJ1
          gi_wp2
          refine HR.out.mono ?_
          rintro e W3 ⟨rfl, hJ3, hk3⟩
          gi_wp2
          go_roundw
          case rel => exact ⟨_, k + 128, by go_num, hlt, Lib.hid (hU.out.step rfl (by rw [HLB.out]; exact hlt)), hJ3, hK.trans hk3⟩
          case measure => simp [intOf]; omega
        · have hlt1 : ¬ (128 : Int) ≤ (n2 : Int) - k := by omega
          gi_wp2
          go_end0
          exact ⟨⟨_, rfl⟩, pre, hU.out.all (by rw [List.length_drop, HLB.out]; omega), hJ1⟩
    · have hz' : (0 : Int) < n := by omega
      gi_wp2
      obtain ⟨q, hq⟩ : ∃ q : Nat, q = 128 - n := ⟨_, rfl⟩
      have hqi : (128 : Int) - (n : Int) = (q : Int) := by omega
      rw [hqi]
      have hq2 : q ≤ n2 := by omega
      have hq1 : (q : Int) ≤ n2 := by omega
      have hqc : (q : Int) ≤ c2 := by omega
      have hrW := kW.sees h (Nat.le_refl _)
      have hbW := (kW.sees h2 (Nat.le_refl _)).take hq2
      rw [← List.map_take] at hbW
      have hsW := hW.size
      have hL := SeesL.two W.drew 24 W.heap.size rfl (hrW.more (Nat.le_trans hg hW.size)).drew (hbW.more (Nat.le_trans hg hW.size)).drew
      have hN : Hid ((r ++ b.take q).length = 128) := Lib.hid (by rw [List.length_append, List.length_take, HLR.out, HLB.out]; omega)
      have hU1 : Hid (∀ x : Blk, x.l = r ++ b.take q → Upto (r ++ b) (b.drop q) [x]) := Lib.hid (fun x hx s => by
        have e : r ++ b = (r ++ b.take q) ++ b.drop q := by rw [List.append_assoc, List.take_append_drop]
        have e2 : (r ++ b).take 128 = r ++ b.take q := by rw [e, List.take_left' hN.out]
        have e3 : (r ++ b).drop 128 = b.drop q := by rw [e, List.drop_left' hN.out]
        rw [absorb_long s (l := r ++ b) (by rw [List.length_append, HLR.out, HLB.out]; omega), e3, ← blk_take s (r ++ b), e2, ← hx]
        rfl)
      have hBW := (Below.refl W.heap.size W).drew.alloc (Nat.le_refl _) (.cells #[.slice A n c, .slice A2 q c2] 24)
      have hZW : (W.drew.alloc (.cells #[.slice A n c, .slice A2 q c2] 24)).heap.size = W.heap.size + 1 := World.size_alloc ..
      have hmx : Tryd.prog.follows .mixedOrders = true := by kernel_rfl
      clear hq
      gi_region_with_o (first
        | (refine ⟨trivial, ?_⟩; gi_at_call 38; refine (callsIn_wide.2 (Concat_as _ 2 2 (W.heap.size + 1) [r, b.take q] (r ++ b.take q) 128 _ (by simp) hN.out (by exact hL) (by exact Nat.le_of_eq hZW.symm) (by omega) (by omega))).mono ?_; rintro e w5 ⟨A5, c5, rfl, hown5, hb5⟩; have hS5 := (seesIn_of_own hown5).1; have B5 : Below W.heap.size W w5 := hBW.trans (hb5.mono (by exact Nat.le_trans (Nat.le_succ _) (Nat.le_of_eq hZW.symm))); obtain ⟨fn, tmps, assign, body, hy, hR⟩ := hY [] ⟨A5, c5, r ++ b.take q⟩ w5 (hJ _ _ _ h0 B5) hS5; dsimp only [Blk.enc] at hy; have HR := Lib.hid hR; clear hR)
        | (refine HR.out.mono ?_; rintro e W3 ⟨rfl, hJ3, hk3⟩)
        | fail)
      all_goals
        simp only [Act.put, List.getElem_toArray, List.getElem_cons_succ, List.getElem_cons_zero, List.setIfInBounds_toArray, List.set_cons_zero, List.set_cons_succ]
        gi_wp2
        gi_loopw [4] (fun v wr => ∃ (pre : List Blk) (k : Nat), v = .int .i64 k ∧ k ≤ n2 ∧ Hid (Upto (r ++ b) (b.drop k) pre) ∧ J pre wr ∧ KeepsC g w wr) (fun v _ => n2 - (intOf v).toNat)
        case atStart => exact ⟨_, q, rfl, hq2, Lib.hid (hU1.out _ rfl), hJ3, kW.trans ((KeepsC.of_below B5).trans hk3)⟩
        case round =>
          clear hcr hcb
          obtain ⟨pre, k, rfl, hk, hU, hJ1, hK⟩ := hrel
          have hcb := hK.cell hg2 hc2
          by_cases hlt : k + 128 ≤ n2
          · have hlt1 : (128 : Int) ≤ (n2 : Int) - k := by omega
            have hlt2 : (k : Int) + 128 ≤ c2 := by omega
            have hp := (hK.sees h2 (Nat.le_refl _)).cut (lo := k) (hi := k + 128) (by omega) hlt
            rw [if_neg (by omega), Nat.add_sub_cancel_left, ← List.map_drop, ← List.map_take] at hp
            have hJ1' := Lib.hid hJ1
            obtain ⟨fn, tmps, assign, body, hy, hR⟩ := hY pre ⟨A2.map (·.add k), c2 - k, (b.drop k).take 128⟩ wr hJ1 (hp.more (Nat.le_trans hg hK.1))
            dsimp only [Blk.enc] at hy
            have HR := Lib.hid hR
            clear hR hJ1
            gi_wp2
            refine HR.out.mono ?_
            rintro e W3 ⟨rfl, hJ3, hk3⟩
            gi_wp2
            go_roundw
            case rel => exact ⟨_, k + 128, by go_num, hlt, Lib.hid (hU.out.step rfl (by rw [HLB.out]; exact hlt)), hJ3, hK.trans hk3⟩
            case measure => simp [intOf]; omega
          · have hlt1 : ¬ (128 : Int) ≤ (n2 : Int) - k := by omega
            gi_wp2
            go_end0
            exact ⟨⟨_, rfl⟩, pre, hU.out.all (by rw [List.length_drop, HLB.out]; omega), hJ1⟩
end Go.Proofs.YtppaffamlfghjaaDoor
