/-
  The document's Same.
-/
import Derived.Test.YtbkmbbhgpogeiaaStr
import Derived.Outline
namespace Go.Proofs.Ytbkmbbhgpogeiaa
open Go.RowKit

theorem Same_len (A A' : Option Addr) (n c n' c' : Nat) (w : World) (hne : n ≠ n') (_hm : n ≤ 2147483647) (_hm' : n' ≤ 2147483647) :
    Calls Try.prog 17 #[.slice A n c, .slice A' n' c'] w fun e w' => e = .returned (.bool false) ∧ Below w.heap.size w w' := by
  have h1 : ((n : Int) != (n' : Int)) = true := by rw [bne_iff_ne]; omega
  go_enter Try.func17, Try.ntmps17
  go_wp2
  go_ret
  exact ⟨rfl, Below.refl _ _⟩

theorem cells_drewN {w : World} {p : Addr} {v : Value} (h : w.cell? p = some v) (q : Nat) : (w.drewN q).cell? p = some v := by simpa using h

set_option maxHeartbeats 1000000 in
theorem Same_any (A A' : Option Addr) (n c c' B B' : Nat) (la lb : List (List UInt8)) (w : World) (ha : SeesL w B A n c la) (hb : SeesL w B' A' n c' lb) (hm : n ≤ 2147483647) :
    Calls Try.prog 17 #[.slice A n c, .slice A' n c'] w fun e w' => e = .returned (.bool (decide (la = lb))) ∧ Below w.heap.size w w' := by
  have h1 : ((n : Int) != (n : Int)) = false := by simp
  have HA := Lib.hid ha.len
  have HB := Lib.hid hb.len
  go_enter Try.func17, Try.ntmps17
  go_wp2
  go_loopw [5] (fun i wr => ∃ (k q : Nat), k ≤ n ∧ i = .int .i64 k ∧ Hid (la.take k = lb.take k) ∧ wr = w.drewN q)
    (fun i _ => n - (intOf i).toNat)
  case atStart => exact ⟨0, 0, Nat.zero_le _, rfl, Lib.hid (by simp : la.take 0 = lb.take 0), rfl⟩
  case round =>
    obtain ⟨k, q, hk, rfl, ht, rfl⟩ := hrel
    by_cases hlt : k < n
    · obtain ⟨b, o, Ak, ck, l, rfl, hb1, hl, hc, hsk⟩ := ha.at_ hlt
      obtain ⟨b', o', Ak', ck', l', rfl, hb2, hl', hc', hsk'⟩ := hb.at_ hlt
      have hcv := fun q => run_convert_sees (P := Try.prog) 22 9 5 Try.underlying22 Try.underlying5 Try.underlying9 (hsk.drewN q)
      have hcv' := fun q => run_convert_sees (P := Try.prog) 22 9 5 Try.underlying22 Try.underlying5 Try.underlying9 (hsk'.drewN q)
      have hi : (k : Int) < n := by omega
      have hi0 : (0 : Int) ≤ k := by omega
      have Hl := Lib.hid hl
      have Hl' := Lib.hid hl'
      clear hl hl'
      by_cases e : l = l'
      · subst e
        go_wp2
        go_quiet (fail)
        go_wp2
        go_roundw
        case rel =>
          refine ⟨k + 1, _, by omega, by go_num, ?_, rfl⟩
          show _ = _
          obtain ⟨h3, h4⟩ := List.getElem?_eq_some_iff.1 Hl.out
          obtain ⟨h5, h6⟩ := List.getElem?_eq_some_iff.1 Hl'.out
          rw [List.take_succ_eq_append_getElem h3, List.take_succ_eq_append_getElem h5, ht.out, h4, h6]
        case measure => simp [intOf]; omega
      · have h2 : ((strOf l).toList == (strOf l').toList) = false := by rw [strOf_toList, strOf_toList, beq_eq_false_iff_ne]; exact e
        have hne : Hid (decide (la = lb) = false) := by
          show _ = _
          rw [decide_eq_false_iff_not]
          intro h
          rw [h] at Hl
          have h3 := Hl.out.symm.trans Hl'.out
          injection h3 with h3
          exact e h3
        go_wp2
        go_quiet (fail)
        go_wp2
        go_ret
        exact ⟨by rw [hne.out]; rfl, below_drewN (below_drewN (Below.refl _ _) _) _⟩
    · obtain rfl : k = n := by omega
      have hd : Hid (decide (la = lb) = true) := by
        show _ = _
        rw [decide_eq_true_iff]
        have := ht.out
        rwa [List.take_of_length_le (by rw [HA.out]; exact Nat.le_refl _), List.take_of_length_le (by rw [HB.out]; exact Nat.le_refl _)] at this
      go_wp2
      go_ret
      exact ⟨by rw [hd.out]; rfl, below_drewN (Below.refl _ _) _⟩
end Go.Proofs.Ytbkmbbhgpogeiaa
