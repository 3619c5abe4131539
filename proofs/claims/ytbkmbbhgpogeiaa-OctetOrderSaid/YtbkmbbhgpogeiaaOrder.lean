/-
  Keys by their bits: plain.
-/
import Derived.Test.YtbkmbbhgpogeiaaTurn
import Derived.Test.YtbkmbbhgpogeiaaCmp
import Derived.Test.YtbkmbbhgpogeiaaOrd
namespace Go.Proofs.Ytbkmbbhgpogeiaa

theorem kbit_of (l : List UInt8) (i m : Nat) (hm : m < 8) : kbit l (8 * i + m) = (l.getD i 0).toNat / 2 ^ (7 - m) % 2 := by
  unfold kbit
  rw [show (8 * i + m) / 8 = i by omega, show (8 * i + m) % 8 = m by omega]

theorem kbit_lt (l : List UInt8) (i : Nat) : kbit l i < 2 := by unfold kbit; omega

theorem byte_of_bits {a b : List UInt8} {i : Nat} (h : ∀ m, m < 8 → kbit a (8 * i + m) = kbit b (8 * i + m)) : a.getD i 0 = b.getD i 0 := by
  apply UInt8.toNat_inj.1
  refine byte_same _ _ (UInt8.toNat_lt _) (UInt8.toNat_lt _) fun m hm => ?_
  rw [← kbit_of a i m hm, ← kbit_of b i m hm]
  exact h m hm

theorem take_of_bits {a b : List UInt8} (ha : a.length = 32) (hb : b.length = 32) {k : Nat} (hk : k ≤ 32) (h : ∀ j, j < 8 * k → kbit a j = kbit b j) : a.take k = b.take k := by
  apply List.ext_getElem?
  intro i
  rcases Nat.lt_or_ge i k with hi | hi
  · have e := byte_of_bits (a := a) (b := b) (i := i) (fun m hm => h _ (by omega))
    rw [List.getElem?_take_of_lt hi, List.getElem?_take_of_lt hi, List.getElem?_eq_getElem (by omega), List.getElem?_eq_getElem (by omega)]
    simpa [List.getD, List.getElem?_eq_getElem (show i < a.length by omega), List.getElem?_eq_getElem (show i < b.length by omega)] using e
  · rw [List.getElem?_eq_none (by rw [List.length_take]; omega), List.getElem?_eq_none (by rw [List.length_take]; omega)]

/-- All bits alike: the same. -/
theorem order_same {a b : List UInt8} (ha : a.length = 32) (hb : b.length = 32) (h : ∀ j, j < 256 → kbit a j = kbit b j) : kcmp a b = 0 := by
  have e := take_of_bits ha hb (Nat.le_refl 32) h
  rw [List.take_of_length_le (by omega), List.take_of_length_le (by omega)] at e
  rw [e]; exact cmp_same b

/-- The first bit in which they differ tells which comes first. -/
theorem order_at {a b : List UInt8} (ha : a.length = 32) (hb : b.length = 32) {d : Nat} (hd : d < 256) (h : ∀ j, j < d → kbit a j = kbit b j) (hne : kbit a d ≠ kbit b d) :
    (kbit a d = 0 → kcmp a b = -1) ∧ (kbit a d ≠ 0 → kcmp a b = 1) := by
  have hk : d / 8 < 32 := by omega
  have ht := take_of_bits ha hb (k := d / 8) (by omega) (fun j hj => h j (by omega))
  have hc := compare_at a b (d / 8) (by omega) (by omega) ht
  have e : ∀ l : List UInt8, kbit l d = (l.getD (d / 8) 0).toNat / 2 ^ (7 - d % 8) % 2 := fun l => rfl
  have ea : a.getD (d / 8) 0 = a[d / 8] := by simp [List.getD, List.getElem?_eq_getElem (show d / 8 < a.length by omega)]
  have eb : b.getD (d / 8) 0 = b[d / 8] := by simp [List.getD, List.getElem?_eq_getElem (show d / 8 < b.length by omega)]
  have ho := byte_order (a[d / 8]).toNat (b[d / 8]).toNat (UInt8.toNat_lt _) (UInt8.toNat_lt _) (d % 8) (by omega) (fun m hm => by
      have := h (8 * (d / 8) + m) (by omega)
      rw [kbit_of a _ m (by omega), kbit_of b _ m (by omega), ea, eb] at this
      exact this) (by rw [e, e, ea, eb] at hne; exact hne)
  rw [e a, ea]
  exact ⟨fun h0 => hc.1 (ho.1 h0), fun h0 => hc.2 (ho.2 h0)⟩

theorem kturn_getD {l : List UInt8} {i j : Nat} (hl : l.length = 32) (_hi : i < 256) (hj : j < 32) : (kturn l i).getD j 0 = if j = i / 8 then l.getD j 0 ^^^ UInt8.ofNat (2 ^ (7 - i % 8)) else l.getD j 0 := by
  unfold kturn
  simp only [List.getD, List.getElem?_set]
  by_cases h : i / 8 = j
  · subst h
    simp [show i / 8 < l.length by omega]
  · have h' : ¬ j = i / 8 := fun e => h e.symm
    simp [h, h']

/-- One that is turned differs there alone. -/
theorem kbit_turn {l : List UInt8} {i k : Nat} (hl : l.length = 32) (hi : i < 256) (hk : k < 256) : kbit (kturn l i) k = if k = i then 1 - kbit l k else kbit l k := by
  unfold kbit
  rw [kturn_getD hl hi (by omega)]
  by_cases h : k / 8 = i / 8
  · rw [if_pos h, turn_bit _ _ _ (by omega)]
    by_cases h2 : k = i
    · subst h2; simp
    · rw [if_neg h2, if_neg (by omega)]
  · rw [if_neg h, if_neg (fun e => h (by rw [e]))]

theorem kturn_twice {l : List UInt8} {i : Nat} (hl : l.length = 32) (hi : i < 256) : kturn (kturn l i) i = l := by
  have hi8 : i / 8 < 32 := by omega
  have e : (kturn l i).getD (i / 8) 0 = l.getD (i / 8) 0 ^^^ UInt8.ofNat (2 ^ (7 - i % 8)) := by rw [kturn_getD hl hi hi8, if_pos rfl]
  show (kturn l i).set (i / 8) ((kturn l i).getD (i / 8) 0 ^^^ UInt8.ofNat (2 ^ (7 - i % 8))) = l
  rw [e, turn_turn]
  unfold kturn
  rw [List.set_set]
  have : l.getD (i / 8) 0 = l[i / 8] := by simp [List.getD, List.getElem?_eq_getElem (show i / 8 < l.length by omega)]
  rw [this, List.set_getElem_self]
end Go.Proofs.Ytbkmbbhgpogeiaa
