/-
  The texts that bytes are: plain.
-/
import Derived.Test.YtbkmbbhgpogeiaaText
namespace Go.Proofs.Ytbkmbbhgpogeiaa
open Go.RowKit

/-- What bytes begin with: a text, and what is behind it. -/
def cutText (b : List UInt8) : Option (List UInt8 × List UInt8) :=
  if b.length < 2 then none else if b.length < 2 + beNum (b.take 2) then none else some ((b.drop 2).take (beNum (b.take 2)), b.drop (2 + beNum (b.take 2)))

def textsF : Nat → List UInt8 → Option (List (List UInt8))
  | _, [] => some []
  | 0, _ :: _ => none
  | f + 1, x :: b => match cutText (x :: b) with
    | none => none
    | some (t, r) => (textsF f r).map (t :: ·)

/-- The texts that bytes are. -/
def textsOf (b : List UInt8) : Option (List (List UInt8)) := textsF b.length b

theorem cutText_lt {b t r : List UInt8} (h : cutText b = some (t, r)) : r.length + 2 ≤ b.length := by
  unfold cutText at h
  split at h
  · cases h
  · split at h
    · cases h
    · simp only [Option.some.injEq, Prod.mk.injEq] at h
      rw [← h.2, List.length_drop]
      omega

theorem textsF_more : ∀ (f : Nat) (b : List UInt8), b.length ≤ f → textsF f b = textsF b.length b := by
  intro f
  induction f using Nat.strongRecOn with
  | ind f ih =>
    intro b hb
    cases b with
    | nil => cases f <;> rfl
    | cons x b =>
      cases f with
      | zero => simp at hb
      | succ f =>
        simp only [List.length_cons] at hb ⊢
        unfold textsF
        cases hc : cutText (x :: b) with
        | none => rfl
        | some p =>
          obtain ⟨t, r⟩ := p
          have hl := cutText_lt hc
          simp only [List.length_cons] at hl
          simp only
          rw [ih f (by omega) r (by omega)]
          rcases Nat.lt_or_ge b.length (f + 1) with h | h
          · rw [ih b.length (by omega) r (by omega)]
          · have : b.length = f := by omega
            rw [this, ih f (by omega) r (by omega)]

theorem textsOf_nil : textsOf [] = some [] := rfl
theorem textsOf_none {b : List UInt8} (hb : 0 < b.length) (hc : cutText b = none) : textsOf b = none := by
  cases b with
  | nil => simp at hb
  | cons x b => unfold textsOf; rw [List.length_cons]; unfold textsF; rw [hc]
theorem textsOf_some {b t r : List UInt8} (hc : cutText b = some (t, r)) : textsOf b = (textsOf r).map (t :: ·) := by
  have hl := cutText_lt hc
  cases b with
  | nil => simp at hl
  | cons x b =>
    have e : textsOf (x :: b) = (textsF b.length r).map (t :: ·) := by
      unfold textsOf
      rw [List.length_cons]
      simp only [textsF, hc]
    simp only [List.length_cons] at hl
    rw [e, textsF_more b.length r (by omega)]
    rfl

theorem beNum_two (b : List UInt8) : beNum (b.take 2) < 65536 := by
  have h := beNum_lt (b.take 2)
  have h2 : (b.take 2).length ≤ 2 := by rw [List.length_take]; omega
  have h3 : 256 ^ (b.take 2).length ≤ 256 ^ 2 := Nat.pow_le_pow_right (by omega) h2
  omega

theorem cutText_short {b : List UInt8} (h : b.length < 2) : cutText b = none := by unfold cutText; rw [if_pos h]
theorem cutText_cut {b : List UInt8} (h : 2 ≤ b.length) (h2 : b.length < 2 + beNum (b.take 2)) : cutText b = none := by unfold cutText; rw [if_neg (by omega), if_pos h2]
theorem cutText_whole {b : List UInt8} (h : 2 ≤ b.length) (h2 : 2 + beNum (b.take 2) ≤ b.length) : cutText b = some ((b.drop 2).take (beNum (b.take 2)), b.drop (2 + beNum (b.take 2))) := by
  unfold cutText; rw [if_neg (by omega), if_neg (by omega)]
end Go.Proofs.Ytbkmbbhgpogeiaa
