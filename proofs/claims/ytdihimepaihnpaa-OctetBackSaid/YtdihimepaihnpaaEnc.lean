/-
  Numbers and texts written and read back: plain.
-/
import Derived.Test.YtdihimepaihnpaaParse
namespace Go.Proofs.Ytdihimepaihnpaa
open Go.RowKit


theorem beNum_beTo (s N : Nat) (hN : N < 256 ^ s) : ∀ k, k ≤ s → beNum (beTo s N k) = N / 256 ^ (s - k)
  | 0, _ => by rw [Nat.sub_zero, Nat.div_eq_of_lt hN]; simp [beTo, beNum]
  | k + 1, hk => by
    rw [beTo_succ, beNum_snoc, beNum_beTo s N hN k (by omega), UInt8.toNat_ofNat']
    have e1 : s - k = (s - (k + 1)) + 1 := by omega
    have e2 : s - 1 - k = s - (k + 1) := by omega
    rw [e1, e2, Nat.pow_succ, ← Nat.div_div_eq_div_mul]
    omega

theorem beNum_beBytes (s N : Nat) (hN : N < 256 ^ s) : beNum (beBytes s N) = N := by
  unfold beBytes
  rw [beNum_beTo s N hN s (Nat.le_refl _)]
  simp

theorem cutText_enc (t r : List UInt8) (ht : t.length ≤ 65535) : cutText (beBytes 2 t.length ++ t ++ r) = some (t, r) := by
  have hl : (beBytes 2 t.length).length = 2 := beTo_length _ _ _
  have hn : beNum ((beBytes 2 t.length ++ t ++ r).take 2) = t.length := by
    rw [List.append_assoc, List.take_append_of_le_length (by omega), List.take_of_length_le (by omega)]
    exact beNum_beBytes 2 t.length (by omega)
  unfold cutText
  rw [hn, if_neg (by simp [hl]), if_neg (by simp [hl])]
  have e : beBytes 2 t.length ++ t ++ r = beBytes 2 t.length ++ (t ++ r) := List.append_assoc _ _ _
  have e1 : (beBytes 2 t.length ++ (t ++ r)).drop 2 = t ++ r := by rw [List.drop_append_of_le_length (by omega), List.drop_of_length_le (by omega)]; rfl
  have e2 : (beBytes 2 t.length ++ (t ++ r)).drop (2 + t.length) = r := by
    rw [← List.drop_drop, e1, List.drop_left]
  rw [e, e1, e2, List.take_left]

/-- Texts, one behind the other. -/
def allOf (ls : List (List UInt8)) : List UInt8 := ls.foldl textOf []

theorem foldl_textOf : ∀ (ls : List (List UInt8)) (b : List UInt8), ls.foldl textOf b = b ++ ls.foldl textOf []
  | [], b => by simp
  | t :: ls, b => by
    rw [List.foldl_cons, List.foldl_cons, foldl_textOf ls (textOf b t), foldl_textOf ls (textOf [] t)]
    simp [textOf]

theorem allOf_cons (t : List UInt8) (ls : List (List UInt8)) : allOf (t :: ls) = beBytes 2 t.length ++ t ++ allOf ls := by
  unfold allOf
  rw [List.foldl_cons, foldl_textOf]
  simp [textOf]

theorem textsOf_all : ∀ ls : List (List UInt8), (∀ t ∈ ls, t.length ≤ 65535) → textsOf (allOf ls) = some ls
  | [], _ => textsOf_nil
  | t :: ls, h => by
    rw [allOf_cons, textsOf_some (cutText_enc t (allOf ls) (h t (by simp))), textsOf_all ls (fun x hx => h x (by simp [hx]))]
    rfl

theorem allOf_take {ls : List (List UInt8)} {k : Nat} {t : List UInt8} (h : ls[k]? = some t) : allOf (ls.take (k + 1)) = textOf (allOf (ls.take k)) t := by
  obtain ⟨hk, rfl⟩ := List.getElem?_eq_some_iff.1 h
  unfold allOf
  rw [List.take_succ_eq_append_getElem hk, List.foldl_append]
  rfl

theorem allOf_length_le : ∀ ls : List (List UInt8), (∀ t ∈ ls, t.length ≤ 300) → (allOf ls).length ≤ 302 * ls.length
  | [], _ => by simp [allOf]
  | t :: ls, h => by
    have h1 := allOf_length_le ls (fun x hx => h x (by simp [hx]))
    have h2 := h t (by simp)
    have h3 : (beBytes 2 t.length).length = 2 := beTo_length _ _ _
    rw [allOf_cons]
    simp only [List.length_append, List.length_cons, h3]
    omega
end Go.Proofs.Ytdihimepaihnpaa
