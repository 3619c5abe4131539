/-
  What the program's functions and the document's give, said alike: the bytes and the error, whichever they are.
-/
import Derived.Test.YtdihimepaihnpaaPut
import Derived.Test.YtdihimepaihnpaaRefPut
import Derived.Test.YtdihimepaihnpaaTake
import Derived.Test.YtdihimepaihnpaaRefTake
import Derived.Test.YtdihimepaihnpaaText
import Derived.Test.YtdihimepaihnpaaTexts
import Derived.Test.YtdihimepaihnpaaRefTexts
namespace Go.Proofs.Ytdihimepaihnpaa
open Go.RowKit

/-- The slice (A, n, c) is these bytes. -/
def Got (w : World) (A : Option Addr) (n c : Nat) (l : List UInt8) : Prop := Sees w w.heap.size A n c (l.map bv)
theorem Got.keep {w w' : World} {A : Option Addr} {n c : Nat} {l : List UInt8} (h : Got w A n c l) (hb : Below w.heap.size w w') : Got w' A n c l := (Sees.below h hb).more hb.size
/-- The slice (A, n, c) is these texts. -/
def GotL (w : World) (A : Option Addr) (n c : Nat) (l : List (List UInt8)) : Prop := SeesL w w.heap.size A n c l
theorem GotL.keep {w w' : World} {A : Option Addr} {n c : Nat} {l : List (List UInt8)} (h : GotL w A n c l) (hb : Below w.heap.size w w') : GotL w' A n c l := (SeesL.upTo h hb (Nat.le_refl _)).more hb.size

def GaveErr (w : World) (l : List UInt8) (k : Int) (e : Ending) (w' : World) : Prop :=
  ∃ A c, e = .returned (.tuple #[.slice A l.length c, .int .i64 k]) ∧ Got w' A l.length c l ∧ Below w.heap.size w w'
def GaveNum (w : World) (m : Int) (l : List UInt8) (k : Int) (e : Ending) (w' : World) : Prop :=
  ∃ A c, e = .returned (.tuple #[.int .u64 m, .slice A l.length c, .int .i64 k]) ∧ Got w' A l.length c l ∧ Below w.heap.size w w'
def GaveAll (w : World) (ls : List (List UInt8)) (k : Int) (e : Ending) (w' : World) : Prop :=
  ∃ A c, e = .returned (.tuple #[.slice A ls.length c, .int .i64 k]) ∧ GotL w' A ls.length c ls ∧ Below w.heap.size w w'

theorem fail_err {w w' : World} {e : Ending} (h : FailBytes w e w') : GaveErr w [] 10 e w' := by
  obtain ⟨rfl, rfl⟩ := h
  exact ⟨none, 0, rfl, Sees.none_, Below.refl _ _⟩
theorem gave_err {w w' : World} {e : Ending} {n : Nat} {l : List UInt8} (h : GaveBytes w n l e w') : GaveErr w l 0 e w' := by
  obtain ⟨A, c, rfl, ho, hb⟩ := h
  have hs := Sees.of_own ho
  have hl := hs.len
  rw [List.length_map] at hl
  subst hl
  exact ⟨A, c, rfl, hs, hb⟩
theorem seen_err {w w' : World} {e : Ending} {n : Nat} {l : List UInt8} (h : GaveSeen w n l e w') : GaveErr w l 0 e w' := by
  obtain ⟨A, c, rfl, ho, hb⟩ := h
  have hl := ho.len
  rw [List.length_map] at hl
  subst hl
  exact ⟨A, c, rfl, ho, hb⟩
theorem fail_num {w w' : World} {e : Ending} (h : FailTake w e w') : GaveNum w 0 [] 10 e w' := by
  obtain ⟨rfl, rfl⟩ := h
  exact ⟨none, 0, rfl, Sees.none_, Below.refl _ _⟩
theorem gave_num {w w' : World} {e : Ending} {N n : Nat} {l : List UInt8} (h : GaveTake w N n l e w') : GaveNum w N l 0 e w' := by
  obtain ⟨A, c, rfl, ho, hb⟩ := h
  have hs := Sees.of_own ho
  have hl := hs.len
  rw [List.length_map] at hl
  subst hl
  exact ⟨A, c, rfl, hs, hb⟩

theorem puts_alike (b : List UInt8) (n : Nat) (N s : Int) (hn : n ≤ 300) (h0 : 0 ≤ N) (h64 : N < 18446744073709551616) :
    ∃ (l : List UInt8) (k : Int), (∀ W A c, Got W A n c b → Calls Try.prog 9 #[.slice A n c, .int .u64 N, .int .i64 s] W (GaveErr W l k)) ∧
      (∀ W A c, Got W A n c b → Calls Try.prog 10 #[.slice A n c, .int .u64 N, .int .i64 s] W (GaveErr W l k)) := by
  by_cases hs : s < 1 ∨ 8 < s
  · exact ⟨[], 10, fun W A c _ => (Put_size A n c N s W hs).mono fun _ _ h => fail_err h, fun W A c _ => (RPut_size A n c N s W hs).mono fun _ _ h => fail_err h⟩
  · have h1 : 1 ≤ s := by omega
    have h8 : s ≤ 8 := by omega
    cases hb : (N / 2 ^ (8 * s).toNat != 0) with
    | true =>
      have h8' : s < 8 := by
        rcases Int.lt_or_eq_of_le h8 with h | rfl
        · exact h
        · simp at hb; omega
      exact ⟨[], 10, fun W A c _ => (Put_big A n c N s W h1 h8 hb).mono fun _ _ h => fail_err h, fun W A c _ => (RPut_big A n c N s W h1 h8' hb).mono fun _ _ h => fail_err h⟩
    | false =>
      exact ⟨_, 0, fun W A c h => (Put_ok A n c _ b N s W h (Nat.le_refl _) (by omega) h1 h8 h0 h64 hb).mono fun _ _ h => gave_err h,
        fun W A c h => (RPut_ok A n c _ b N s W h (Nat.le_refl _) (by omega) h1 h8 h0 h64 (fun _ => hb)).mono fun _ _ h => gave_err h⟩

theorem takes_alike (b : List UInt8) (n : Nat) (s : Int) (hn : n ≤ 300) :
    ∃ (m : Int) (l : List UInt8) (k : Int), (∀ W A c, Got W A n c b → Calls Try.prog 11 #[.slice A n c, .int .i64 s] W (GaveNum W m l k)) ∧
      (∀ W A c, Got W A n c b → Calls Try.prog 12 #[.slice A n c, .int .i64 s] W (GaveNum W m l k)) := by
  by_cases hs : s < 1 ∨ 8 < s
  · exact ⟨0, [], 10, fun W A c _ => (Take_size A n c s W hs).mono fun _ _ h => fail_num h, fun W A c _ => (RTake_size A n c s W hs).mono fun _ _ h => fail_num h⟩
  · have h1 : 1 ≤ s := by omega
    have h8 : s ≤ 8 := by omega
    by_cases hl : (n : Int) < s
    · exact ⟨0, [], 10, fun W A c _ => (Take_short A n c s W h1 h8 hl).mono fun _ _ h => fail_num h, fun W A c _ => (RTake_short A n c s W h1 h8 hl).mono fun _ _ h => fail_num h⟩
    · exact ⟨_, _, 0, fun W A c h => (Take_ok A n c _ b s W h (Nat.le_refl _) (by omega) h1 h8 (by omega)).mono fun _ _ h => gave_num h,
        fun W A c h => (RTake_ok A n c _ b s W h (Nat.le_refl _) (by omega) h1 h8 (by omega)).mono fun _ _ h => gave_num h⟩

theorem text_alike (b t : List UInt8) (n n' : Nat) (hn : n ≤ 2000000000) (hn' : n' ≤ 65535) :
    ∃ (l : List UInt8), l = textOf b t ∧ (∀ W A A' c c', Got W A n c b → Got W A' n' c' t → Calls Try.prog 13 #[.slice A n c, .slice A' n' c'] W (GaveErr W l 0)) ∧
      (∀ W A A' c c', Got W A n c b → Got W A' n' c' t → Calls Try.prog 14 #[.slice A n c, .slice A' n' c'] W (GaveErr W l 0)) :=
  ⟨_, rfl, fun W A A' c c' h h' => (Text_ok A A' n c n' c' _ _ b t W h h' (Nat.le_refl _) (Nat.le_refl _) hn hn').mono fun _ _ h => seen_err h,
    fun W A A' c c' h h' => (RText_ok A A' n c n' c' _ _ b t W h h' (Nat.le_refl _) (Nat.le_refl _) hn hn').mono fun _ _ h => seen_err h⟩

theorem texts_all {w w' : World} {e : Ending} {r : Option (List (List UInt8))} (h : GaveTexts w r e w') : GaveAll w (r.getD []) (if r.isSome then 0 else 10) e w' := by
  rcases h with ⟨rfl, rfl, hb⟩ | ⟨ls, A, n, c, rfl, rfl, hs, hb⟩
  · exact ⟨none, 0, rfl, ⟨[], Sees.none_, rfl, fun i v l hv _ => by simp at hv⟩, hb⟩
  · have hl := hs.len
    subst hl
    exact ⟨A, c, rfl, hs, hb⟩

theorem textsF_le : ∀ (f : Nat) (b : List UInt8) (ls : List (List UInt8)), textsF f b = some ls → ls.length ≤ f
  | f, [], ls, h => by
    have : ls = [] := by cases f <;> simpa [textsF] using h
    subst this; simp
  | 0, _ :: _, ls, h => by simp [textsF] at h
  | f + 1, x :: b, ls, h => by
    simp only [textsF] at h
    split at h
    · cases h
    · next t r _ =>
      obtain ⟨ls', h1, rfl⟩ := Option.map_eq_some_iff.1 h
      have := textsF_le f r ls' h1
      simp; omega

theorem textsOf_le (b : List UInt8) : ((textsOf b).getD []).length ≤ b.length := by
  cases h : textsOf b with
  | none => simp
  | some ls => exact textsF_le _ _ _ h

theorem texts_alike (b : List UInt8) (n : Nat) (hn : n ≤ 2000000000) :
    ∃ (ls : List (List UInt8)) (k : Int), ls = (textsOf b).getD [] ∧ k = (if (textsOf b).isSome then 0 else 10) ∧ (∀ W A c, Got W A n c b → Calls Try.prog 15 #[.slice A n c] W (GaveAll W ls k)) ∧
      (∀ W A c, Got W A n c b → Calls Try.prog 16 #[.slice A n c] W (GaveAll W ls k)) :=
  ⟨_, _, rfl, rfl, fun W A c h => (Texts_any A n c _ b W h (Nat.le_refl _) hn).mono fun _ _ h => texts_all h,
    fun W A c h => (RTexts_any A n c _ b W h (Nat.le_refl _) hn).mono fun _ _ h => texts_all h⟩
end Go.Proofs.Ytdihimepaihnpaa
