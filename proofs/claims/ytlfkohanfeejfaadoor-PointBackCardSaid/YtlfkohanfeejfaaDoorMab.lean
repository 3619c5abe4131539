/-
  How many points the curve has, at most; so many of one are none. Pure.
  Words on memory: what a slice reads as ('Sees'), bytes, numbers of bytes, the highest first.
  Digits of sixteen bits: sums, products, carries; limbs of sixty-four. Pure.
-/
import Derived.Below
import Derived.Laws.CopyOwn
import Derived.Lib.Hide
import Derived.Lib.SlBytesRow
import Derived.Maps.AppendAt
import Derived.WalkKit
import Derived.WalkLawsBesides
import Derived.WalkMore
import Derived.WalkSpells
import Derived.Test.YtlfkohanfeejfaaDoorMaa
import Derived.Test.YtlfkohanfeejfaaDoorProg
namespace Go.Proofs.YtlfkohanfeejfaaDoor

/-- The curve's points. -/
abbrev Pt := { p : F × F // On p }
namespace Pt
def plus (p q : Pt) : Pt := ⟨padd p.1 q.1, on_add p.2 q.2⟩
def none : Pt := ⟨pzero, on_zero⟩
def opp (p : Pt) : Pt := ⟨pneg p.1, on_neg p.2⟩
theorem plus_assoc (p q r : Pt) : (p.plus q).plus r = p.plus (q.plus r) := Subtype.ext (padd_assoc p.2 q.2 r.2)
theorem plus_comm (p q : Pt) : p.plus q = q.plus p := Subtype.ext (padd_comm _ _)
theorem plus_none (p : Pt) : p.plus none = p := Subtype.ext (padd_zero _)
theorem none_plus (p : Pt) : none.plus p = p := by rw [plus_comm, plus_none]
theorem plus_opp (p : Pt) : p.plus p.opp = none := Subtype.ext (padd_neg p.2)
theorem cancel {p q r : Pt} (h : p.plus q = p.plus r) : q = r := by
  have h2 : p.opp.plus (p.plus q) = p.opp.plus (p.plus r) := by rw [h]
  rw [← plus_assoc, ← plus_assoc, plus_comm p.opp, plus_opp, none_plus, none_plus] at h2
  exact h2
theorem cancel' {p q r : Pt} (h : q.plus p = r.plus p) : q = r := cancel (p := p) (by rw [plus_comm p, plus_comm p, h])
theorem four (a b c d : Pt) : (a.plus b).plus (c.plus d) = (a.plus c).plus (b.plus d) := by
  rw [plus_assoc, plus_assoc, ← plus_assoc b, plus_comm b c, plus_assoc c]
theorem opp_uniq {p q : Pt} (h : p.plus q = none) : q = p.opp := cancel (p := p) (h.trans (plus_opp p).symm)
theorem opp_opp (p : Pt) : p.opp.opp = p := (opp_uniq (by rw [plus_comm, plus_opp])).symm
theorem opp_plus (p q : Pt) : (p.plus q).opp = p.opp.plus q.opp := (opp_uniq (by rw [four, plus_opp, plus_opp, plus_none])).symm
theorem opp_none : none.opp = none := (opp_uniq (plus_none none)).symm

/-- So many of one. -/
def times : Nat → Pt → Pt
  | 0, _ => none
  | n + 1, p => (times n p).plus p
theorem times_zero (p : Pt) : times 0 p = none := rfl
theorem times_succ (n : Nat) (p : Pt) : times (n + 1) p = (times n p).plus p := rfl
theorem times_one (p : Pt) : times 1 p = p := none_plus p
theorem times_add (m : Nat) (p : Pt) : ∀ n, times (m + n) p = (times m p).plus (times n p)
  | 0 => (plus_none _).symm
  | n + 1 => by rw [← Nat.add_assoc, times_succ, times_succ, times_add m p n, plus_assoc]
theorem times_mul (m : Nat) (p : Pt) : ∀ n, times (n * m) p = times n (times m p)
  | 0 => by rw [Nat.zero_mul]; rfl
  | n + 1 => by rw [Nat.succ_mul, times_add, times_mul m p n, times_succ]
theorem times_none : ∀ n, times n none = none
  | 0 => rfl
  | n + 1 => by rw [times_succ, times_none n, plus_none]
theorem times_plus (p q : Pt) : ∀ n, times n (p.plus q) = (times n p).plus (times n q)
  | 0 => (plus_none none).symm
  | n + 1 => by rw [times_succ, times_succ, times_succ, times_plus p q n, four]
theorem times_opp (p : Pt) : ∀ n, times n p.opp = (times n p).opp
  | 0 => opp_none.symm
  | n + 1 => by rw [times_succ, times_succ, times_opp p n, opp_plus]
theorem times_comm (m n : Nat) (p : Pt) : times m (times n p) = times n (times m p) := by rw [← times_mul, ← times_mul, Nat.mul_comm]
theorem times_mod {L : Nat} {p : Pt} (h : times L p = none) (n : Nat) : times (n % L) p = times n p := by
  have e : times (L * (n / L) + n % L) p = times n p := congrArg (fun k => times k p) (Nat.div_add_mod n L)
  rw [← e, times_add, Nat.mul_comm L, times_mul, h, times_none, none_plus]

/-- All of a list, added. -/
def gsum : List Pt → Pt
  | [] => none
  | a :: l => a.plus (gsum l)
theorem gsum_perm {l m : List Pt} (h : l.Perm m) : gsum l = gsum m := by
  induction h with
  | nil => rfl
  | cons x _ ih => unfold gsum; rw [ih]
  | swap x y l => simp only [gsum]; rw [← plus_assoc, ← plus_assoc, plus_comm y x]
  | trans _ _ ih1 ih2 => exact ih1.trans ih2
theorem gsum_shift (a : Pt) : ∀ l : List Pt, gsum (l.map (·.plus a)) = (gsum l).plus (times l.length a)
  | [] => (plus_none _).symm
  | b :: l => by
    simp only [List.map_cons, gsum, List.length_cons]
    rw [gsum_shift a l, times_succ, plus_comm (times l.length a) a, four]
theorem times_all {l : List Pt} (hn : l.Nodup) (hall : ∀ p, p ∈ l) (a : Pt) : times l.length a = none := by
  have hm : (l.map (·.plus a)).Nodup := List.Pairwise.map _ (fun x y (h : x ≠ y) e => h (cancel' e)) hn
  have hp : (l.map (·.plus a)).Perm l := List.perm_iff_count.2 fun x => by
    have h1 : x ∈ l.map (·.plus a) := List.mem_map.2 ⟨x.plus a.opp, hall _, by rw [plus_assoc, plus_comm a.opp, plus_opp, plus_none]⟩
    rw [hm.count, hn.count, if_pos h1, if_pos (hall x)]
  have h := gsum_perm hp
  rw [gsum_shift] at h
  exact cancel (p := gsum l) (h.trans (plus_none _).symm)
end Pt

/-! How many there are, at most. -/
theorem exists_fin (n : Nat) : ∃ l : List (Fin n), l.Nodup ∧ (∀ x, x ∈ l) ∧ l.length = n :=
  ⟨List.finRange n, List.nodup_finRange n, List.mem_finRange, List.length_finRange⟩
theorem two_max {l : List F} (hn : l.Nodup) (h : ∀ a ∈ l, ∀ b ∈ l, a = b ∨ a = -b) : l.length ≤ 2 := by
  match l, hn, h with
  | [], _, _ => simp
  | [_], _, _ => simp
  | [_, _], _, _ => simp
  | a :: b :: c :: l, hn, h =>
    exfalso
    simp only [List.nodup_cons, List.mem_cons, not_or] at hn
    have h1 := (h b (by simp) a (by simp)).resolve_left (fun e => hn.1.1 e.symm)
    have h2 := (h c (by simp) a (by simp)).resolve_left (fun e => hn.1.2.1 e.symm)
    exact hn.2.1.1 (h1.trans h2.symm)
theorem length_two {α β : Type} (f : α → List β) (h : ∀ a, (f a).length ≤ 2) : ∀ l : List α, (l.flatMap f).length ≤ 2 * l.length
  | [] => by simp
  | a :: l => by
    have h1 := length_two f h l
    have h2 := h a
    rw [List.flatMap_cons, List.length_append, List.length_cons]
    omega
/-- Each once. -/
def once {α : Type} [DecidableEq α] : List α → List α
  | [] => []
  | a :: l => if a ∈ once l then once l else a :: once l
theorem mem_once {α : Type} [DecidableEq α] {x : α} : ∀ {l : List α}, x ∈ once l ↔ x ∈ l
  | [] => Iff.rfl
  | a :: l => by
    unfold once
    split
    · next h =>
      rw [List.mem_cons, mem_once]
      exact ⟨Or.inr, fun h2 => h2.elim (fun e => e ▸ mem_once.1 h) id⟩
    · rw [List.mem_cons, List.mem_cons, mem_once]
theorem nodup_once {α : Type} [DecidableEq α] : ∀ l : List α, (once l).Nodup
  | [] => List.nodup_nil
  | a :: l => by
    unfold once
    split
    · exact nodup_once l
    · next h => exact List.nodup_cons.2 ⟨h, nodup_once l⟩
theorem length_once {α : Type} [DecidableEq α] : ∀ l : List α, (once l).length ≤ l.length
  | [] => Nat.le_refl _
  | a :: l => by
    have := length_once l
    unfold once
    split <;> simp only [List.length_cons] <;> omega
/-- Of one Y there are two points, at most. -/
theorem on_two {x1 x2 y : F} (h1 : On (x1, y)) (h2 : On (x2, y)) : x1 = x2 ∨ x1 = -x2 := by
  unfold On at h1 h2
  simp only at h1 h2
  have hne : 1 + dd * (y * y) ≠ 0 := fun h0 => by
    have hy : y ≠ 0 := fun h => F.ne01 (by
      have e : (1 : F) = 1 + dd * (y * y) := by rw [h, F.mulz, F.mulz]; decide
      exact (e.trans h0).symm)
    have hs : dd = (fI * finv y) * (fI * finv y) := by
      have hy2 := mul_finv hy
      have hI := fI_sq
      generalize finv y = c at *
      generalize fI = i at *
      have : dd * (y * y) * (c * c) = -(c * c) := by grind
      have h3 : y * y * (c * c) = 1 := by grind
      grind
    exact dd_sq _ hs.symm
  refine sq_eq (F.cancel hne ?_)
  grind
/-- There is a number that is not more than twice P, so many of each point are none. -/
theorem exists_order : ∃ n, 0 < n ∧ n ≤ 2 * PP ∧ ∀ p : Pt, Pt.times n p = Pt.none := by
  obtain ⟨l, hn, hall, hlen⟩ := exists_fin PP
  let ps : List (F × F) := l.flatMap fun y => (l.filter fun x => decide (On (x, y))).map fun x => (x, y)
  let qs : List Pt := ps.filterMap fun p => if h : On p then some ⟨p, h⟩ else none
  have hq : ∀ p : Pt, p ∈ once qs := fun p => by
    refine mem_once.2 (List.mem_filterMap.2 ⟨p.1, ?_, by rw [dif_pos p.2]⟩)
    refine List.mem_flatMap.2 ⟨p.1.2, hall _, List.mem_map.2 ⟨p.1.1, List.mem_filter.2 ⟨hall _, decide_eq_true p.2⟩, rfl⟩⟩
  refine ⟨(once qs).length, ?_, ?_, Pt.times_all (nodup_once qs) hq⟩
  · exact List.length_pos_of_mem (hq Pt.none)
  · refine Nat.le_trans (length_once qs) (Nat.le_trans (List.length_filterMap_le _ _) ?_)
    rw [← hlen]
    refine length_two _ (fun y => ?_) l
    rw [List.length_map]
    refine two_max (hn.filter _) fun a ha b hb => ?_
    exact on_two (of_decide_eq_true (List.mem_filter.1 ha).2) (of_decide_eq_true (List.mem_filter.1 hb).2)
end Go.Proofs.YtlfkohanfeejfaaDoor

namespace Go.Proofs.YtlfkohanfeejfaaDoor
open Go.RowKit

/-- A byte as a value. -/
def bv (x : UInt8) : Value := .int .u8 (x.toNat : Int)

/-- The slice (A, n, c) holds the cells xs, one a member, in a block below B. -/
structure Sees (w : World) (B : Nat) (A : Option Addr) (n c : Nat) (xs : List Value) : Prop where
  len : xs.length = n
  le : n ≤ c
  max : c ≤ maxLen
  nil : A = none → c = 0
  at_ : 0 < n → ∃ b o, A = some ⟨b, o, none⟩ ∧ b < B ∧ ∀ j u, xs[j]? = some u → w.cell? ⟨b, o + j, none⟩ = some u

section
variable {w w' : World} {B B' n c : Nat} {A : Option Addr} {xs : List Value}

theorem Sees.keep (h : Sees w B A n c xs) (hk : ∀ p : Addr, p.block < B → w'.cell? p = w.cell? p) : Sees w' B A n c xs :=
  ⟨h.len, h.le, h.max, h.nil, fun hn => by
    obtain ⟨b, o, e, hb, hc⟩ := h.at_ hn
    exact ⟨b, o, e, hb, fun j u hu => (hk ⟨b, o + j, none⟩ hb).trans (hc j u hu)⟩⟩

theorem Sees.more (h : Sees w B A n c xs) (hB : B ≤ B') : Sees w B' A n c xs :=
  ⟨h.len, h.le, h.max, h.nil, fun hn => by
    obtain ⟨b, o, e, hb, hc⟩ := h.at_ hn
    exact ⟨b, o, e, by omega, hc⟩⟩

theorem Sees.below (h : Sees w B A n c xs) (hb : Below B w w') : Sees w' B A n c xs := h.keep fun _ hp => hb.cell hp

theorem Sees.upTo (h : Sees w B A n c xs) {D : Nat} (hb : Below D w w') (hD : B ≤ D) : Sees w' B A n c xs := h.below (hb.mono hD)

theorem Sees.drewN (h : Sees w B A n c xs) (k : Nat) : Sees (w.drewN k) B A n c xs := h.keep fun _ _ => by simp

theorem Sees.alloc (h : Sees w B A n c xs) (hB : B ≤ w.heap.size) (o : Obj) : Sees (w.alloc o) B A n c xs := h.keep fun p hp => World.cell?_alloc_lt w o p (by omega)

theorem Sees.setCell (h : Sees w B A n c xs) {p : Addr} (hB : B ≤ p.block) (u : Value) : Sees (w.setCell p u) B A n c xs :=
  h.keep fun q hq => World.cell?_setCell_other w p q u (fun e => by subst e; omega)

theorem Sees.none_ : Sees w B none 0 0 [] := ⟨rfl, Nat.le_refl _, by simp [maxLen], fun _ => rfl, fun h => absurd h (by omega)⟩

theorem Sees.cell {k : Nat} (h : Sees w B A n c xs) (hk : k < n) : ∃ b o u, A = some ⟨b, o, none⟩ ∧ b < B ∧ xs[k]? = some u ∧ w.cell? ⟨b, o + k, none⟩ = some u := by
  obtain ⟨b, o, e, hb, hc⟩ := h.at_ (by omega)
  have hl : k < xs.length := by rw [h.len]; exact hk
  exact ⟨b, o, xs[k], e, hb, List.getElem?_eq_getElem hl, hc k _ (List.getElem?_eq_getElem hl)⟩

/-- A piece of a slice. -/
theorem Sees.cut (h : Sees w B A n c xs) {lo hi : Nat} (h1 : lo ≤ hi) (h2 : hi ≤ n) :
    Sees w B (if c = lo then A else A.map (·.add lo)) (hi - lo) (c - lo) ((xs.drop lo).take (hi - lo)) := by
  have hl := h.len
  have hm := h.max
  have hle := h.le
  refine ⟨by rw [List.length_take, List.length_drop]; omega, by omega, by omega, fun e => ?_, fun hn => ?_⟩
  · split at e
    · omega
    · cases A with
      | none => have := h.nil rfl; omega
      | some a => cases e
  · obtain ⟨b, o, rfl, hb, hc⟩ := h.at_ (by omega)
    rw [if_neg (by omega)]
    refine ⟨b, o + lo, ?_, hb, fun j u hu => ?_⟩
    · simp only [Option.map_some, Option.some.injEq, Addr.add]
      split
      · next e => subst e; rfl
      · rfl
    · rw [List.getElem?_take] at hu
      split at hu
      · rw [List.getElem?_drop] at hu
        have := hc (lo + j) u hu
        rw [← Nat.add_assoc] at this
        exact this
      · cases hu

theorem Sees.drew (h : Sees w B A n c xs) : Sees w.drew B A n c xs := h.keep fun _ _ => by simp

theorem Sees.take (h : Sees w B A n c xs) {k : Nat} (hk : k ≤ n) : Sees w B A k c (xs.take k) := by
  have hl := h.len
  have hle := h.le
  refine ⟨by rw [List.length_take]; omega, by omega, h.max, h.nil, fun hp => ?_⟩
  obtain ⟨b, o, e, hb, hc⟩ := h.at_ (by omega)
  refine ⟨b, o, e, hb, fun j u hu => hc j u ?_⟩
  rw [List.getElem?_take] at hu
  split at hu
  · exact hu
  · cases hu

theorem Sees.drop (h : Sees w B A n c xs) {k : Nat} (hk : k ≤ n) : Sees w B (if c = k then A else A.map (·.add k)) (n - k) (c - k) (xs.drop k) := by
  have h1 := h.cut hk (Nat.le_refl n)
  rwa [List.take_of_length_le (by rw [List.length_drop, h.len]; exact Nat.le_refl _)] at h1

theorem Sees.of_own {base : Nat} {e : TypeId} (h : w.ownsRow base e 1 (.slice A n c) n xs) : Sees w w.heap.size A n c xs := by
  obtain ⟨hl, ⟨hv, rfl⟩ | ⟨g, cap, cur, hv, hb, hg, hnc, hcm, hsz, hcur⟩⟩ := h
  · injection hv with h1 h2 h3
    subst h1; subst h3
    refine ⟨by simpa using hl, Nat.le_refl _, by simp [maxLen], fun _ => rfl, fun h => absurd h (by omega)⟩
  · injection hv with h1 h2 h3
    subst h1; subst h3
    refine ⟨by simpa using hl, hnc, hcm, (fun h => by cases h), fun hn => ?_⟩
    refine ⟨g, 0, rfl, ?_, fun j u hu => ?_⟩
    · rcases Nat.lt_or_ge g w.heap.size with hlt | hge
      · exact hlt
      · rw [Array.getElem?_eq_none hge] at hg; cases hg
    · rw [Nat.zero_add, cell_of_row w g j cur e (0, 0) hg]
      rw [← hcur, List.getElem?_take] at hu
      split at hu
      · simpa using hu
      · cases hu
end

theorem Sees.src {w : World} {B n c : Nat} {A : Option Addr} {xs : List Value} (h : Sees w B A n c xs) (hp : 0 < xs.length) : ∃ ad, A = some ad ∧ ∀ j u, xs[j]? = some u → w.cell? (ad.add j) = some u := by
  obtain ⟨b, o, rfl, hb, hc⟩ := h.at_ (by rw [← h.len]; exact hp)
  refine ⟨_, rfl, fun j u hu => ?_⟩
  have := hc j u hu
  unfold Addr.add
  split
  · next e => subst e; simpa using this
  · exact this

theorem bv_one (l : List UInt8) : ∀ u ∈ l.map bv, u.oneCell' = true := by
  intro u hu
  obtain ⟨x, _, rfl⟩ := List.mem_map.1 hu
  rfl

theorem below_drewN {B : Nat} {a w : World} (h : Below B a w) (n : Nat) : Below B a (w.drewN n) := ⟨h.os, h.tape, h.output, h.size, h.block⟩

theorem ownsRow_slice {w : World} {base : Nat} {e : TypeId} {v : Value} {n : Nat} {xs : List Value} (h : w.ownsRow base e 1 v n xs) : ∃ A c, v = .slice A n c := by
  rcases h.2 with ⟨rfl, rfl⟩ | ⟨g, cap, cur, rfl, _⟩
  · exact ⟨_, _, rfl⟩
  · exact ⟨_, _, rfl⟩

theorem run_append_sees {P : Program} (w : World) (base : Nat) (t ty e : TypeId) (i : TypeInfo) (z : Value) (bytes : Nat) (ht : P.underlying t = some (.slice e)) (hi : P.info? e = some i) (hz : i.zero = some z)
    (hsize : i.size = 1) (hby : i.bytes = bytes) (hzs : z.cells.size = 1) (v : Value) (n : Nat) (xs : List Value) (hown : w.ownsRow base e 1 v n xs)
    (B : Nat) (A : Option Addr) (m c : Nat) (news : List Value) (hr : Sees w B A m c news) (h1 : ∀ u ∈ news, u.oneCell' = true)
    (h63 : n + m ≤ maxLen) (hbytes : (n + m) * bytes ≤ 140737488355328) (hbase : base ≤ w.heap.size) (D : Nat) (w0 : World) (hb : Below D w0 w) (hD : D ≤ base) :
    ∃ A' c' w', (Builtin.append_ #[t, t] ty #[v, .slice A m c]).run P w = .ok (.slice A' (n + m) c') w' ∧ w'.ownsRow base e 1 (.slice A' (n + m) c') (n + m) (xs ++ news) ∧ Below D w0 w' := by
  cases A with
  | none =>
    have hc := hr.nil rfl
    have hm : m = 0 := by have := hr.le; omega
    subst hc; subst hm
    have hn : news = [] := List.eq_nil_of_length_eq_zero hr.len
    subst hn
    obtain ⟨A', c', rfl⟩ := ownsRow_slice hown
    exact ⟨A', c', w, run_append_owned_none w base t ty e i 1 ht hi _ n xs hown, by simpa using hown, hb⟩
  | some ad =>
    have hsrc : ∀ j u, news[j]? = some u → w.cell? (ad.add j) = some u := by
      intro j u hu
      have hp : 0 < news.length := by
        rcases Nat.eq_zero_or_pos news.length with h0 | h0
        · rw [List.eq_nil_of_length_eq_zero h0] at hu; simp at hu
        · exact h0
      obtain ⟨ad', e, hc⟩ := hr.src hp
      injection e with e
      subst e
      exact hc j u hu
    obtain ⟨v', w', hrun, h2, h3, _, _⟩ := run_append_own_at (P := P) w base t ty e i z 1 bytes ht hi hz hsize hby hzs (by omega) v n xs hown ad m c news (by rw [hr.len, Nat.mul_one]) hsrc h1 h63 hbytes hbase
    obtain ⟨A', c', rfl⟩ := ownsRow_slice h2
    exact ⟨A', c', w', hrun, h2, hb.grown h3 (by omega) (fun k e => by have := (hown.lt k e).1; omega)⟩

/-- 'append(v, x...)' on a row of the call's own; x is any slice, nil and empty ones too. -/
theorem wpList_append_sees {P : Program} (w : World) {ops : Array Oper} {rest : List Oper} {o : Oper} {a : Act} {Q : Exit → Act → World → Prop} (hgd : o.guard = none) (s x : Operand) (t : TypeId)
    (ho : o.op = .call { callee := .builtin .append, args := #[s, x], argTypes := #[t, t] })
    (base : Nat) (e : TypeId) (i : TypeInfo) (z : Value) (bytes : Nat) (ht : P.underlying t = some (.slice e)) (hi : P.info? e = some i) (hz : i.zero = some z)
    (hsize : i.size = 1) (hby : i.bytes = bytes) (hzs : z.cells.size = 1) (v : Value) (n : Nat) (xs : List Value) (hs : a.eval s = v) (hown : w.ownsRow base e 1 v n xs)
    (B : Nat) (A : Option Addr) (m c : Nat) (news : List Value) (hx : a.eval x = .slice A m c) (hr : Sees w B A m c news) (h1 : ∀ u ∈ news, u.oneCell' = true)
    (h63 : n + m ≤ maxLen) (hbytes : (n + m) * bytes ≤ 140737488355328) (hbase : base ≤ w.heap.size) (D : Nat) (w0 : World) (hb : Below D w0 w) (hD : D ≤ base)
    (h : ∀ A' c' w', w'.ownsRow base e 1 (.slice A' (n + m) c') (n + m) (xs ++ news) → Below D w0 w' → wpList P ops Q rest (a.put o.dst (.slice A' (n + m) c')) w') : wpList P ops Q (o :: rest) a w := by
  refine wpList_plain hgd fun K hK => ?_
  obtain ⟨A', c', w', hrun, h2, h3⟩ := run_append_sees (P := P) w base t o.type e i z bytes ht hi hz hsize hby hzs v n xs hown B A m c news hr h1 h63 hbytes hbase D w0 hb hD
  unfold Oper.wp
  simp [execOp, ho, resolve, invoke, builtin, hs, hx, hrun, Result.andThen]
  exact hK _ _ (h A' c' w' h2 h3)

theorem step_append_sees {P : Program} (w : World) {ops : Array Oper} {o : Oper} {a : Act} {K : Act → World → Prop} {Q : Exit → Act → World → Prop} {E : Prop} (hgd : o.guard = none) (s x : Operand) (t : TypeId)
    (ho : o.op = .call { callee := .builtin .append, args := #[s, x], argTypes := #[t, t] })
    (base : Nat) (e : TypeId) (i : TypeInfo) (z : Value) (bytes : Nat) (ht : P.underlying t = some (.slice e)) (hi : P.info? e = some i) (hz : i.zero = some z)
    (hsize : i.size = 1) (hby : i.bytes = bytes) (hzs : z.cells.size = 1) (v : Value) (n : Nat) (xs : List Value) (hs : a.eval s = v) (hown : w.ownsRow base e 1 v n xs)
    (B : Nat) (A : Option Addr) (m c : Nat) (news : List Value) (hx : a.eval x = .slice A m c) (hr : Sees w B A m c news) (h1 : ∀ u ∈ news, u.oneCell' = true)
    (h63 : n + m ≤ maxLen) (hbytes : (n + m) * bytes ≤ 140737488355328) (hbase : base ≤ w.heap.size) (D : Nat) (w0 : World) (hb : Below D w0 w) (hD : D ≤ base)
    (h : ∀ A' c' w', w'.ownsRow base e 1 (.slice A' (n + m) c') (n + m) (xs ++ news) → Below D w0 w' → K (a.put o.dst (.slice A' (n + m) c')) w') :
    if Region.wanted o (yielded ops a.tmps) = true then Oper.wp P o a w K Q else E := by
  have hw : Region.wanted o (yielded ops a.tmps) = true := by simp [Region.wanted, hgd]
  rw [if_pos hw]
  obtain ⟨A', c', w', hrun, h2, h3⟩ := run_append_sees (P := P) w base t o.type e i z bytes ht hi hz hsize hby hzs v n xs hown B A m c news hr h1 h63 hbytes hbase D w0 hb hD
  unfold Oper.wp
  simp [execOp, ho, resolve, invoke, builtin, hs, hx, hrun, Result.andThen]
  exact h A' c' w' h2 h3

/-- One element, in a new block of its own: the source of 'append(v, x)'. -/
theorem Sees.one (w : World) (x : Value) (t : TypeId) : Sees (w.alloc (.cells #[x] t)) (w.heap.size + 1) (some ⟨w.heap.size, 0, none⟩) 1 1 [x] :=
  ⟨rfl, Nat.le_refl _, by simp [maxLen], (fun h => by cases h), fun _ => ⟨_, _, rfl, by omega, fun j u hu => by
    have h := cell_one_new w x t j u hu
    unfold Addr.add at h
    split at h
    · next e => subst e; simpa using h
    · exact h⟩⟩

/-- The number that bytes are, the highest first. -/
def beNum (l : List UInt8) : Nat := l.foldl (fun a x => a * 256 + x.toNat) 0
theorem beNum_snoc (l : List UInt8) (x : UInt8) : beNum (l ++ [x]) = beNum l * 256 + x.toNat := by simp [beNum]
theorem foldl_lt (l : List UInt8) : ∀ a, l.foldl (fun a x => a * 256 + x.toNat) a < (a + 1) * 256 ^ l.length := by
  induction l with
  | nil => intro a; simp
  | cons x l ih =>
    intro a
    have h1 := ih (a * 256 + x.toNat)
    have h2 := x.toNat_lt
    have h3 : (a * 256 + x.toNat + 1) * 256 ^ l.length ≤ ((a + 1) * 256) * 256 ^ l.length := Nat.mul_le_mul_right _ (by omega)
    simp only [List.foldl_cons, List.length_cons, Nat.pow_succ]
    rw [Nat.mul_comm (256 ^ l.length) 256, ← Nat.mul_assoc]
    omega
theorem beNum_lt (l : List UInt8) : beNum l < 256 ^ l.length := by have := foldl_lt l 0; simpa [beNum] using this

theorem or_step (N x : Nat) (hN : N < 72057594037927936) (hx : x < 256) : bits .or .u64 ((N : Int) * 256) (x : Int) = ((N * 256 + x : Nat) : Int) := by
  have e : ((N : Int) * 256) = ((N * 256 : Nat) : Int) := by omega
  rw [e, u64_or_nat _ _ (by omega) (by omega)]
  have h := Nat.shiftLeft_add_eq_or_of_lt (b := x) (i := 8) (by omega) N
  rw [Nat.shiftLeft_eq] at h
  congr 1
  exact h.symm
theorem beNum_take {l : List UInt8} {k : Nat} (hk : k < l.length) : beNum (l.take (k + 1)) = beNum (l.take k) * 256 + l[k].toNat := by
  rw [List.take_succ_eq_append_getElem hk, beNum_snoc]
theorem beNum_take_lt (l : List UInt8) {k : Nat} (hk : k < 8) : beNum (l.take k) < 72057594037927936 := by
  have h := beNum_lt (l.take k)
  have h2 : (l.take k).length ≤ 7 := by rw [List.length_take]; omega
  have h3 : 256 ^ (l.take k).length ≤ 256 ^ 7 := Nat.pow_le_pow_right (by omega) h2
  have h4 : (256 : Nat) ^ 7 = 72057594037927936 := by decide
  omega

/-- The bytes of a number, the highest first: the first k of s. -/
def beTo (s N k : Nat) : List UInt8 := (List.range k).map fun j => UInt8.ofNat (N / 256 ^ (s - 1 - j))
def beBytes (s N : Nat) : List UInt8 := beTo s N s
theorem beTo_succ (s N k : Nat) : beTo s N (k + 1) = beTo s N k ++ [UInt8.ofNat (N / 256 ^ (s - 1 - k))] := by simp [beTo, List.range_succ]
theorem beTo_length (s N k : Nat) : (beTo s N k).length = k := by simp [beTo]

/-- 'make([]T, n, c)', elements of one cell: a new block of c cells; what they hold is not looked at. -/
theorem wpList_make_room {P : Program} (w : World) {ops : Array Oper} {rest : List Oper} {o : Oper} {a : Act} {Q : Exit → Act → World → Prop}
    (hg : o.guard = none) (l r : Operand) (t : TypeId) (hop : o.op = Op.makeSlice t l r)
    (e : TypeId) (i : TypeInfo) (z : Value) (h1 : P.underlying t = some (.slice e)) (h2 : P.info? e = some i) (h3 : i.zero = some z) (h4 : i.size = 1)
    (kl kc : IntKind) (L C : Int) (n c : Nat) (hl : a.eval l = .int kl L) (hc : a.eval r = .int kc C) (hL : L = (n : Int)) (hC : C = (c : Int)) (hnc : n ≤ c) (b2 : i.bytes * c ≤ 281474976710656) (b3 : c ≤ maxLen)
    (hK : ∀ (w1 : World) (cur : List Value), Hid (cur.length = c ∧ w1.heap[w.heap.size]? = some (.cells cur.toArray e (0, 0))) → Below w.heap.size w w1 → wpList P ops Q rest (a.put o.dst (.slice (some ⟨w.heap.size, 0, none⟩) n c)) w1) :
    wpList P ops Q (o :: rest) a w := by
  refine wpList_plain hg fun K hK' => ?_
  subst hL
  subst hC
  have hb : (i.bytes : Int) * (c : Int) ≤ 281474976710656 := by
    have h : ((i.bytes * c : Nat) : Int) ≤ 281474976710656 := by omega
    rwa [Int.natCast_mul] at h
  have hrun := run_make (P := P) w t e i z h1 h2 h3 kl kc n c (by omega) (by omega) hb (by simp only [maxLen] at b3; omega)
  simp only [Int.toNat_natCast, h4, Nat.mul_one] at hrun
  unfold Oper.wp
  simp [execOp, hop, hl, hc, hrun, Result.andThen]
  refine hK' _ _ (hK _ (madeCells z.cells c).toList ?_ ((Below.refl _ w).alloc (Nat.le_refl _) _))
  exact (show _ ∧ _ from ⟨by simp [size_madeCells], by simpa using heap_alloc_new w (.cells (madeCells z.cells c) e)⟩)

theorem ownsRow_of_block {w : World} {g base n c : Nat} {e : TypeId} {xs ys : List Value} (h : w.heap[g]? = some (.cells (xs ++ ys).toArray e (0, 0))) (hb : base ≤ g) (hx : xs.length = n) (hy : n + ys.length = c) (hc : c ≤ maxLen) :
    w.ownsRow base e 1 (.slice (some ⟨g, 0, none⟩) n c) n xs := by
  refine ⟨by simpa using hx, .inr ⟨g, c, _, rfl, hb, h, by omega, hc, by simp; omega, ?_⟩⟩
  rw [Nat.mul_one, ← hx]
  simp

theorem byte_of (N s : Int) (k : Nat) (hN : 0 ≤ N) (hk : k < s.toNat) : Value.int .u8 (N / 2 ^ (8 * (s - 1 - k)).toNat % 256) = bv (UInt8.ofNat (N.toNat / 256 ^ (s.toNat - 1 - k))) := by
  obtain ⟨M, rfl⟩ := Int.eq_ofNat_of_zero_le hN
  have e1 : (8 * (s - 1 - k)).toNat = 8 * (s.toNat - 1 - k) := by omega
  have e2 : (2 : Int) ^ (8 * (s.toNat - 1 - k)) = ((256 ^ (s.toNat - 1 - k) : Nat) : Int) := by
    rw [Int.pow_mul]; simp
  rw [e1, e2, Int.toNat_natCast, ← Int.natCast_ediv]
  unfold bv
  congr 1

theorem bv_get {l : List UInt8} {k : Nat} {u : Value} (h : (l.map bv)[k]? = some u) : ∃ hk : k < l.length, u = bv l[k] := by
  rw [List.getElem?_map] at h
  rcases Nat.lt_or_ge k l.length with hk | hk
  · rw [List.getElem?_eq_getElem hk] at h
    exact ⟨hk, by simpa using h.symm⟩
  · rw [List.getElem?_eq_none hk] at h; cases h
end Go.Proofs.YtlfkohanfeejfaaDoor

namespace Go.Proofs.YtlfkohanfeejfaaDoor

def dv : List Nat → Nat
  | [] => 0
  | x :: xs => x + 65536 * dv xs
theorem dv_append : ∀ (a b : List Nat), dv (a ++ b) = dv a + 65536 ^ a.length * dv b
  | [], b => by simp [dv]
  | x :: a, b => by
    simp only [List.cons_append, dv, dv_append a b, List.length_cons, Nat.pow_succ]
    rw [Nat.mul_add, ← Nat.mul_assoc, Nat.mul_comm 65536 (65536 ^ a.length)]
    omega
theorem dv_set : ∀ (l : List Nat) (j v : Nat) (hj : j < l.length), dv (l.set j (l[j] + v)) = dv l + v * 65536 ^ j
  | x :: l, 0, v, _ => by simp only [List.set_cons_zero, List.getElem_cons_zero, dv, Nat.pow_zero, Nat.mul_one]; omega
  | x :: l, j + 1, v, hj => by
    simp only [List.set_cons_succ, List.getElem_cons_succ, dv]
    rw [dv_set l j v (by simpa using hj), Nat.mul_add, Nat.pow_succ, ← Nat.mul_assoc v, Nat.mul_comm 65536 (v * 65536 ^ j)]
    omega
theorem dv_lt : ∀ (l : List Nat), (∀ x ∈ l, x < 65536) → dv l < 65536 ^ l.length
  | [], _ => by simp [dv]
  | x :: l, h => by
    have h1 := dv_lt l (fun y hy => h y (by simp [hy]))
    have h2 := h x (by simp)
    simp only [dv, List.length_cons, Nat.pow_succ]
    omega
theorem dv_replicate : ∀ n, dv (List.replicate n 0) = 0
  | 0 => rfl
  | n + 1 => by rw [List.replicate_succ, dv, dv_replicate n]
theorem dv_take_succ (l : List Nat) {j : Nat} (hj : j < l.length) : dv (l.take (j + 1)) = dv (l.take j) + l[j] * 65536 ^ j := by
  rw [List.take_succ_eq_append_getElem hj, dv_append, List.length_take, Nat.min_eq_left (by omega)]
  simp only [dv, Nat.mul_zero, Nat.add_zero]
  rw [Nat.mul_comm]
/-- What an upper half weighs. -/
theorem dv_half (l : List Nat) (n : Nat) : dv l = dv (l.take n) + 65536 ^ (min n l.length) * dv (l.drop n) := by
  conv => lhs; rw [← List.take_append_drop n l, dv_append, List.length_take]

def digit (n i : Nat) : Nat := n / 65536 ^ i % 65536
def digits (n k : Nat) : List Nat := (List.range k).map (digit n)
theorem digits_length (n k : Nat) : (digits n k).length = k := by simp [digits]
theorem digits_get (n k : Nat) {i : Nat} (h : i < (digits n k).length) : (digits n k)[i] = digit n i := by simp [digits]
theorem digit_lt (n i : Nat) : digit n i < 65536 := Nat.mod_lt _ (by omega)
theorem digits_lt (n k : Nat) : ∀ x ∈ digits n k, x < 65536 := fun x hx => by
  obtain ⟨i, _, rfl⟩ := List.mem_map.1 hx
  exact digit_lt n i
theorem dv_digits (n : Nat) : ∀ k, dv (digits n k) = n % 65536 ^ k
  | 0 => by simp [digits, dv, Nat.mod_one]
  | k + 1 => by
    have e : digits n (k + 1) = digits n k ++ [digit n k] := by simp [digits, List.range_succ]
    rw [e, dv_append, dv_digits n k, digits_length]
    simp only [dv, Nat.mul_zero, Nat.add_zero]
    unfold digit
    rw [Nat.pow_succ, Nat.mod_mul]

/-- What has digits below 65536 is told by its number. -/
theorem digits_dv : ∀ (l : List Nat), (∀ x ∈ l, x < 65536) → digits (dv l) l.length = l
  | [], _ => rfl
  | x :: l, h => by
    have ih := digits_dv l (fun y hy => h y (by simp [hy]))
    have h2 := h x (by simp)
    refine List.ext_getElem (by simp [digits]) fun i h1 h3 => ?_
    rw [digits_get]
    cases i with
    | zero => simp only [digit, dv, Nat.pow_zero, Nat.div_one, List.getElem_cons_zero]; omega
    | succ j =>
      have h4 : j < l.length := by simpa using h3
      have e : (digits (dv l) l.length)[j]'(by simpa [digits] using h4) = l[j] := by simp only [ih]
      rw [digits_get] at e
      simp only [List.getElem_cons_succ]
      rw [← e]
      unfold digit
      rw [dv, Nat.pow_succ, Nat.mul_comm (65536 ^ j), ← Nat.div_div_eq_div_mul, show (x + 65536 * dv l) / 65536 = dv l by omega]

/-! Carries. -/
def pass : List Nat → Nat → List Nat × Nat
  | [], c => ([], c)
  | x :: xs, c => ((x + c) % 65536 :: (pass xs ((x + c) / 65536)).1, (pass xs ((x + c) / 65536)).2)
theorem pass_length : ∀ (l : List Nat) (c : Nat), (pass l c).1.length = l.length
  | [], _ => rfl
  | x :: l, c => by simp only [pass, List.length_cons, pass_length l]
theorem pass_eq : ∀ (l : List Nat) (c : Nat), dv (pass l c).1 + 65536 ^ l.length * (pass l c).2 = dv l + c
  | [], c => by simp [pass, dv]
  | x :: l, c => by
    have ih := pass_eq l ((x + c) / 65536)
    simp only [pass, dv, List.length_cons, Nat.pow_succ]
    rw [Nat.mul_comm (65536 ^ l.length) 65536, Nat.mul_assoc]
    omega
theorem pass_lt : ∀ (l : List Nat) (c : Nat), ∀ x ∈ (pass l c).1, x < 65536
  | [], _, x, h => by cases h
  | y :: l, c, x, h => by
    simp only [pass, List.mem_cons] at h
    rcases h with rfl | h
    · exact Nat.mod_lt _ (by omega)
    · exact pass_lt l _ x h
theorem pass_snoc : ∀ (l : List Nat) (x c : Nat), pass (l ++ [x]) c = ((pass l c).1 ++ [(x + (pass l c).2) % 65536], (x + (pass l c).2) / 65536)
  | [], x, c => rfl
  | y :: l, x, c => by simp only [List.cons_append, pass, pass_snoc l x]
theorem pass_carry : ∀ (l : List Nat) (c : Nat), (∀ x ∈ l, x < 4398046511104) → c < 134217728 → (pass l c).2 < 134217728
  | [], _, _, h => h
  | x :: l, c, hl, h => by
    have h1 := hl x (by simp)
    simp only [pass]
    exact pass_carry l _ (fun y hy => hl y (by simp [hy])) (by omega)

/-- A round: the last carry goes in below, 38 times. -/
def round38 (l : List Nat) : List Nat := (pass l 0).1.set 0 ((pass l 0).1.getD 0 0 + 38 * (pass l 0).2)
theorem round38_length (l : List Nat) : (round38 l).length = l.length := by unfold round38; rw [List.length_set, pass_length]
theorem two256 : 65536 ^ 16 = 2 * PP + 38 := by decide
theorem dv_round38 {l : List Nat} (hl : l.length = 16) : dv (round38 l) = dv (pass l 0).1 + 38 * (pass l 0).2 := by
  have h0 : 0 < (pass l 0).1.length := by rw [pass_length]; omega
  have h := dv_set (pass l 0).1 0 (38 * (pass l 0).2) h0
  rw [Nat.pow_zero, Nat.mul_one] at h
  unfold round38
  rw [List.getD_eq_getElem?_getD, List.getElem?_eq_getElem h0, Option.getD_some, h]
theorem toF_round38 {l : List Nat} (hl : l.length = 16) : toF (dv (round38 l)) = toF (dv l) := by
  have h := pass_eq l 0
  rw [hl, two256] at h
  have h' : dv (pass l 0).1 + (2 * PP + 38) * (pass l 0).2 = dv l := h
  rw [dv_round38 hl, toF_eq, ← h', show (2 * PP + 38) * (pass l 0).2 = 38 * (pass l 0).2 + PP * (2 * (pass l 0).2) by
    rw [Nat.add_mul, Nat.mul_assoc, Nat.mul_left_comm]; omega, ← Nat.add_assoc, Nat.add_mul_mod_self_left]
theorem round38_lt {l : List Nat} (hx : ∀ x ∈ l, x < 4398046511104) : ∀ x ∈ round38 l, x < 4398046511104 := fun x h => by
  have hc := pass_carry l 0 hx (by omega)
  unfold round38 at h
  rcases List.mem_or_eq_of_mem_set h with h | rfl
  · have := pass_lt l 0 x h; omega
  · have : (pass l 0).1.getD 0 0 < 65536 := by
      rw [List.getD_eq_getElem?_getD]
      cases hg : (pass l 0).1[0]? with
      | none => simp
      | some y => exact pass_lt l 0 y (List.mem_of_getElem? hg)
    omega

theorem round38_small {l : List Nat} (hz : (pass l 0).2 = 0) : ∀ x ∈ round38 l, x < 65536 := fun x h => by
  unfold round38 at h
  rw [hz] at h
  rcases List.mem_or_eq_of_mem_set h with h | h
  · exact pass_lt _ 0 x h
  · rw [h, List.getD_eq_getElem?_getD]
    cases hg : (pass l 0).1[0]? with
    | none => simp
    | some y => exact pass_lt _ 0 y (List.mem_of_getElem? hg)

/-- Three rounds: all digits are below 65536, and the number is the same modulo P. -/
theorem three_rounds {l : List Nat} (hl : l.length = 16) (hx : ∀ x ∈ l, x < 4398046511104) :
    (∀ x ∈ round38 (round38 (round38 l)), x < 65536) ∧ toF (dv (round38 (round38 (round38 l)))) = toF (dv l) := by
  have l1 : (round38 l).length = 16 := by rw [round38_length, hl]
  have l2 : (round38 (round38 l)).length = 16 := by rw [round38_length, l1]
  refine ⟨?_, by rw [toF_round38 l2, toF_round38 l1, toF_round38 hl]⟩
  have c1 := pass_carry l 0 hx (by omega)
  have v1 := dv_round38 hl
  have d1 := dv_lt (pass l 0).1 (pass_lt l 0)
  rw [pass_length, hl] at d1
  have e2 := pass_eq (round38 l) 0
  rw [l1] at e2
  have v2 := dv_round38 l1
  have d2 := dv_lt (pass (round38 l) 0).1 (pass_lt _ 0)
  rw [pass_length, l1] at d2
  have e3 := pass_eq (round38 (round38 l)) 0
  rw [l2] at e3
  have hz : (pass (round38 (round38 l)) 0).2 = 0 := by
    have hp : (65536 : Nat) ^ 16 = 115792089237316195423570985008687907853269984665640564039457584007913129639936 := by decide
    rw [hp] at *
    omega
  exact round38_small hz

/-! Limbs. -/
def limb (n i : Nat) : Nat := n / 18446744073709551616 ^ i % 18446744073709551616
theorem limb_lt (n i : Nat) : limb n i < 18446744073709551616 := Nat.mod_lt _ (by omega)
def limbs (a b c d : Nat) : Nat := a + 18446744073709551616 * (b + 18446744073709551616 * (c + 18446744073709551616 * d))
theorem limbs_limb {n : Nat} (h : n < 115792089237316195423570985008687907853269984665640564039457584007913129639936) : limbs (limb n 0) (limb n 1) (limb n 2) (limb n 3) = n := by
  unfold limbs limb
  simp only [Nat.pow_zero, Nat.div_one, Nat.pow_one, show (18446744073709551616 : Nat) ^ 2 = 340282366920938463463374607431768211456 by decide, show (18446744073709551616 : Nat) ^ 3 = 6277101735386680763835789423207666416102355444464034512896 by decide]
  omega
theorem limb_limbs {a b c d : Nat} (ha : a < 18446744073709551616) (hb : b < 18446744073709551616) (hc : c < 18446744073709551616) (hd : d < 18446744073709551616) :
    limb (limbs a b c d) 0 = a ∧ limb (limbs a b c d) 1 = b ∧ limb (limbs a b c d) 2 = c ∧ limb (limbs a b c d) 3 = d := by
  unfold limbs limb
  simp only [Nat.pow_zero, Nat.div_one, Nat.pow_one, show (18446744073709551616 : Nat) ^ 2 = 340282366920938463463374607431768211456 by decide, show (18446744073709551616 : Nat) ^ 3 = 6277101735386680763835789423207666416102355444464034512896 by decide]
  refine ⟨?_, ?_, ?_, ?_⟩ <;> omega
theorem limbs_lt {a b c d : Nat} (ha : a < 18446744073709551616) (hb : b < 18446744073709551616) (hc : c < 18446744073709551616) (hd : d < 18446744073709551616) : limbs a b c d < 115792089237316195423570985008687907853269984665640564039457584007913129639936 := by
  unfold limbs; omega
end Go.Proofs.YtlfkohanfeejfaaDoor
