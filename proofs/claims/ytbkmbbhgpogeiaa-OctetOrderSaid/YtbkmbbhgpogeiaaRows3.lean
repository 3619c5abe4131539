/-
  Rows of texts that the call owns: appending a text.
-/
import Derived.Test.YtbkmbbhgpogeiaaRows2
import Derived.RegionTactic
namespace Go.Proofs.Ytbkmbbhgpogeiaa
open Go.RowKit

theorem ownsRow_weaken {w : World} {base base' : Nat} {e : TypeId} {size : Nat} {v : Value} {n : Nat} {xs : List Value} (h : w.ownsRow base e size v n xs) (hb : base' ≤ base) : w.ownsRow base' e size v n xs := by
  obtain ⟨h1, h2⟩ := h
  refine ⟨h1, ?_⟩
  rcases h2 with h2 | ⟨g, cap, cur, e1, hg, rest⟩
  · exact .inl h2
  · exact .inr ⟨g, cap, cur, e1, by omega, rest⟩

/-- What is owned stays, where only what lies below its base, or another block, has turned. -/
theorem ownsRow_below {w w' : World} {base D : Nat} {e : TypeId} {size : Nat} {v : Value} {n : Nat} {xs : List Value} (h : w.ownsRow base e size v n xs) (hb : Below D w w') (hD : w.heap.size ≤ D) : w'.ownsRow base e size v n xs := by
  obtain ⟨h1, h2⟩ := h
  refine ⟨h1, ?_⟩
  rcases h2 with h2 | ⟨g, cap, cur, e1, hg, hh, rest⟩
  · exact .inl h2
  · refine .inr ⟨g, cap, cur, e1, hg, ?_, rest⟩
    have hlt : g < w.heap.size := by
      rcases Nat.lt_or_ge g w.heap.size with h | h
      · exact h
      · rw [Array.getElem?_eq_none h] at hh; cases hh
    rw [hb.block g (by omega)]; exact hh

/-- Rows of unlike element types lie in unlike blocks. -/
theorem own_ne {w : World} {b1 b2 : Nat} {e1 e2 : TypeId} {s1 s2 : Nat} {v1 v2 : Value} {n1 n2 : Nat} {x1 x2 : List Value} (h1 : w.ownsRow b1 e1 s1 v1 n1 x1) (h2 : w.ownsRow b2 e2 s2 v2 n2 x2) (hne : e1 ≠ e2) :
    v1.ownBlock = none ∨ v1.ownBlock ≠ v2.ownBlock := by
  rcases h1.2 with ⟨rfl, _⟩ | ⟨g, cap, cur, rfl, _, hg, _⟩
  · exact .inl rfl
  · right
    rcases h2.2 with ⟨rfl, _⟩ | ⟨g', cap', cur', rfl, _, hg', _⟩
    · simp [Value.ownBlock]
    · intro e
      have e' : g = g' := by simpa [Value.ownBlock] using e
      subst e'
      rw [hg] at hg'
      injection hg' with hg'
      injection hg' with _ ht
      exact hne ht

/-- The slice (A, n, c) is a row of the call's own, from base on, and holds the texts ls, each a row of the call's own. -/
def OwnsL (ts tb : TypeId) (w : World) (base : Nat) (A : Option Addr) (n c : Nat) (ls : List (List UInt8)) : Prop :=
  ∃ vs : List Value, w.ownsRow base ts 1 (.slice A n c) n vs ∧ ls.length = n ∧ ∀ (i : Nat) (v : Value) (l : List UInt8), vs[i]? = some v → ls[i]? = some l → ∃ (Ai : Option Addr) (ci : Nat), v = .slice Ai l.length ci ∧ w.ownsRow base tb 1 (.slice Ai l.length ci) l.length (l.map bv)

section
variable {ts tb : TypeId} {w w' : World} {base n c : Nat} {A : Option Addr} {ls : List (List UInt8)}

theorem OwnsL.sees (h : OwnsL ts tb w base A n c ls) : SeesL w w.heap.size A n c ls := by
  obtain ⟨vs, ho, hl, hi⟩ := h
  refine ⟨vs, Sees.of_own ho, ?_, fun i v l h1 h2 => ?_⟩
  · have := ho.1; omega
  · obtain ⟨Ai, ci, e, h3⟩ := hi i v l h1 h2
    exact ⟨Ai, ci, e, Sees.of_own h3⟩

theorem OwnsL.nil (w : World) (base : Nat) : OwnsL ts tb w base none 0 0 [] :=
  ⟨[], World.ownsRow_nil _ _ _ _, rfl, fun i v l h _ => by simp at h⟩

theorem OwnsL.below {D : Nat} (h : OwnsL ts tb w base A n c ls) (hb : Below D w w') (hD : w.heap.size ≤ D) : OwnsL ts tb w' base A n c ls := by
  obtain ⟨vs, ho, hl, hi⟩ := h
  refine ⟨vs, ownsRow_below ho hb hD, hl, fun i v l h1 h2 => ?_⟩
  obtain ⟨Ai, ci, e, h3⟩ := hi i v l h1 h2
  exact ⟨Ai, ci, e, ownsRow_below h3 hb hD⟩

theorem OwnsL.alloc (h : OwnsL ts tb w base A n c ls) (o : Obj) : OwnsL ts tb (w.alloc o) base A n c ls := h.below ((Below.refl _ w).alloc (Nat.le_refl _) o) (Nat.le_refl _)
theorem OwnsL.drewN (h : OwnsL ts tb w base A n c ls) (k : Nat) : OwnsL ts tb (w.drewN k) base A n c ls := h.below (below_drewN (Below.refl _ w) k) (Nat.le_refl _)
theorem OwnsL.drew (h : OwnsL ts tb w base A n c ls) : OwnsL ts tb w.drew base A n c ls := h.below (Below.refl _ w).drew (Nat.le_refl _)

/-- Only the block 'row' has turned, and it holds no cells of these two types, or is no cells at all. -/
theorem OwnsL.kept {row : Option Nat} (h : OwnsL ts tb w base A n c ls) (hg : w.grownBy w' row) (hr : ∀ k, row = some k → ∀ cur fr, w.heap[k]? ≠ some (.cells cur ts fr) ∧ w.heap[k]? ≠ some (.cells cur tb fr)) : OwnsL ts tb w' base A n c ls := by
  have hk : ∀ {e : TypeId} {v : Value} {m : Nat} {xs : List Value}, (e = ts ∨ e = tb) → w.ownsRow base e 1 v m xs → w'.ownsRow base e 1 v m xs := by
    intro e v m xs he ho
    refine ho.kept hg ?_
    rcases ho.2 with ⟨rfl, _⟩ | ⟨g, cap, cur, rfl, _, hh, _⟩
    · exact .inl rfl
    · right
      intro e1
      have e2 : row = some g := by simpa [Value.ownBlock] using e1.symm
      rcases he with rfl | rfl
      · exact (hr g e2 cur (0, 0)).1 hh
      · exact (hr g e2 cur (0, 0)).2 hh
  obtain ⟨vs, ho, hl, hi⟩ := h
  refine ⟨vs, hk (.inl rfl) ho, hl, fun i v l h1 h2 => ?_⟩
  obtain ⟨Ai, ci, e, h3⟩ := hi i v l h1 h2
  exact ⟨Ai, ci, e, hk (.inr rfl) h3⟩
end

theorem run_append_ownL {P : Program} (w : World) (base : Nat) (t ty ts tb : TypeId) (i : TypeInfo) (z : Value) (bytes : Nat) (ht : P.underlying t = some (.slice ts)) (hi : P.info? ts = some i) (hz : i.zero = some z)
    (hsize : i.size = 1) (hby : i.bytes = bytes) (hzs : z.cells.size = 1) (hne : tb ≠ ts) (A : Option Addr) (n c : Nat) (ls : List (List UInt8)) (hown : OwnsL ts tb w base A n c ls)
    (Ai : Option Addr) (m ci : Nat) (l : List UInt8) (hm : l.length = m) (hel : w.ownsRow base tb 1 (.slice Ai m ci) m (l.map bv))
    (g1 cs : Nat) (hsrc : w.cell? ⟨g1, 0, none⟩ = some (.slice Ai m ci))
    (h63 : n + 1 ≤ maxLen) (hbytes : (n + 1) * bytes ≤ 140737488355328) (hbase : base ≤ w.heap.size) (D : Nat) (w0 : World) (hb : Below D w0 w) (hD : D ≤ base) :
    ∃ A' c' w', (Builtin.append_ #[t, t] ty #[.slice A n c, .slice (some ⟨g1, 0, none⟩) 1 cs]).run P w = .ok (.slice A' (n + 1) c') w' ∧ OwnsL ts tb w' base A' (n + 1) c' (ls ++ [l]) ∧ Below D w0 w' ∧ w.grownBy w' (Value.slice A n c).ownBlock := by
  subst hm
  obtain ⟨vs, ho, hl, hall⟩ := hown
  obtain ⟨v', w', hrun, h2, h3, _, _⟩ := run_append_own_at (P := P) w base t ty ts i z 1 bytes ht hi hz hsize hby hzs (by omega) _ n vs ho ⟨g1, 0, none⟩ 1 cs [.slice Ai l.length ci] rfl
    (fun j u hu => by
      match j, hu with
      | 0, hu => simp at hu; subst hu; exact hsrc
      | j + 1, hu => simp at hu) (by intro u hu; simp at hu; subst hu; rfl) h63 hbytes hbase
  obtain ⟨A', c', rfl⟩ := ownsRow_slice h2
  refine ⟨A', c', w', hrun, ⟨_, h2, by simp; omega, fun j v l' h4 h5 => ?_⟩, hb.grown h3 (by omega) (fun k e => by have := (ho.lt k e).1; omega), h3⟩
  have hvl : vs.length = n := by have := ho.1; omega
  rcases Nat.lt_or_ge j n with hj | hj
  · rw [List.getElem?_append_left (by omega)] at h4 h5
    obtain ⟨Aj, cj, e, h6⟩ := hall j v l' h4 h5
    exact ⟨Aj, cj, e, h6.kept h3 (own_ne h6 ho hne)⟩
  · rw [List.getElem?_append_right (by omega)] at h4 h5
    have hj0 : j - vs.length = 0 := by
      rcases Nat.eq_zero_or_pos (j - vs.length) with h | h
      · exact h
      · rw [List.getElem?_eq_none (by simp; omega)] at h4; cases h4
    have hj1 : j - ls.length = 0 := by omega
    rw [hj0] at h4
    rw [hj1] at h5
    simp at h4 h5
    subst h4 h5
    exact ⟨Ai, ci, rfl, hel.kept h3 (own_ne hel ho hne)⟩

theorem wpList_append_ownL {P : Program} (w : World) {ops : Array Oper} {rest : List Oper} {o : Oper} {a : Act} {Q : Exit → Act → World → Prop} (hgd : o.guard = none) (s x : Operand) (t : TypeId)
    (ho : o.op = .call { callee := .builtin .append, args := #[s, x], argTypes := #[t, t] })
    (base : Nat) (ts tb : TypeId) (i : TypeInfo) (z : Value) (bytes : Nat) (ht : P.underlying t = some (.slice ts)) (hi : P.info? ts = some i) (hz : i.zero = some z)
    (hsize : i.size = 1) (hby : i.bytes = bytes) (hzs : z.cells.size = 1) (hne : tb ≠ ts) (A : Option Addr) (n c : Nat) (ls : List (List UInt8)) (hs : a.eval s = .slice A n c) (hown : OwnsL ts tb w base A n c ls)
    (Ai : Option Addr) (m ci : Nat) (l : List UInt8) (hm : l.length = m) (hel : w.ownsRow base tb 1 (.slice Ai m ci) m (l.map bv))
    (g1 cs : Nat) (hx : a.eval x = .slice (some ⟨g1, 0, none⟩) 1 cs) (hsrc : w.cell? ⟨g1, 0, none⟩ = some (.slice Ai m ci))
    (h63 : n + 1 ≤ maxLen) (hbytes : (n + 1) * bytes ≤ 140737488355328) (hbase : base ≤ w.heap.size) (D : Nat) (w0 : World) (hb : Below D w0 w) (hD : D ≤ base)
    (h : ∀ A' c' w', OwnsL ts tb w' base A' (n + 1) c' (ls ++ [l]) → Below D w0 w' → w.grownBy w' (Value.slice A n c).ownBlock → wpList P ops Q rest (a.put o.dst (.slice A' (n + 1) c')) w') : wpList P ops Q (o :: rest) a w := by
  refine wpList_plain hgd fun K hK => ?_
  obtain ⟨A', c', w', hrun, h2, h3, h4⟩ := run_append_ownL (P := P) w base t o.type ts tb i z bytes ht hi hz hsize hby hzs hne A n c ls hown Ai m ci l hm hel g1 cs hsrc h63 hbytes hbase D w0 hb hD
  unfold Oper.wp
  simp [execOp, ho, resolve, invoke, builtin, hs, hx, hrun, Result.andThen]
  exact hK _ _ (h A' c' w' h2 h3 h4)

theorem own_block {w : World} {base : Nat} {e : TypeId} {size : Nat} {v : Value} {n : Nat} {xs : List Value} (h : w.ownsRow base e size v n xs) : ∀ k, v.ownBlock = some k → base ≤ k ∧ ∃ cur, w.heap[k]? = some (.cells cur e (0, 0)) := by
  intro k hk
  rcases h.2 with ⟨rfl, _⟩ | ⟨g, cap, cur, rfl, hb, hg, _⟩
  · simp [Value.ownBlock] at hk
  · have e1 : g = k := by simpa [Value.ownBlock] using hk
    subst e1
    exact ⟨hb, cur, hg⟩

/-- A slice of bytes that came in (below base), or that lies in a row of bytes. -/
def SeesT (tb : TypeId) (base : Nat) (w : World) (A : Option Addr) (n c : Nat) (xs : List Value) : Prop :=
  Sees w w.heap.size A n c xs ∧ ∀ b o, A = some ⟨b, o, none⟩ → 0 < n → (b < base ∨ ∃ cur, w.heap[b]? = some (.cells cur tb (0, 0)))

section
variable {tb ts : TypeId} {base n c : Nat} {w w' : World} {A : Option Addr} {xs : List Value}

theorem SeesT.of_arg {B : Nat} (h : Sees w B A n c xs) (hB : B ≤ base) (hb : base ≤ w.heap.size) : SeesT tb base w A n c xs :=
  ⟨h.more (by omega), fun b o e hn => by
    obtain ⟨b', o', e', hlt, _⟩ := h.at_ hn
    rw [e] at e'
    injection e' with e'
    injection e' with e1
    exact .inl (by omega)⟩

theorem SeesT.of_own {bs : Nat} (h : w.ownsRow bs tb 1 (.slice A n c) n xs) : SeesT tb base w A n c xs :=
  ⟨Sees.of_own h, fun b o e _ => by
    subst e
    exact .inr (own_block h b rfl).2⟩

theorem SeesT.drop (h : SeesT tb base w A n c xs) {k : Nat} (hk : k ≤ n) : SeesT tb base w (if c = k then A else A.map (·.add k)) (n - k) (c - k) (xs.drop k) := by
  refine ⟨h.1.drop hk, fun b o e hn => ?_⟩
  obtain ⟨b', o', e', hlt, _⟩ := h.1.at_ (by omega)
  have hle := h.1.le
  rw [if_neg (by omega), e'] at e
  have hb : b' = b := by
    simp only [Option.map_some, Option.some.injEq, Addr.add] at e
    split at e
    · injection e
    · injection e
  subst hb
  exact h.2 _ _ e' (by omega)

theorem SeesT.below {D : Nat} (h : SeesT tb base w A n c xs) (hb : Below D w w') (hD : w.heap.size ≤ D) : SeesT tb base w' A n c xs := by
  refine ⟨(h.1.upTo hb hD).more (hb.size), fun b o e hn => ?_⟩
  obtain ⟨b', o', e', hlt, _⟩ := h.1.at_ hn
  rw [e] at e'
  injection e' with e'
  injection e' with e1
  rcases h.2 b o e hn with h1 | ⟨cur, h1⟩
  · exact .inl h1
  · exact .inr ⟨cur, (hb.block b (by omega)).trans h1⟩

theorem SeesT.kept {row : Option Nat} (h : SeesT tb base w A n c xs) (hg : w.grownBy w' row) (hne : tb ≠ ts) (hr : ∀ k, row = some k → base ≤ k ∧ ∃ cur, w.heap[k]? = some (.cells cur ts (0, 0))) : SeesT tb base w' A n c xs := by
  have hk : ∀ b o, A = some ⟨b, o, none⟩ → 0 < n → w'.heap[b]? = w.heap[b]? := by
    intro b o e hn
    obtain ⟨b', o', e', hlt, _⟩ := h.1.at_ hn
    rw [e] at e'
    injection e' with e'
    injection e' with e1
    refine hg.block b (by omega) (fun er => ?_)
    obtain ⟨h1, cur, h2⟩ := hr b er.symm
    rcases h.2 b o e hn with h3 | ⟨cur', h3⟩
    · omega
    · rw [h2] at h3
      injection h3 with h3
      injection h3 with _ h4
      exact hne h4.symm
  refine ⟨⟨h.1.len, h.1.le, h.1.max, h.1.nil, fun hn => ?_⟩, fun b o e hn => ?_⟩
  · obtain ⟨b, o, e, hlt, hc⟩ := h.1.at_ hn
    exact ⟨b, o, e, Nat.lt_of_lt_of_le hlt hg.size, fun j u hu => (World.cell?_of_block (a := ⟨b, o + j, none⟩) (hk b o e hn)).trans (hc j u hu)⟩
  · rcases h.2 b o e hn with h1 | ⟨cur, h1⟩
    · exact .inl h1
    · exact .inr ⟨cur, (hk b o e hn).trans h1⟩

theorem OwnsL.rows {ls : List (List UInt8)} (h : OwnsL ts tb w base A n c ls) : ∀ k, (Value.slice A n c).ownBlock = some k → base ≤ k ∧ ∃ cur, w.heap[k]? = some (.cells cur ts (0, 0)) := by
  obtain ⟨vs, ho, _⟩ := h
  exact own_block ho
end
end Go.Proofs.Ytbkmbbhgpogeiaa
