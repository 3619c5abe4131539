/-
  'append([]byte{}, x...)': what it makes, and what it leaves.
-/
import Derived.Test.YtppaffamlfghjaaDoorWideCells
namespace Go.Proofs.YtppaffamlfghjaaDoor
open Go.RowKit

/-- A row in a block, and a temporary. -/
theorem results_cell_tmp {P : Program} {fn : Func} {p q : Tmp} {ty : TypeId} (h : fn.results = #[.cell p ty, .tmp q]) (tmps : Array Value) (w : World) (g : Nat) (t : TypeId) (cs : Array Value) (fr : Nat × Nat) (d : TypeDesc)
    (hp : tmps.getD p undef = .pointer (some ⟨g, 0, none⟩)) (hg : w.heap[g]? = some (.cells cs t fr))
    (hu : P.underlying ty = some d) (hd : (match d with | .struct _ | .array _ _ => true | _ => false) = true) (hi : (P.info? ty).map (·.size) = some cs.size) :
    (results fn tmps).run P w = .ok (.tuple #[.agg cs, tmps.getD q undef]) w := by
  have hp' : tmps[p]?.getD undef = .pointer (some ⟨g, 0, none⟩) := by simpa using hp
  simp [results, h, hp', asAddr, run_loadVar_row w g t ty cs fr d hg hu hd hi]

theorem Sees.keepBlock {w w' : World} {B n c : Nat} {A : Option Addr} {xs : List Value} (h : Sees w B A n c xs) (hk : ∀ b o, A = some ⟨b, o, none⟩ → 0 < n → w'.heap[b]? = w.heap[b]?) : Sees w' B A n c xs :=
  ⟨h.len, h.le, h.max, h.nil, fun hn => by
    obtain ⟨b, o, e, hb, hc⟩ := h.at_ hn
    exact ⟨b, o, e, hb, fun j u hu => (cell_of_heap (p := ⟨b, o + j, none⟩) (hk b o e hn)).trans (hc j u hu)⟩⟩

theorem SeesIn.keep {w w' : World} {n c : Nat} {A : Option Addr} {xs : List Value} {X : Nat → Prop} (h : SeesIn w A n c xs X) (hs : w.heap.size ≤ w'.heap.size) (hk : ∀ b, b < w.heap.size → X b → w'.heap[b]? = w.heap[b]?) : SeesIn w' A n c xs X := by
  refine ⟨(h.1.keepBlock fun b o e hn => hk b ?_ (h.2 b o e hn)).more hs, h.2⟩
  obtain ⟨b', o', e', hb', _⟩ := h.1.at_ hn
  rw [e] at e'
  injection e' with e'
  injection e' with e1 _ _
  omega

theorem ownsRow_block {w : World} {base : Nat} {e : TypeId} {A : Option Addr} {n c : Nat} {xs : List Value} (h : w.ownsRow base e 1 (.slice A n c) n xs) {b o : Nat} (hA : A = some ⟨b, o, none⟩) : (Value.slice A n c).ownBlock = some b := by
  subst hA; rfl

theorem run_append_clone {P : Program} (w : World) (t ty e : TypeId) (i : TypeInfo) (z : Value) (ht : P.underlying t = some (.slice e)) (hi : P.info? e = some i) (hz : i.zero = some z)
    (hsize : i.size = 1) (hby : i.bytes = 1) (hzs : z.cells.size = 1) (g : Nat) (hown : w.ownsRow g e 1 (.slice (some ⟨g, 0, none⟩) 0 0) 0 [])
    (A : Option Addr) (m c : Nat) (news : List Value) (hr : Sees w w.heap.size A m c news) (h1 : ∀ u ∈ news, u.oneCell' = true) (hm : m ≤ 2147483647) (hg : g ≤ w.heap.size) :
    ∃ A' c' w', (Builtin.append_ #[t, t] ty #[.slice (some ⟨g, 0, none⟩) 0 0, .slice A m c]).run P w = .ok (.slice A' m c') w' ∧ SeesIn w' A' m c' news (fun b => b = g ∨ w.heap.size ≤ b) ∧ (∀ k, k < w.heap.size → k ≠ g → w'.heap[k]? = w.heap[k]?) ∧ Below g w w' := by
  cases A with
  | none =>
    have hc := hr.nil rfl
    have hm : m = 0 := by have := hr.le; omega
    subst hc; subst hm
    have hn : news = [] := List.eq_nil_of_length_eq_zero hr.len
    subst hn
    exact ⟨_, _, w, run_append_owned_none w g t ty e i 1 ht hi _ 0 [] hown, ⟨⟨rfl, Nat.le_refl _, by simp [maxLen], (fun h => by cases h), fun h => absurd h (by omega)⟩, fun _ _ _ h => absurd h (by omega)⟩, fun _ _ _ => rfl, Below.refl _ _⟩
  | some ad =>
    have hsrc : ∀ j u, news[j]? = some u → w.cell? (ad.add j) = some u := by
      intro j u hu
      have hp : 0 < news.length := by
        rcases Nat.eq_zero_or_pos news.length with h0 | h0
        · rw [List.eq_nil_of_length_eq_zero h0] at hu; simp at hu
        · exact h0
      obtain ⟨ad', e, hc⟩ := hr.src hp
      injection e with e
      subst e
      exact hc j u hu
    obtain ⟨v', w', hrun, h2, h3, _, h5⟩ := run_append_own_at (P := P) w g t ty e i z 1 1 ht hi hz hsize hby hzs (by omega) (.slice (some ⟨g, 0, none⟩) 0 0) 0 [] hown ad m c news (by rw [hr.len, Nat.mul_one]) hsrc h1 (by simp only [maxLen]; omega) (by omega) hg
    simp only [Nat.zero_add, List.nil_append] at h2
    obtain ⟨A', c', rfl⟩ := ownsRow_slice h2
    refine ⟨A', c', w', hrun, ⟨Sees.of_own h2, fun b o hA hn => ?_⟩, fun k hk hkg => h3.block k hk (fun e => hkg (Option.some.inj (show some k = some g from e))), (Below.refl g w).grown h3 hg (fun k e => by have e1 : g = k := Option.some.inj (show some g = some k from e); omega)⟩
    subst hA
    rcases h5 with h5 | h5
    · left; injection h5
    · right; injection h5 with h5; exact Nat.le_of_eq h5.symm

/-- 'append([]byte{}, x...)' at a plain list. -/
theorem wpList_append_clone {P : Program} (w : World) {ops : Array Oper} {rest : List Oper} {o : Oper} {a : Act} {Q : Exit → Act → World → Prop} (hgd : o.guard = none) (s x : Operand) (t : TypeId)
    (ho : o.op = .call { callee := .builtin .append, args := #[s, x], argTypes := #[t, t] })
    (e : TypeId) (i : TypeInfo) (z : Value) (ht : P.underlying t = some (.slice e)) (hi : P.info? e = some i) (hz : i.zero = some z)
    (hsize : i.size = 1) (hby : i.bytes = 1) (hzs : z.cells.size = 1) (g : Nat) (hs : a.eval s = .slice (some ⟨g, 0, none⟩) 0 0) (hown : w.ownsRow g e 1 (.slice (some ⟨g, 0, none⟩) 0 0) 0 [])
    (A : Option Addr) (m c : Nat) (news : List Value) (hx : a.eval x = .slice A m c) (hr : Sees w w.heap.size A m c news) (h1 : ∀ u ∈ news, u.oneCell' = true) (hm : m ≤ 2147483647) (hg : g ≤ w.heap.size)
    (h : ∀ A' c' w', SeesIn w' A' m c' news (fun b => b = g ∨ w.heap.size ≤ b) → (∀ k, k < w.heap.size → k ≠ g → w'.heap[k]? = w.heap[k]?) → Below g w w' → wpList P ops Q rest (a.put o.dst (.slice A' m c')) w') : wpList P ops Q (o :: rest) a w := by
  refine wpList_plain hgd fun K hK => ?_
  obtain ⟨A', c', w', hrun, h2, h3, h4⟩ := run_append_clone (P := P) w t o.type e i z ht hi hz hsize hby hzs g hown A m c news hr h1 hm hg
  unfold Oper.wp
  simp [execOp, ho, resolve, invoke, builtin, hs, hx, hrun, Result.andThen]
  exact hK _ _ (h A' c' w' h2 h3 h4)

/-- The same at a step of a region that draws its order. -/
theorem step_append_clone {P : Program} (w : World) {ops : Array Oper} {o : Oper} {a : Act} {K : Act → World → Prop} {Q : Exit → Act → World → Prop} {E : Prop} (hgd : o.guard = none) (s x : Operand) (t : TypeId)
    (ho : o.op = .call { callee := .builtin .append, args := #[s, x], argTypes := #[t, t] })
    (e : TypeId) (i : TypeInfo) (z : Value) (ht : P.underlying t = some (.slice e)) (hi : P.info? e = some i) (hz : i.zero = some z)
    (hsize : i.size = 1) (hby : i.bytes = 1) (hzs : z.cells.size = 1) (g : Nat) (hs : a.eval s = .slice (some ⟨g, 0, none⟩) 0 0) (hown : w.ownsRow g e 1 (.slice (some ⟨g, 0, none⟩) 0 0) 0 [])
    (A : Option Addr) (m c : Nat) (news : List Value) (hx : a.eval x = .slice A m c) (hr : Sees w w.heap.size A m c news) (h1 : ∀ u ∈ news, u.oneCell' = true) (hm : m ≤ 2147483647) (hg : g ≤ w.heap.size)
    (h : ∀ A' c' w', SeesIn w' A' m c' news (fun b => b = g ∨ w.heap.size ≤ b) → (∀ k, k < w.heap.size → k ≠ g → w'.heap[k]? = w.heap[k]?) → Below g w w' → K (a.put o.dst (.slice A' m c')) w') :
    if Region.wanted o (yielded ops a.tmps) = true then Oper.wp P o a w K Q else E := by
  have hw : Region.wanted o (yielded ops a.tmps) = true := by simp [Region.wanted, hgd]
  rw [if_pos hw]
  obtain ⟨A', c', w', hrun, h2, h3, h4⟩ := run_append_clone (P := P) w t o.type e i z ht hi hz hsize hby hzs g hown A m c news hr h1 hm hg
  unfold Oper.wp
  simp [execOp, ho, resolve, invoke, builtin, hs, hx, hrun, Result.andThen]
  exact h A' c' w' h2 h3 h4

/-- 'r = h' at a step. -/
theorem step_store_h {P : Program} {ops : Array Oper} {o : Oper} {a : Act} {w : World} {K : Act → World → Prop} {Q : Exit → Act → World → Prop} {E : Prop} (hgd : o.guard = none) (x y : Operand) (ho : o.op = .store 45 x y)
    (g : Nat) (s : St) (A : Option Addr) (n c m : Nat) (hx : a.eval x = .pointer (some ⟨g, 0, none⟩)) (hy : a.eval y = hv s A n c m)
    (s0 : St) (A0 : Option Addr) (n0 c0 m0 : Nat) (hg : HoldsH w g s0 A0 n0 c0 m0) (hi : (P.info? 45).map (·.size) = some 10) (D : Nat) (w0 : World) (hb : Below D w0 w) (hD : D ≤ g)
    (h : ∀ w' : World, HoldsH w' g s A n c m → (∀ k, k ≠ g → w'.heap[k]? = w.heap[k]?) → w'.heap.size = w.heap.size → Below D w0 w' → K (a.put o.dst undef) w') :
    if Region.wanted o (yielded ops a.tmps) = true then Oper.wp P o a w K Q else E := by
  have hw : Region.wanted o (yielded ops a.tmps) = true := by simp [Region.wanted, hgd]
  rw [if_pos hw]
  exact wp_store_row _ x y ho g _ hx hy _ _ hg (by rw [hi]; rfl) rfl (by simp [Value.oneCell'])
    (h _ (show _ = _ from setRow_heap w g _ _ _ _ hg) (fun k hk => setRow_other w g k _ hk) (by simp) (below_setRow hb hD _))
end Go.Proofs.YtppaffamlfghjaaDoor
