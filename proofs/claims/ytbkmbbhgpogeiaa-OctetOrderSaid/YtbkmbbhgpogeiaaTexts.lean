/-
  octet.Texts.
-/
import Derived.Test.YtbkmbbhgpogeiaaIter
import Derived.Test.YtbkmbbhgpogeiaaRefTexts
namespace Go.Proofs.Ytbkmbbhgpogeiaa
open Go.RowKit Go.Shelf
attribute [local go_sem] Oper.semAt_some

/-- An append, under a name that the walk does not open: what it comes to is laid in the context. -/
def appendVeil (ts : Array TypeId) (ty : TypeId) (xs : Array Value) : Sem Value := Builtin.append_ ts ty xs
theorem append_veil (ts : Array TypeId) (ty : TypeId) (xs : Array Value) : Builtin.append_ ts ty xs = appendVeil ts ty xs := rfl
attribute [local go_sem ↓] append_veil

theorem Boxed_keptL {W W' : World} {B : Nat} {t ts tb : TypeId} {v : Value} {base n c : Nat} {A : Option Addr} {ls : List (List UInt8)} (h : Boxed W B t v) (hte : t ≠ ts) (ho : OwnsL ts tb W base A n c ls) (hg : W.grownBy W' (Value.slice A n c).ownBlock) : Boxed W' B t v := by
  obtain ⟨vs, hr, _⟩ := ho
  exact h.kept hg (h.not_row hte hr)

theorem KeepsOthers_of_below {W W' : World} (hb : Below W.heap.size W W') : KeepsOthers W W' :=
  ⟨hb.size, fun k _ hk _ => (hb.block k (Array.getElem?_eq_some_iff.1 hk).1).trans hk⟩

theorem OwnsL_setBox {W : World} {B : Nat} {t ts tb : TypeId} {v : Value} {base n c : Nat} {A : Option Addr} {ls : List (List UInt8)} (ho : OwnsL ts tb W base A n c ls) (h : Boxed W B t v) (h1 : t ≠ ts) (h2 : t ≠ tb) (u : Value) : OwnsL ts tb (W.setCell ⟨B, 0, none⟩ u) base A n c ls :=
  ho.kept (grownBy_setCell' W B u) (fun k e cur fr => by
    injection e with e
    subst e
    rw [show W.heap[B]? = _ from h]
    refine ⟨fun e => ?_, fun e => ?_⟩
    · injection e with e
      injection e with _ e
      exact h1 e
    · injection e with e
      injection e with _ e
      exact h2 e)

theorem OwnsL_rowOther {W W' : World} {row : Option Nat} {ts tb : TypeId} {base n c : Nat} {A : Option Addr} {ls : List (List UInt8)} (ho : OwnsL ts tb W base A n c ls) (hg : W.grownBy W' row) (hr : ∀ r, row = some r → ∃ o : Obj, W.heap[r]? = some o ∧ o.isCells = false) : OwnsL ts tb W' base A n c ls :=
  ho.kept hg (fun k e cur fr => by
    obtain ⟨o, h1, h2⟩ := hr k e
    rw [h1]
    refine ⟨fun e => ?_, fun e => ?_⟩ <;> (injection e with e; subst e; cases h2))

theorem Boxed_rowOther {W W' : World} {row : Option Nat} {B : Nat} {t : TypeId} {v : Value} (h : Boxed W B t v) (hg : W.grownBy W' row) (hr : ∀ r, row = some r → ∃ o : Obj, W.heap[r]? = some o ∧ o.isCells = false) : Boxed W' B t v :=
  h.kept hg (fun e => by
    obtain ⟨o, h1, h2⟩ := hr B e.symm
    rw [show W.heap[B]? = _ from h] at h1
    injection h1 with h1
    subst h1
    cases h2)

theorem wpInW_scope {P : Program} {c : Code} {n : Nat} {Q : Exit → Act → World → Prop} {a : Act} {w : World} (h : c.wpIn Fence.wide n P (Exit.noGoto Q) a w) : (Code.scope c).wpIn Fence.wide n P Q a w :=
  wpIn_wide.2 (wp_scope_straight (wpIn_wide.1 h))

/-- Between two rounds: the texts that have come stand in the one box, no error in the other. -/
def TextsI (w : World) (n₀ : Nat) (pre : List (Piece w n₀)) (W : World) : Prop :=
  (∀ x ∈ pre, x.whole = true) ∧ (∃ A2 c2, Boxed W w.heap.size 31 (.slice A2 pre.length c2) ∧ OwnsL 22 5 W w.heap.size A2 pre.length c2 (pre.map (·.l))) ∧ Boxed W (w.heap.size + 1) 25 (.int .i64 0) ∧ Below w.heap.size w W

/-- Left at an end within a text: none, and the error. -/
def TextsX (w : World) (n₀ : Nat) (c : Code) (pre : List (Piece w n₀)) (W : World) : Prop :=
  c = .exit 0 ∧ (∃ pre' x, pre = pre' ++ [x] ∧ x.whole = false) ∧ Boxed W w.heap.size 31 (.slice none 0 0) ∧ Boxed W (w.heap.size + 1) 25 (.int .i64 10) ∧ Below w.heap.size w W

theorem TextsI_own (w : World) (n₀ B : Nat) (hB : w.heap.size ≤ B) : OwnFrom B (TextsI w n₀) := by
  rintro s W W' row ⟨h1, ⟨A2, c2, h2, h3⟩, h4, h5⟩ hg hr
  have hr' := fun r e => (hr r e).2
  exact ⟨h1, ⟨A2, c2, Boxed_rowOther h2 hg hr', OwnsL_rowOther h3 hg hr'⟩, Boxed_rowOther h4 hg hr', h5.grown hg h5.size (fun k e => Nat.le_trans hB (hr k e).1)⟩

theorem TextsX_own (w : World) (n₀ B : Nat) (hB : w.heap.size ≤ B) (c : Code) : OwnFrom B (TextsX w n₀ c) := by
  rintro s W W' row ⟨h0, h1, h2, h4, h5⟩ hg hr
  have hr' := fun r e => (hr r e).2
  exact ⟨h0, h1, Boxed_rowOther h2 hg hr', Boxed_rowOther h4 hg hr', h5.grown hg h5.size (fun k e => Nat.le_trans hB (hr k e).1)⟩

/-- What a round that goes on leaves. -/
theorem texts_step {w W w5 w6 : World} {n₀ B : Nat} {A2 A6 : Option Addr} {c2 c6 : Nat} {pre : List (Piece w n₀)} {x : Piece w n₀} (hx : x.whole = true) (hwh : ∀ y ∈ pre, y.whole = true) (hb5 : Below W.drew.heap.size W.drew w5) (o : Obj)
    (ho5 : OwnsL 22 5 w5 w.heap.size A2 pre.length c2 (pre.map (·.l))) (hg6 : (w5.alloc o).grownBy w6 (Value.slice A2 pre.length c2).ownBlock) (hown6 : OwnsL 22 5 w6 w.heap.size A6 (pre.length + 1) c6 (pre.map (·.l) ++ [x.l]))
    (bL6 : Boxed w6 w.heap.size 31 (.slice A2 pre.length c2)) (bE6 : Boxed w6 (w.heap.size + 1) 25 (.int .i64 0)) (hbW : Below w.heap.size w W) (hb6 : Below w.heap.size w w6) :
    KeepsFrom B W (w6.setCell ⟨w.heap.size, 0, none⟩ (.slice A6 (pre.length + 1) c6)) ∧ Below w.heap.size W (w6.setCell ⟨w.heap.size, 0, none⟩ (.slice A6 (pre.length + 1) c6)) ∧ TextsI w n₀ (pre ++ [x]) (w6.setCell ⟨w.heap.size, 0, none⟩ (.slice A6 (pre.length + 1) c6)) := by
  have hrow : ∀ k, (Value.slice A2 pre.length c2).ownBlock = some k → w.heap.size ≤ k ∧ ∃ cur, (w5.alloc o).heap[k]? = some (.cells cur 22 (0, 0)) := (ho5.alloc o).rows
  have hW5 : Below w.heap.size W w5 := ((Below.refl _ W).drew).trans (hb5.mono hbW.size)
  refine ⟨?_, ?_, ?_, ⟨A6, c6, ?_, ?_⟩, ?_, ?_⟩
  · refine KeepsOthers.from ((((KeepsOthers.drew W).trans (KeepsOthers_of_below hb5)).trans (KeepsOthers.alloc w5 o)).trans ((KeepsOthers.of_grownBy hg6 fun j o' ej hj => ?_).trans (KeepsOthers.setCell _ _ _))) B
    obtain ⟨_, cur, h⟩ := hrow j ej
    rw [h] at hj
    cases hj
    rfl
  · exact ((hW5.alloc (Nat.le_trans hbW.size hW5.size) o).grown hg6 (by have := hbW.size; have := hW5.size; simp; omega) (fun k e => (hrow k e).1)).setCell (p := ⟨w.heap.size, 0, none⟩) (Nat.le_refl _) _
  · intro y hy
    rcases List.mem_append.1 hy with hy | hy
    · exact hwh y hy
    · rw [List.mem_singleton.1 hy]; exact hx
  · have h := bL6.set (.slice A6 (pre.length + 1) c6)
    rw [List.length_append, List.length_singleton]
    exact h
  · rw [List.length_append, List.length_singleton, List.map_append]
    exact OwnsL_setBox hown6 bL6 (by decide) (by decide) _
  · exact bE6.other (by omega) _
  · exact hb6.setCell (p := ⟨w.heap.size, 0, none⟩) (Nat.le_refl _) _

set_option maxRecDepth 100000 in
set_option maxHeartbeats 2000000 in
theorem Texts_any (A : Option Addr) (n c B : Nat) (b : List UInt8) (w : World) (h : Sees w B A n c (b.map bv)) (hB : B ≤ w.heap.size) (hn : n ≤ 2000000000) :
    Calls Try.prog 15 #[.slice A n c] w (GaveTexts w (textsOf b)) := by
  obtain ⟨i1, hi1, hy0, hy1, hy2⟩ := info_parts Try.infoSl
  have Hy2 := Lib.hid hy2
  clear hy2
  have hs0 : Sees w w.heap.size A n c (b.map bv) := h.more hB
  refine (callsIn_wide (n := 6)).1 ?_
  refine callsIn_of_wp_marks Try.func15 rfl trivial ?_ rfl
  simp only [Try.ntmps15, List.size_toArray, List.length_cons, List.length_nil, Nat.reduceAdd, Nat.reduceSub, Array.replicate_succ, Array.replicate_zero, List.push_toArray, List.append_toArray, List.nil_append, List.cons_append]
  gi_wp2
  refine wpInW_scope ?_
  gi_wp2
  refine wpIn_label ?_
  gi_wp2_with (refine ⟨trivial, ?_⟩; gi_at_call 28; refine (texts_in _ _ _ _ _).mono ?_; rintro e w' ⟨rfl, rfl⟩)
  have hB0 : Below w.heap.size w (((w.alloc (.cells #[.slice none 0 0] 31)).alloc (.cells #[.int .i64 0] 25)).alloc (.cells #[.slice A n c] 22)) :=
    (((Below.refl _ w).alloc (Nat.le_refl _) _).alloc (by simp) _).alloc (by simp; omega) _
  have bN := Boxed.new ((w.alloc (.cells #[.slice none 0 0] 31)).alloc (.cells #[.int .i64 0] 25)) 22 (.slice A n c)
  have bE := (Boxed.new (w.alloc (.cells #[.slice none 0 0] 31)) 25 (.int .i64 0)).alloc (.cells #[.slice A n c] 22)
  have bL := ((Boxed.new w 31 (.slice none 0 0)).alloc (.cells #[.int .i64 0] 25)).alloc (.cells #[.slice A n c] 22)
  simp only [World.size_alloc] at bN bE
  refine wpIn_rangeFunc_ownG rfl (by omega) (gf := 32) (lb := #[.pointer (some ⟨w.heap.size + 1 + 1, 0, none⟩)]) rfl trivial (enters_of Try.func32 (by kernel_rfl) rfl)
    (texts_stops 5 (by omega) (w.heap.size + 1 + 1) w.heap.size w _ A n c b hs0 (by omega) (by simp) (by simp; omega) hB0 bN.cell) belowK_t (belowK_b (by simp; omega)) (Below.refl _ _) (fun _ => rfl)
    (TextsI w w.heap.size) (TextsX w w.heap.size) (TextsI_own w _ _ (by simp; omega)) (fun c => TextsX_own w _ _ (by simp; omega) c)
    ⟨by simp, ⟨none, 0, bL, OwnsL.nil _ _⟩, bE, hB0⟩
    (fun x => { tmps := #[.slice A n c, undef, .slice none 0 0, .int .i64 0, .pointer (some ⟨w.heap.size, 0, none⟩), .pointer (some ⟨w.heap.size + 1, 0, none⟩), .slice x.A x.m x.c, .bool x.whole, .slice A n c, .func (.func 32) #[] #[.pointer (some ⟨w.heap.size + 1 + 1, 0, none⟩)], .slice x.A x.m x.c, .bool x.whole, undef, undef, undef, undef, undef, undef, undef, undef, undef], defers := [] }) ?assign ?body ?done ?stop
  case assign =>
    intro l x W K hK
    unfold Piece.enc
    gi_wp2
    exact hK
  case body =>
    rintro l pre x W ⟨hwh, ⟨A2, c2, bL1, ho⟩, bE1, hbW⟩ hlt
    obtain ⟨xA, xm, xc, xl, xw, xs, xsm⟩ := x
    have hc4 := bL1.cell
    have hf4 := bL1.frozen
    have hc5 := bE1.cell
    have hf5 := bE1.frozen
    cases xw with
    | false =>
      gi_wp2
      refine ⟨((KeepsOthers.setCell _ _ _).trans (KeepsOthers.setCell _ _ _)).from _, rfl, ⟨pre, _, rfl, rfl⟩, ?_, ?_, ?_⟩
      · exact (bL1.set _).other (by omega) _
      · exact (bE1.other (by omega) _).set _
      · exact (hbW.setCell (p := ⟨w.heap.size, 0, none⟩) (Nat.le_refl _) _).setCell (p := ⟨w.heap.size + 1, 0, none⟩) (by simp) _
    | true =>
      have hsx : Sees W w.heap.size xA xm xc (xl.map bv) := xs.upTo hbW (Nat.le_refl _)
      have hxl : xl.length = xm := by have := xs.len; simpa using this
      have HXL := Lib.hid hxl
      clear hxl
      have hmx : Try.prog.follows .mixedOrders = true := by kernel_rfl
      gi_wp2
      gi_region_with_o (first | (refine ⟨trivial, ?_⟩; gi_at_call 26; refine (CallsIn.inRound l (callsIn_wide.2 (Clone_any xA xm xc w.heap.size xl W.drew hsx.drew hbW.size (by omega)))).mono ?_; rintro e w5 ⟨A5, c5, rfl, hown5, hb5⟩; have bL5 : Boxed w5 w.heap.size 31 (.slice A2 pre.length c2) := (hb5.block _ bL1.lt).trans bL1; have bE5 : Boxed w5 (w.heap.size + 1) 25 (.int .i64 0) := (hb5.block _ bE1.lt).trans bE1; have hc45 := bL5.cell; have hlt5 := bL5.lt; have hc45a := (bL5.alloc (.cells #[.slice A5 xm c5] 22)).cell; have hW5 : Below w.heap.size w w5 := (hbW.drew).trans (hb5.mono hbW.size); have ho5 := (ho.drew).below hb5 (Nat.le_refl _); have hsz5 := hW5.size; obtain ⟨A6, c6, w6, hrun60, hown6, hb6, hg6⟩ := run_append_ownL (P := Try.prog) (w5.alloc (.cells #[.slice A5 xm c5] 22)) w.heap.size 31 31 22 5 i1 _ 24 Try.underlying31 hi1 hy0 hy1 Hy2.out rfl (by decide) A2 pre.length c2 _ (ho5.alloc _) A5 xm c5 xl HXL.out ((ownsRow_weaken (base' := w.heap.size) hown5 (by exact hbW.size)).alloc _) w5.heap.size 1 (by rw [cell_of_row _ _ 0 _ _ _ (heap_alloc_new w5 _)]; simp) (by simp only [maxLen]; omega) (by omega) (by simp; omega) w.heap.size w (hW5.alloc hsz5 _) (Nat.le_refl _); have hrun6 : (appendVeil _ _ _).run _ _ = _ := hrun60; clear hrun60; have bL6 : Boxed w6 w.heap.size 31 (.slice A2 pre.length c2) := Boxed_keptL (bL5.alloc _) (by decide) (ho5.alloc _) hg6; have bE6 : Boxed w6 (w.heap.size + 1) 25 (.int .i64 0) := Boxed_keptL (bE5.alloc _) (by decide) (ho5.alloc _) hg6; have hc46 := bL6.cell; have hf46 := bL6.frozen))
      all_goals
        have hst := texts_step (B := (((w.alloc (.cells #[.slice none 0 0] 31)).alloc (.cells #[.int .i64 0] 25)).alloc (.cells #[.slice A n c] 22)).heap.size) (x := ⟨xA, xm, xc, xl, true, xs, xsm⟩) rfl hwh hb5 _ ho5 hg6 hown6 bL6 bE6 hbW hb6
        exact hst
  case done =>
    rintro D ys W hD hall ⟨hwh, ⟨A2, c2, bL1, ho⟩, bE1, hbW⟩ hK
    have hc4 := bL1.cell
    have hc5 := bE1.cell
    gi_wp2
    refine wpIn_wide.2 ?_
    go_quiet (fail)
    gi_wp2
    have hKq : (W.drewN nq).heap[D]? = some (.deferred (some [])) := hK
    have hsz : w.heap.size ≤ D := by simp at hD; omega
    refine ⟨by simp, .inl ⟨_, _, rfl, run_takeDeferred hKq, ?_⟩⟩
    refine ⟨_, results_tmp2 rfl _ _ _, ?_⟩
    refine .inr ⟨ys.map (·.l), A2, ys.length, c2, ?_, rfl, ?_, ?_⟩
    · rcases hall with h | ⟨pre, x, rfl, hx⟩
      · exact h.2
      · have := hwh x (by simp)
        rw [hx] at this
        cases this
    · exact (OwnsL_rowOther (ho.drewN nq) (grownBy_putObj' _ D (.deferred none)) (fun r e => by cases e; exact ⟨_, hKq, rfl⟩)).sees
    · exact (below_drewN hbW nq).grown (grownBy_putObj' _ D (.deferred none)) (by exact hbW.size) (fun k e => by cases e; exact hsz)
  case stop =>
    rintro D cc pre W hD hsome ⟨rfl, ⟨pre', x, rfl, hx⟩, bL1, bE1, hbW⟩ hK
    have hc4 := bL1.cell
    have hc5 := bE1.cell
    gi_wp2
    refine wpIn_wide.2 ?_
    go_quiet (fail)
    gi_wp2
    have hKq : (W.drewN nq).heap[D]? = some (.deferred (some [])) := hK
    have hsz : w.heap.size ≤ D := by simp at hD; omega
    refine ⟨by simp, .inl ⟨_, _, rfl, run_takeDeferred hKq, ?_⟩⟩
    refine ⟨_, results_tmp2 rfl _ _ _, ?_⟩
    refine .inl ⟨?_, rfl, (below_drewN hbW nq).grown (grownBy_putObj' _ D (.deferred none)) (by exact hbW.size) (fun k e => by cases e; exact hsz)⟩
    rcases hsome with ⟨p2, x2, e, h2, h3⟩ | ⟨p2, x2, e, h2⟩
    · exact h3
    · have e2 := List.append_inj_right' e rfl
      injection e2 with e2
      rw [e2, h2] at hx
      cases hx
end Go.Proofs.Ytbkmbbhgpogeiaa
