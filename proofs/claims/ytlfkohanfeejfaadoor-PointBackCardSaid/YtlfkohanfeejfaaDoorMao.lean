/-
  A statement whose order of evaluation is left open, walked once, in the order of the text, where several blocks are made freely: they are apart.
  Limb by limb: what a number times another one, and a third, are; what is taken from one; what is below P. Pure.
  math/bits.Add64, Sub64, Mul64, and what the program makes of them: a product, and both other numbers, added.
-/
import Derived.Laws.Externs
import Derived.Shelf.Bits.Mul64
import Derived.Test.YtlfkohanfeejfaaDoorMac
import Derived.Test.YtlfkohanfeejfaaDoorMah
import Derived.Test.YtlfkohanfeejfaaDoorMai
namespace Go.Proofs.YtlfkohanfeejfaaDoor
open Go.RowKit

section
variable {P : Program} {ops : Array Oper} {S : World → Prop} {Q : Exit → Act → World → Prop} {n : Nat} {al : Nat → Bool} {A : Nat → Value → World → Prop} {vs : Nat → Value} {a0 : Act}

/-- What was made freely is apart. -/
def Apart (ops : Array Oper) (n : Nat) (al : Nat → Bool) (listed : Array Bool) (a : Act) : Prop :=
  ∀ t1 t2 j1 j2 v1 v2, ownOf ops n t1 = some j1 → ownOf ops n t2 = some j2 → al j1 = true → al j2 = true → listed.getD j1 false = true → listed.getD j2 false = true → j1 ≠ j2 → a.tmps[t1]? = some v1 → a.tmps[t2]? = some v2 → v1 ≠ v2
theorem Apart.set {listed : Array Bool} {a : Act} {w : World} {k : Nat} {v : Value} (hon : onceB ops n = true) (hk : k < n) (inv : LexInv ops n al S A vs a0 listed a w)
    (hv : al k = true → ∀ j u, A j u w → v ≠ u) (h : Apart ops n al listed a) : Apart ops n al (listed.setIfInBounds k true) (a.put (dstOf ops k) v) := by
  intro t1 t2 j1 j2 v1 v2 h1 h2 a1 a2 l1 l2 hne e1 e2
  have hgne : ∀ j, j ≠ k → (listed.setIfInBounds k true).getD j false = listed.getD j false := fun j hj => getD_set_ne false (Ne.symm hj)
  have old : ∀ t j u, ownOf ops n t = some j → al j = true → j ≠ k → (listed.setIfInBounds k true).getD j false = true → (a.put (dstOf ops k) v).tmps[t]? = some u → listed.getD j false = true ∧ a.tmps[t]? = some u ∧ A j u w := by
    intro t j u ho ha hj hl e
    rw [hgne j hj] at hl
    rw [put_get, if_neg (fun hd => hj (once_spec hon (ownOf_some ho).1 hk (ownOf_some ho).2 hd))] at e
    obtain ⟨x, hx, hx2⟩ := inv.free t j ho ha hl
    rw [e] at hx2
    refine ⟨hl, e, ?_⟩
    cases hc : a0.tmps[t]? with
    | none => rw [hc] at hx2; cases hx2
    | some y => rw [hc] at hx2; cases hx2; exact hx
  have new : ∀ t u, ownOf ops n t = some k → (a.put (dstOf ops k) v).tmps[t]? = some u → u = v := by
    intro t u ho e
    rw [put_get, if_pos (ownOf_some ho).2] at e
    cases hc : a.tmps[t]? with
    | none => rw [hc] at e; cases e
    | some y => rw [hc] at e; exact (Option.some.inj e).symm
  by_cases k1 : j1 = k
  · subst k1
    have n2 : j2 ≠ j1 := Ne.symm hne
    obtain ⟨_, _, hA2⟩ := old t2 j2 v2 h2 a2 n2 l2 e2
    rw [new t1 v1 h1 e1]
    exact hv a1 j2 v2 hA2
  · obtain ⟨m1, f1, hA1⟩ := old t1 j1 v1 h1 a1 k1 l1 e1
    by_cases k2 : j2 = k
    · subst k2
      rw [new t2 v2 h2 e2]
      exact Ne.symm (hv a2 j1 v1 hA1)
    · obtain ⟨m2, f2, _⟩ := old t2 j2 v2 h2 a2 k2 l2 e2
      exact h t1 t2 j1 j2 v1 v2 h1 h2 a1 a2 m1 m2 hne f1 f2

/-- What the walk's end may lean on. -/
def LexEndD (ops : Array Oper) (n : Nat) (al : Nat → Bool) (A : Nat → Value → World → Prop) (a a' : Act) (w : World) : Prop :=
  LexEnd ops n al A a a' w ∧ ∀ t1 t2 j1 j2 v1 v2, ownOf ops n t1 = some j1 → ownOf ops n t2 = some j2 → al j1 = true → al j2 = true → j1 ≠ j2 → a'.tmps[t1]? = some v1 → a'.tmps[t2]? = some v2 → v1 ≠ v2

theorem lexD_sound {l : List Oper} {a0 : Act} (hB : lexB l.toArray n al = true) (hS : ∀ w w', S w → Below w.heap.size w w' → S w') (hA : ∀ j v w w', A j v w → Below w.heap.size w w' → A j v w')
    (hal : ∀ k o, al k = true → l[k]? = some o → ∀ f w, S w → ∃ v w', (execOp f o).run P w = .ok (.value v) w' ∧ A k v w' ∧ Below w.heap.size w w' ∧ ∀ j u, A j u w → v ≠ u)
    (hv : ∀ k o, k < n → al k = false → l[k]? = some o → Leaves P l.toArray S o (lexTr l.toArray al vs 0 a0 k) (vs k))
    (hK : ∀ a' w', S w' → LexEndD l.toArray n al A (lexTr l.toArray al vs 0 a0 n) a' w' → wpList P l.toArray Q (l.drop n) a' w') :
    ∀ (r : Nat) (listed : Array Bool) (a : Act) (w : World), lexLeft listed n = r → LexInv l.toArray n al S A vs a0 listed a w → Apart l.toArray n al listed a → wpAny P .any l.toArray Q (r + (l.toArray.size - n)) listed a w := by
  simp only [lexB, Bool.and_eq_true, decide_eq_true_eq] at hB
  obtain ⟨⟨⟨⟨⟨⟨⟨⟨hsel, hn⟩, hsi⟩, hch⟩, hon⟩, hah⟩, hlk⟩, hba⟩, hseq⟩ := hB
  intro r
  induction r with
  | zero =>
    intro listed a w hr inv hap
    have hl : ∀ i, i < n → listed.getD i true = true := lexLeft_zero n hr
    have hlf : ∀ i, i < n → listed.getD i false = true := fun i hi => by
      have h1 := hl i hi
      have h2 : i < listed.size := by rw [inv.head.size]; omega
      simp [h2] at h1 ⊢
      exact h1
    have hc : listed = lexCanon l.toArray.size n := by
      refine Array.ext (by rw [inv.head.size]; simp [lexCanon]) fun i h1 h2 => ?_
      have h3 : (lexCanon l.toArray.size n)[i] = decide (i < n) := by simp [lexCanon]
      rw [h3]
      have h4 : listed.getD i true = listed[i] := by simp [h1]
      rcases Nat.lt_or_ge i n with h5 | h5
      · rw [← h4, hl i h5, decide_eq_true h5]
      · have := inv.head.tail i h5 (by rw [← inv.head.size]; exact h1)
        rw [← h4, this, decide_eq_false (by omega)]
    have hend : LexEnd l.toArray n al A (lexTr l.toArray al vs 0 a0 n) a w := by
      obtain ⟨ts, td⟩ := lexTr_slot (al := al) (vs := vs) (a0 := a0) hon n (Nat.le_refl _)
      refine ⟨inv.defers.trans td.symm, fun t => ⟨fun j ho ha => ?_, fun hna => ?_⟩⟩
      · obtain ⟨v, h1, h2⟩ := inv.free t j ho ha (hlf j (ownOf_some ho).1)
        refine ⟨v, h1, ?_⟩
        rw [h2, ts t, slotAt_own ho]
        simp [ha]
      · rw [inv.slot t (fun j hj hja => by rw [hna j hj] at hja; cases hja), ts t]
        cases ho : ownOf l.toArray n t with
        | none => rw [slotAt_none ho, slotAt_none ho]
        | some j =>
          rw [slotAt_own ho, slotAt_own ho]
          have := (ownOf_some ho).1
          simp only [hlf j this, decide_eq_true this]
    have hw := hK a w inv.held ⟨hend, fun t1 t2 j1 j2 v1 v2 h1 h2 a1 a2 hne e1 e2 => hap t1 t2 j1 j2 v1 v2 h1 h2 a1 a2 (hlf j1 (ownOf_some h1).1) (hlf j2 (ownOf_some h2).1) hne e1 e2⟩
    rw [Nat.zero_add, hc]
    have hdl : (l.drop n).length = l.toArray.size - n := by simp
    rw [← hdl]
    exact wpAny_of_seq (md := .any) (l.drop n) n _ a w (fun j => by simp [List.getElem?_drop]) (by rw [hdl]; exact hseq) hw
  | succ r ih =>
    intro listed a w hr inv hap
    obtain ⟨m, hm, hum⟩ := lexLeft_some n (by rw [hr]; omega)
    -- the least that has not come up may come up
    have hleast : ∃ m, m < n ∧ listed.getD m true = false ∧ ∀ i, i < m → listed.getD i true = true := by
      have : ∀ b, ∀ m, m ≤ b → m < n → listed.getD m true = false → ∃ m, m < n ∧ listed.getD m true = false ∧ ∀ i, i < m → listed.getD i true = true := by
        intro b
        induction b with
        | zero => intro m hmb hmn hmu; exact ⟨m, hmn, hmu, fun i hi => by omega⟩
        | succ b ihb =>
          intro m hmb hmn hmu
          by_cases h : ∃ i, i < m ∧ listed.getD i true = false
          · obtain ⟨i, hi, hiu⟩ := h
            exact ihb i (by omega) (by omega) hiu
          · exact ⟨m, hmn, hmu, fun i hi => by
              cases hc : listed.getD i true with
              | true => rfl
              | false => exact absurd ⟨i, hi, hc⟩ h⟩
      exact this m m (Nat.le_refl _) hm hum
    obtain ⟨m, hm, hum, hlow⟩ := hleast
    have hmr : m ∈ Region.ready .any l.toArray listed := by
      have hml : m < l.toArray.size := by omega
      refine mem_ready.2 ⟨hum, l.toArray[m], Array.getElem?_eq_getElem hml, fun e he hb => ?_⟩
      have h1 := List.all_eq_true.1 hah m (List.mem_range.2 hml)
      rw [Array.getElem?_eq_getElem hml] at h1
      have h2 := Array.all_eq_true_iff_forall_mem.1 h1 e he
      rw [hb] at h2
      have h3 : e.on < m := by simpa using h2
      have h4 := hlow e.on h3
      have h5 : e.on < listed.size := by rw [inv.head.size]; omega
      simp [h5] at h4 ⊢
      exact h4
    rw [show r + 1 + (l.toArray.size - n) = (r + (l.toArray.size - n)) + 1 by omega]
    refine ⟨fun h0 => (by rw [h0] at hmr; cases hmr), fun i hi => ?_⟩
    have hin : i < n := by
      rcases Nat.lt_or_ge i n with h | h
      · exact h
      · exact absurd hi (tail_waits hsi hch hn inv.head _ m rfl hm hum i h)
    obtain ⟨hun, o, ho, hall⟩ := mem_ready.1 hi
    have hol : l[i]? = some o := by simpa using ho
    have hdo : dstOf l.toArray i = o.dst := by unfold dstOf; rw [ho]; rfl
    have hnext : ∀ v w', Below w.heap.size w w' → (if al i = true then A i v w' else v = vs i) → (al i = true → ∀ j u, A j u w → v ≠ u) → wpAny P .any l.toArray Q (r + (l.toArray.size - n)) (listed.setIfInBounds i true) (a.put o.dst v) w' := fun v w' hb hvv hdv => by
      have hi2 : i < listed.size := by rw [inv.head.size]; omega
      have := lexLeft_set hi2 hun n hin
      rw [← hdo]
      exact ih _ _ _ (by omega) (inv.set hon hin hi hS hA hb hvv) (hap.set hon hin inv hdv)
    unfold wpOp
    simp only [ho]
    by_cases ha : al i = true
    · have hg : o.guard = none := by
        have h1 := List.all_eq_true.1 hba i (List.mem_range.2 hin)
        rw [ha, ho] at h1
        simpa using h1
      have hw : Region.wanted o (yielded l.toArray a.tmps) = true := by unfold Region.wanted; rw [hg]
      obtain ⟨v, w', hrun, hAv, hb, hdv⟩ := hal i o ha hol a.eval w inv.held
      rw [if_pos hw]
      refine .inl ?_
      unfold Oper.wp
      rw [hrun]
      exact hnext v w' hb (by rw [if_pos ha]; exact hAv) (fun _ => hdv)
    · have ha' : al i = false := by simpa using ha
      have hlook := look_same hon hlk hin ha' ho (getD_both hun) hall inv
      have hsel' : ∀ cs b, o.op ≠ .select cs b := fun cs b => Region.noSelect_spec hsel i o cs b ho
      have hvi := hv i o hin ha' hol
      unfold Leaves at hvi
      rw [← wanted_at hlook] at hvi
      rcases hvi with ⟨hw, hd⟩ | ⟨hw, hu⟩
      · rw [if_pos hw]
        refine .inl ?_
        unfold Oper.wp
        rw [execOp_at hsel' hlook]
        rcases hd with hd | ⟨f, args, hrun, hc⟩
        · rw [hd w inv.held]
          exact hnext _ w (Below.refl _ w) (by rw [if_neg ha]) (fun h => absurd h ha)
        · rw [hrun w inv.held, Oper.upon_enter]
          refine (hc w inv.held).mono fun e w' he => ?_
          obtain ⟨rfl, hb⟩ := he
          exact hnext _ w' hb (by rw [if_neg ha]) (fun h => absurd h ha)
      · rw [hw]
        simp only [Bool.false_eq_true, if_false]
        exact hnext undef w (Below.refl _ w) (by rw [if_neg ha, hu]) (fun h => absurd h ha)
end

theorem wp_region_lexD {P : Program} {Q : Exit → Act → World → Prop} {id : Nat} {a : Act} {w : World} {l : List Oper} (n : Nat) (al : Nat → Bool) (A : Nat → Value → World → Prop) (S : World → Prop)
    (hm : P.follows .mixedOrders = true) (hB : lexB l.toArray n al = true) (h0 : S w.drew) (hS : ∀ w w', S w → Below w.heap.size w w' → S w') (hA : ∀ j v w w', A j v w → Below w.heap.size w w' → A j v w')
    (hal : ∀ k o, al k = true → l[k]? = some o → ∀ f w, S w → ∃ v w', (execOp f o).run P w = .ok (.value v) w' ∧ A k v w' ∧ Below w.heap.size w w' ∧ ∀ j u, A j u w → v ≠ u)
    (h : lexW P l.toArray S al (fun b => ∀ a' w', S w' → LexEndD l.toArray n al A b a' w' → wpList P l.toArray Q (l.drop n) a' w') 0 (l.take n) a) : (Code.region id l.toArray true).wp P Q a w := by
  have hn : n < l.length := by
    have hB' := hB
    simp only [lexB, Bool.and_eq_true, decide_eq_true_eq] at hB'
    simpa using hB'.1.1.1.1.1.1.1.2
  have htl : (l.take n).length = n := by simp; omega
  obtain ⟨vs, hv, hK⟩ := lexW_tr (ops := l.toArray) (l.take n) 0 a (fun j hj => by
    rw [htl] at hj
    simp [hj]) h
  rw [htl] at hv hK
  refine wp_region_any hm ?_
  have inv0 : LexInv l.toArray n al S A vs a (Array.replicate l.toArray.size false) a { w with drawn := w.drawn + 1 } := by
    refine ⟨⟨by simp, fun j oj _ hl => (by rw [getD_replicate_false] at hl; cases hl), fun t _ ht => getD_in (by simpa using ht) (getD_replicate_false _ _)⟩, h0, rfl, fun t j _ _ hl => (by rw [getD_replicate_false] at hl; cases hl), fun t _ => ?_⟩
    cases ho : ownOf l.toArray n t with
    | none => rw [slotAt_none ho]
    | some j => rw [slotAt_own ho, getD_replicate_false]; simp
  have := lexD_sound (P := P) (Q := Q) (A := A) (vs := vs) (a0 := a) hB hS hA hal (fun k o hk hak ho => by
    have := hv k o hk (by rw [Nat.zero_add]; exact hak) (by rw [Nat.zero_add]; simpa using ho)
    rwa [Nat.zero_add] at this) hK n _ a _ (lexLeft_start _ n (by simp; omega)) inv0 (fun _ _ _ _ _ _ _ _ _ _ l1 => by rw [getD_replicate_false] at l1; cases l1)
  rw [show n + (l.toArray.size - n) = l.toArray.size by simp; omega] at this
  exact this

/-! Two blocks, and three. -/
theorem lexEndD_two {ops : Array Oper} {n j1 j2 : Nat} {d1 d2 : Tmp} {A : Nat → Value → World → Prop} {a a' : Act} {w : World} (h1 : ownOf ops n d1 = some j1) (h2 : ownOf ops n d2 = some j2) (hj : (j1 == j2) = false) (hs1 : d1 < a.tmps.size) (hs2 : d2 < a.tmps.size)
    (h : LexEndD ops n (fun k => k == j1 || k == j2) A a a' w) : ∃ v1 v2, A j1 v1 w ∧ A j2 v2 w ∧ v1 ≠ v2 ∧ a' = (a.put (some d1) v1).put (some d2) v2 := by
  have hj' : j1 ≠ j2 := by simpa using hj
  have hd : d1 ≠ d2 := fun e => by subst e; rw [h1] at h2; exact hj' (Option.some.inj h2)
  obtain ⟨v1, hv1, hs1'⟩ := (h.1.2 d1).1 j1 h1 (by simp)
  obtain ⟨v2, hv2, hs2'⟩ := (h.1.2 d2).1 j2 h2 (by simp)
  rw [Array.getElem?_eq_getElem hs1] at hs1'
  rw [Array.getElem?_eq_getElem hs2] at hs2'
  refine ⟨v1, v2, hv1, hv2, h.2 d1 d2 j1 j2 v1 v2 h1 h2 (by simp) (by simp) hj' hs1' hs2', act_ext (by rw [put_defers, put_defers]; exact h.1.1) fun t => ?_⟩
  rw [put_get, put_get]
  by_cases e2 : d2 = t
  · subst e2
    rw [if_pos rfl, if_neg (by simpa using hd), Array.getElem?_eq_getElem hs2, hs2']
  · rw [if_neg (by simpa using e2)]
    by_cases e1 : d1 = t
    · subst e1; rw [if_pos rfl, Array.getElem?_eq_getElem hs1, hs1']
    · rw [if_neg (by simpa using e1)]
      refine (h.1.2 t).2 fun i hi => ?_
      have n1 : i ≠ j1 := fun e => by subst e; exact e1 (Option.some.inj ((ownOf_some h1).2.symm.trans (ownOf_some hi).2))
      have n2 : i ≠ j2 := fun e => by subst e; exact e2 (Option.some.inj ((ownOf_some h2).2.symm.trans (ownOf_some hi).2))
      simp [n1, n2]
theorem lexEndD_three {ops : Array Oper} {n j1 j2 j3 : Nat} {d1 d2 d3 : Tmp} {A : Nat → Value → World → Prop} {a a' : Act} {w : World} (h1 : ownOf ops n d1 = some j1) (h2 : ownOf ops n d2 = some j2) (h3 : ownOf ops n d3 = some j3) (hj : (j1 == j2 || j1 == j3 || j2 == j3) = false)
    (hs1 : d1 < a.tmps.size) (hs2 : d2 < a.tmps.size) (hs3 : d3 < a.tmps.size)
    (h : LexEndD ops n (fun k => k == j1 || k == j2 || k == j3) A a a' w) : ∃ v1 v2 v3, A j1 v1 w ∧ A j2 v2 w ∧ A j3 v3 w ∧ (v1 ≠ v2 ∧ v1 ≠ v3 ∧ v2 ≠ v3) ∧ a' = ((a.put (some d1) v1).put (some d2) v2).put (some d3) v3 := by
  obtain ⟨⟨hj12, hj13⟩, hj23⟩ : (j1 ≠ j2 ∧ j1 ≠ j3) ∧ j2 ≠ j3 := by simpa using hj
  have hd12 : d1 ≠ d2 := fun e => by subst e; rw [h1] at h2; exact hj12 (Option.some.inj h2)
  have hd13 : d1 ≠ d3 := fun e => by subst e; rw [h1] at h3; exact hj13 (Option.some.inj h3)
  have hd23 : d2 ≠ d3 := fun e => by subst e; rw [h2] at h3; exact hj23 (Option.some.inj h3)
  obtain ⟨v1, hv1, hs1'⟩ := (h.1.2 d1).1 j1 h1 (by simp)
  obtain ⟨v2, hv2, hs2'⟩ := (h.1.2 d2).1 j2 h2 (by simp)
  obtain ⟨v3, hv3, hs3'⟩ := (h.1.2 d3).1 j3 h3 (by simp)
  rw [Array.getElem?_eq_getElem hs1] at hs1'
  rw [Array.getElem?_eq_getElem hs2] at hs2'
  rw [Array.getElem?_eq_getElem hs3] at hs3'
  refine ⟨v1, v2, v3, hv1, hv2, hv3, ⟨h.2 d1 d2 j1 j2 v1 v2 h1 h2 (by simp) (by simp) hj12 hs1' hs2', h.2 d1 d3 j1 j3 v1 v3 h1 h3 (by simp) (by simp) hj13 hs1' hs3', h.2 d2 d3 j2 j3 v2 v3 h2 h3 (by simp) (by simp) hj23 hs2' hs3'⟩, act_ext (by rw [put_defers, put_defers, put_defers]; exact h.1.1) fun t => ?_⟩
  rw [put_get, put_get, put_get]
  by_cases e3 : d3 = t
  · subst e3
    rw [if_pos rfl, if_neg (by simpa using hd23), if_neg (by simpa using hd13), Array.getElem?_eq_getElem hs3, hs3']
  · rw [if_neg (by simpa using e3)]
    by_cases e2 : d2 = t
    · subst e2
      rw [if_pos rfl, if_neg (by simpa using hd12), Array.getElem?_eq_getElem hs2, hs2']
    · rw [if_neg (by simpa using e2)]
      by_cases e1 : d1 = t
      · subst e1; rw [if_pos rfl, Array.getElem?_eq_getElem hs1, hs1']
      · rw [if_neg (by simpa using e1)]
        refine (h.1.2 t).2 fun i hi => ?_
        have n1 : i ≠ j1 := fun e => by subst e; exact e1 (Option.some.inj ((ownOf_some h1).2.symm.trans (ownOf_some hi).2))
        have n2 : i ≠ j2 := fun e => by subst e; exact e2 (Option.some.inj ((ownOf_some h2).2.symm.trans (ownOf_some hi).2))
        have n3 : i ≠ j3 := fun e => by subst e; exact e3 (Option.some.inj ((ownOf_some h3).2.symm.trans (ownOf_some hi).2))
        simp [n1, n2, n3]

/-- Blocks of a type, made freely. -/
theorem made_tD {P : Program} {ty : TypeId} {cs : Array Value} {S : World → Prop} {l : List Oper} {D : Nat} {al : Nat → Bool} (hr : ∀ (f : Operand → Value) (o : Oper) (w : World), o.op = .alloc ty → (execOp f o).run P w = .ok (.value (.pointer (some ⟨w.heap.size, 0, none⟩))) (w.alloc (.cells cs ty)))
    (hS : ∀ w, S w → D ≤ w.heap.size) (js : List Nat) (hjs : ∀ k, al k = true → k ∈ js) (hj : ∀ j ∈ js, (l[j]?).map (·.op) = some (.alloc ty)) :
    ∀ k o, al k = true → l[k]? = some o → ∀ f w, S w → ∃ v w', (execOp f o).run P w = .ok (.value v) w' ∧ MadeT ty cs D k v w' ∧ Below w.heap.size w w' ∧ ∀ j u, MadeT ty cs D j u w → v ≠ u := fun k o hk ho f w hw => by
  have h1 := hj k (hjs k hk)
  rw [ho] at h1
  refine ⟨_, _, hr f o w (Option.some.inj h1), ⟨_, rfl, hS w hw, heap_alloc_new w _⟩, (Below.refl _ w).alloc (Nat.le_refl _) _, ?_⟩
  rintro j u ⟨g, rfl, _, hg⟩ e
  have hlt := (Array.getElem?_eq_some_iff.1 hg).1
  simp only [Value.pointer.injEq, Option.some.injEq, Addr.mk.injEq] at e
  omega
section
variable {w W W' : World} {D : Nat} {bs : List (Nat × TypeId × Array Value)}
/-- Two further blocks, and three, in whatever order they were made. -/
theorem Bs.add2 {g1 g2 t1 t2 : Nat} {c1 c2 : Array Value} (h : Bs w D bs W) (h1 : W'.heap[g1]? = some (.cells c1 t1 (0, 0))) (h2 : W'.heap[g2]? = some (.cells c2 t2 (0, 0)))
    (ho : ∀ k, k < D → W'.heap[k]? = W.heap[k]?) (hs : W.heap.size ≤ W'.heap.size) (hb : Below w.heap.size w W') : Bs w W'.heap.size ((g2, t2, c2) :: (g1, t1, c1) :: bs) W' := by
  have hl := h.len
  refine ⟨fun p hp => ?_, Nat.le_refl _, Nat.le_trans h.pos (Nat.le_trans hl hs), hb⟩
  rcases List.mem_cons.1 hp with rfl | hp
  · exact ⟨(Array.getElem?_eq_some_iff.1 h2).1, h2⟩
  rcases List.mem_cons.1 hp with rfl | hp
  · exact ⟨(Array.getElem?_eq_some_iff.1 h1).1, h1⟩
  obtain ⟨q1, q2⟩ := h.hold p hp
  exact ⟨by omega, (ho _ q1).trans q2⟩
theorem Bs.add3 {g1 g2 g3 t1 t2 t3 : Nat} {c1 c2 c3 : Array Value} (h : Bs w D bs W) (h1 : W'.heap[g1]? = some (.cells c1 t1 (0, 0))) (h2 : W'.heap[g2]? = some (.cells c2 t2 (0, 0))) (h3 : W'.heap[g3]? = some (.cells c3 t3 (0, 0)))
    (ho : ∀ k, k < D → W'.heap[k]? = W.heap[k]?) (hs : W.heap.size ≤ W'.heap.size) (hb : Below w.heap.size w W') : Bs w W'.heap.size ((g3, t3, c3) :: (g2, t2, c2) :: (g1, t1, c1) :: bs) W' := by
  have hl := h.len
  refine ⟨fun p hp => ?_, Nat.le_refl _, Nat.le_trans h.pos (Nat.le_trans hl hs), hb⟩
  rcases List.mem_cons.1 hp with rfl | hp
  · exact ⟨(Array.getElem?_eq_some_iff.1 h3).1, h3⟩
  rcases List.mem_cons.1 hp with rfl | hp
  · exact ⟨(Array.getElem?_eq_some_iff.1 h2).1, h2⟩
  rcases List.mem_cons.1 hp with rfl | hp
  · exact ⟨(Array.getElem?_eq_some_iff.1 h1).1, h1⟩
  obtain ⟨q1, q2⟩ := h.hold p hp
  exact ⟨by omega, (ho _ q1).trans q2⟩
theorem ptr_ne {g1 g2 : Nat} (h : (Value.pointer (some ⟨g1, 0, none⟩)) ≠ .pointer (some ⟨g2, 0, none⟩)) : g1 ≠ g2 := fun e => h (by rw [e])
end
end Go.Proofs.YtlfkohanfeejfaaDoor

namespace Go.Proofs.YtlfkohanfeejfaaDoor

/-! What a number q times X, and Y, and c, are: limbs and carries. -/
def cy (q X Y c k : Nat) : Nat := (q * (X % 18446744073709551616 ^ k) + Y % 18446744073709551616 ^ k + c) / 18446744073709551616 ^ k
theorem cy_zero (q X Y c : Nat) : cy q X Y c 0 = c := by unfold cy; rw [Nat.pow_zero, Nat.mod_one, Nat.mod_one, Nat.mul_zero, Nat.div_one]; omega
theorem mod_limb (X k : Nat) : X % 18446744073709551616 ^ (k + 1) = X % 18446744073709551616 ^ k + 18446744073709551616 ^ k * limb X k := by
  unfold limb
  rw [Nat.pow_succ, Nat.mod_mul]
theorem wpos (k : Nat) : 0 < 18446744073709551616 ^ k := Nat.pow_pos (by omega)
theorem cy_succ (q X Y c k : Nat) : cy q X Y c (k + 1) = (q * limb X k + limb Y k + cy q X Y c k) / 18446744073709551616 := by
  unfold cy
  rw [mod_limb, mod_limb, Nat.pow_succ, ← Nat.div_div_eq_div_mul]
  congr 1
  generalize X % 18446744073709551616 ^ k = x
  generalize Y % 18446744073709551616 ^ k = y
  have hp := wpos k
  generalize 18446744073709551616 ^ k = B at *
  rw [show q * (x + B * limb X k) + (y + B * limb Y k) + c = (q * x + y + c) + B * (q * limb X k + limb Y k) by
    rw [Nat.mul_add, Nat.mul_add, ← Nat.mul_assoc, Nat.mul_comm q B, Nat.mul_assoc]; omega, Nat.add_mul_div_left _ _ hp]
  omega
theorem lin_limb (q X Y c k : Nat) : limb (q * X + Y + c) k = (q * limb X k + limb Y k + cy q X Y c k) % 18446744073709551616 := by
  unfold cy
  rw [limb]
  have hx := Nat.mod_add_div X (18446744073709551616 ^ k)
  have hy := Nat.mod_add_div Y (18446744073709551616 ^ k)
  unfold limb
  generalize X % 18446744073709551616 ^ k = x at *
  generalize Y % 18446744073709551616 ^ k = y at *
  generalize X / 18446744073709551616 ^ k = u at *
  generalize Y / 18446744073709551616 ^ k = v at *
  have hp := wpos k
  generalize 18446744073709551616 ^ k = B at *
  rw [← hx, ← hy, show q * (x + B * u) + (y + B * v) + c = (q * x + y + c) + B * (q * u + v) by
    rw [Nat.mul_add, Nat.mul_add, ← Nat.mul_assoc, Nat.mul_comm q B, Nat.mul_assoc]; omega, Nat.add_mul_div_left _ _ hp]
  generalize (q * x + y + c) / B = z
  have e : q * (u % 18446744073709551616) % 18446744073709551616 = q * u % 18446744073709551616 := Nat.mul_mod_mod ..
  rw [Nat.add_mod (q * (u % 18446744073709551616) + v % 18446744073709551616), Nat.add_mod (q * (u % 18446744073709551616)), e, Nat.add_mod z]
  omega
/-- A small number added. -/
theorem limb_zero (k : Nat) : limb 0 k = 0 := by unfold limb; rw [Nat.zero_div]
theorem lin_small (m n k : Nat) : (limb m k + cy 1 m 0 n k + 0) % 18446744073709551616 = limb (m + n) k ∧ (limb m k + cy 1 m 0 n k + 0) / 18446744073709551616 = cy 1 m 0 n (k + 1) := by
  have hl := lin_limb 1 m 0 n k
  have hc := cy_succ 1 m 0 n k
  rw [limb_zero, Nat.one_mul, Nat.add_zero] at hl hc
  rw [Nat.one_mul, Nat.add_zero] at hl
  exact ⟨hl.symm, hc.symm⟩
/-- Two numbers added. -/
theorem lin_add (m n k : Nat) : (limb m k + limb n k + cy 1 m n 0 k) % 18446744073709551616 = limb (m + n) k ∧ (limb m k + limb n k + cy 1 m n 0 k) / 18446744073709551616 = cy 1 m n 0 (k + 1) := by
  have hl := lin_limb 1 m n 0 k
  have hc := cy_succ 1 m n 0 k
  rw [Nat.one_mul] at hl hc
  rw [Nat.one_mul, Nat.add_zero] at hl
  exact ⟨hl.symm, hc.symm⟩
theorem cy_lt {q X Y c : Nat} (hq : q < 18446744073709551616) (hc : c < 18446744073709551616) (k : Nat) : cy q X Y c k < 18446744073709551616 := by
  unfold cy
  have hp := wpos k
  have h1 := Nat.mod_lt X hp
  have h2 := Nat.mod_lt Y hp
  generalize X % 18446744073709551616 ^ k = x at *
  generalize Y % 18446744073709551616 ^ k = y at *
  generalize 18446744073709551616 ^ k = B at *
  rw [Nat.div_lt_iff_lt_mul hp]
  have h3 : q * x ≤ 18446744073709551615 * (B - 1) := Nat.mul_le_mul (by omega) (by omega)
  omega
theorem cy_bit {X Y c : Nat} (hc : c ≤ 1) (k : Nat) : cy 1 X Y c k ≤ 1 := by
  unfold cy
  have hp := wpos k
  have h1 := Nat.mod_lt X hp
  have h2 := Nat.mod_lt Y hp
  refine Nat.le_of_lt_succ ?_
  rw [Nat.div_lt_iff_lt_mul hp]
  omega
theorem cy_whole {q X Y c k : Nat} (hX : X < 18446744073709551616 ^ k) (hY : Y < 18446744073709551616 ^ k) : cy q X Y c k = (q * X + Y + c) / 18446744073709551616 ^ k := by
  unfold cy
  rw [Nat.mod_eq_of_lt hX, Nat.mod_eq_of_lt hY]

/-! An array in which the limbs of M give way to those of S, the lowest first. -/
def mixL (len S M k : Nat) : List Nat := (List.range len).map fun p => if p < k then limb S p else limb M p
theorem mixL_length (len S M k : Nat) : (mixL len S M k).length = len := by simp [mixL]
theorem mixL_get {len S M k p : Nat} (h : p < len) : (mixL len S M k).getD p 0 = if p < k then limb S p else limb M p := by
  unfold mixL
  rw [List.getD_eq_getElem?_getD, List.getElem?_map, List.getElem?_range h]
  rfl
theorem mixL_at {len S M k i : Nat} (h : i < (mixL len S M k).length) : (mixL len S M k)[i]'h = if i < k then limb S i else limb M i := by
  simp only [mixL, List.getElem_map, List.getElem_range]
theorem mixL_set {len S M k : Nat} (_ : k < len) : (mixL len S M k).set k (limb S k) = mixL len S M (k + 1) := by
  refine List.ext_getElem (by simp [mixL]) fun i h1 h2 => ?_
  rw [List.getElem_set]
  by_cases e : k = i
  · subst e; rw [if_pos rfl, mixL_at, if_pos (by omega)]
  · rw [if_neg e, mixL_at, mixL_at]
    by_cases h3 : i < k
    · rw [if_pos h3, if_pos (by omega)]
    · rw [if_neg h3, if_neg (by omega)]
theorem mixL_eq {len S M k S' M' k' : Nat} (h : ∀ p, p < len → (if p < k then limb S p else limb M p) = (if p < k' then limb S' p else limb M' p)) : mixL len S M k = mixL len S' M' k' := by
  unfold mixL
  exact List.map_congr_left fun p hp => h p (List.mem_range.1 hp)
theorem lims_mix (S M : Nat) : mixL 4 S M 0 = lims M := rfl
theorem lims_mix4 (S M : Nat) : mixL 4 S M 4 = lims S := rfl
theorem lims_mod (S : Nat) : lims S = lims (S % big) := by
  unfold lims limb big
  simp only [Nat.pow_zero, Nat.div_one, Nat.pow_one, show (18446744073709551616 : Nat) ^ 2 = 340282366920938463463374607431768211456 by decide, show (18446744073709551616 : Nat) ^ 3 = 6277101735386680763835789423207666416102355444464034512896 by decide]
  refine congr (congrArg _ ?_) (congr (congrArg _ ?_) (congr (congrArg _ ?_) (congrArg (fun x => [x]) ?_))) <;> omega
theorem big_pow : (18446744073709551616 : Nat) ^ 4 = big := by decide

/-! Differences, whatever is taken from whatever. -/
def bw (m n k : Nat) : Nat := if m % 18446744073709551616 ^ k < n % 18446744073709551616 ^ k then 1 else 0
theorem bw_bit (m n k : Nat) : bw m n k ≤ 1 := by unfold bw; split <;> omega
theorem bw_succ (m n k : Nat) : bw m n (k + 1) = if limb m k < limb n k + bw m n k then 1 else 0 := by
  unfold bw
  rw [mod_limb, mod_limb]
  have hp := wpos k
  have h1 := Nat.mod_lt m hp
  have h2 := Nat.mod_lt n hp
  generalize m % 18446744073709551616 ^ k = x at *
  generalize n % 18446744073709551616 ^ k = y at *
  generalize 18446744073709551616 ^ k = B at *
  generalize limb m k = u
  generalize limb n k = v
  by_cases h : u < v
  · have h3 : B * (u + 1) ≤ B * v := Nat.mul_le_mul_left _ h
    rw [Nat.mul_add] at h3
    rw [if_pos (by omega), if_pos (by split <;> omega)]
  · by_cases e : u = v
    · subst e
      by_cases h4 : x < y
      · rw [if_pos h4, if_pos (by omega), if_pos (by omega)]
      · rw [if_neg h4, if_neg (by omega), if_neg (by omega)]
    · have h3 : B * (v + 1) ≤ B * u := Nat.mul_le_mul_left _ (by omega)
      rw [Nat.mul_add] at h3
      rw [if_neg (by omega), if_neg (by split <;> omega)]
theorem dif_limb {m n k : Nat} (hn : n < big) (hk : k < 4) : limb (m + big - n) k = (limb m k + 18446744073709551616 - limb n k - bw m n k) % 18446744073709551616 := by
  unfold limb bw big at *
  match k, hk with
  | 0, _ => simp only [Nat.pow_zero, Nat.div_one, Nat.mod_one, Nat.lt_irrefl, if_false]; omega
  | 1, _ => simp only [Nat.pow_one]; split <;> omega
  | 2, _ => simp only [show (18446744073709551616 : Nat) ^ 2 = 340282366920938463463374607431768211456 by decide]; split <;> omega
  | 3, _ => simp only [show (18446744073709551616 : Nat) ^ 3 = 6277101735386680763835789423207666416102355444464034512896 by decide]; split <;> omega

/-! What is below P. -/
theorem PP_lit : PP = 57896044618658097711785492504343953926634992332820282019728792003956564819949 := by decide
theorem two255 (m a : Nat) : toF (m % 57896044618658097711785492504343953926634992332820282019728792003956564819968 + 19 * ((m + a * big) / 57896044618658097711785492504343953926634992332820282019728792003956564819968)) = toF (m + a * big) := by
  rw [toF_eq]
  have e : m + a * big = m % 57896044618658097711785492504343953926634992332820282019728792003956564819968 + 57896044618658097711785492504343953926634992332820282019728792003956564819968 * ((m + a * big) / 57896044618658097711785492504343953926634992332820282019728792003956564819968) := by unfold big; omega
  conv => rhs; rw [e]
  generalize (m + a * big) / 57896044618658097711785492504343953926634992332820282019728792003956564819968 = t
  have e2 : m % 57896044618658097711785492504343953926634992332820282019728792003956564819968 + 57896044618658097711785492504343953926634992332820282019728792003956564819968 * t = m % 57896044618658097711785492504343953926634992332820282019728792003956564819968 + 19 * t + PP * t := by rw [PP_lit]; omega
  rw [e2, Nat.add_mul_mod_self_left]
theorem below_yes {r : Nat} (h : r + 19 < 57896044618658097711785492504343953926634992332820282019728792003956564819968) : (toF r).val = r := by
  rw [toF_val, PP_lit, Nat.mod_eq_of_lt (by omega)]
theorem below_no {r : Nat} (h : ¬ r + 19 < 57896044618658097711785492504343953926634992332820282019728792003956564819968) (h2 : r < 115792089237316195423570985008687907853269984665640564039457584007913129639898) : (toF r).val = (r + 19) % 57896044618658097711785492504343953926634992332820282019728792003956564819968 := by
  rw [toF_val, PP_lit]; omega
theorem limb3_high (m : Nat) (h : m < big) : (limb m 3) / 9223372036854775808 = m / 57896044618658097711785492504343953926634992332820282019728792003956564819968 := by
  unfold limb big at *
  rw [show (18446744073709551616 : Nat) ^ 3 = 6277101735386680763835789423207666416102355444464034512896 by decide]; omega
theorem limb3_low (m : Nat) : (lims m).set 3 (limb m 3 % 9223372036854775808) = lims (m % 57896044618658097711785492504343953926634992332820282019728792003956564819968) := by
  unfold lims limb
  simp only [List.set_cons_succ, List.set_cons_zero, Nat.pow_zero, Nat.div_one, Nat.pow_one, show (18446744073709551616 : Nat) ^ 2 = 340282366920938463463374607431768211456 by decide, show (18446744073709551616 : Nat) ^ 3 = 6277101735386680763835789423207666416102355444464034512896 by decide]
  refine congr (congrArg _ ?_) (congr (congrArg _ ?_) (congr (congrArg _ ?_) (congrArg (fun x => [x]) ?_))) <;> omega
end Go.Proofs.YtlfkohanfeejfaaDoor

namespace Go.Proofs.YtlfkohanfeejfaaDoor
open Go.RowKit

theorem run_Add64 (x y c : Nat) (hc : c ≤ 1) (w : World) :
    (callFunc 50 #[.int .u64 (x : Int), .int .u64 (y : Int), .int .u64 (c : Int)]).run Tryd.prog w =
      .ok (.value (.tuple #[.int .u64 (((x + y + c) % 18446744073709551616 : Nat) : Int), .int .u64 (((x + y + c) / 18446744073709551616 : Nat) : Int)])) w := by
  rw [run_callFunc_extern Tryd.func50 (by kernel_rfl) (by kernel_rfl) (by kernel_rfl) (e := add64Entry) (by kernel_rfl), run_add64 x y c (by omega) (by omega) (by omega) (by omega)]
  simp only [Result.andThen]
  congr 5 <;> omega
/-- The model's entry for math/bits.Sub64. -/
def subEntry : Array Value → Sem Value := fun args => do
  let (x, y, b) ← Extern.MathBitsCarry.three "Sub64" args
  pure (Extern.MathBitsCarry.pair ((x + Extern.MathBitsCarry.m64 - y - b) % Extern.MathBitsCarry.m64) (if x < y + b then 1 else 0))
theorem run_subEntry (x y b : Nat) (hb : b ≤ 1) (w : World) :
    (subEntry #[.int .u64 x, .int .u64 y, .int .u64 b]).run Tryd.prog w =
      .ok (.tuple #[.int .u64 (((x + 18446744073709551616 - y - b) % 18446744073709551616 : Nat) : Int), .int .u64 ((if x < y + b then 1 else 0 : Nat) : Int)]) w := by
  have : b = 0 ∨ b = 1 := by omega
  rcases this with rfl | rfl <;> rfl
theorem run_Sub64 (x y b : Nat) (hb : b ≤ 1) (w : World) :
    (callFunc 72 #[.int .u64 (x : Int), .int .u64 (y : Int), .int .u64 (b : Int)]).run Tryd.prog w =
      .ok (.value (.tuple #[.int .u64 (((x + 18446744073709551616 - y - b) % 18446744073709551616 : Nat) : Int), .int .u64 ((if x < y + b then 1 else 0 : Nat) : Int)])) w := by
  rw [run_callFunc_extern Tryd.func72 (by kernel_rfl) (by kernel_rfl) (by kernel_rfl) (e := subEntry) (by kernel_rfl), run_subEntry x y b hb]
  rfl

set_option maxRecDepth 100000 in
set_option maxHeartbeats 1000000 in
theorem Mul64_any (x y : Nat) (hx : x < 18446744073709551616) (hy : y < 18446744073709551616) (w : World) :
    Calls Tryd.prog 82 #[.int .u64 (x : Int), .int .u64 (y : Int)] w fun e w' => e = .returned (.tuple #[.int .u64 ((x * y / 18446744073709551616 : Nat) : Int), .int .u64 ((x * y % 18446744073709551616 : Nat) : Int)]) ∧ w' = w := by
  obtain ⟨bd, bt, bw, hhi⟩ := Lib.mul64_hi x y hx hy
  have ba := Lib.half_mul_le (a := x / 4294967296) (b := y / 4294967296) (by omega) (by omega)
  have bb := Lib.half_mul_le (a := x / 4294967296) (b := y % 4294967296) (by omega) (by omega)
  have bc := Lib.half_mul_le (a := x % 4294967296) (b := y / 4294967296) (by omega) (by omega)
  have ba' : x / 4294967296 * (y / 4294967296) < 18446744073709551616 := by omega
  have bb' : x / 4294967296 * (y % 4294967296) < 18446744073709551616 := by omega
  have bc' : x % 4294967296 * (y / 4294967296) < 18446744073709551616 := by omega
  have bh1 : x / 4294967296 * (y / 4294967296) + (x / 4294967296 * (y % 4294967296) + x % 4294967296 * (y % 4294967296) / 4294967296) / 4294967296 < 18446744073709551616 := by omega
  have bh : x / 4294967296 * (y / 4294967296) + (x / 4294967296 * (y % 4294967296) + x % 4294967296 * (y % 4294967296) / 4294967296) / 4294967296 + ((x / 4294967296 * (y % 4294967296) + x % 4294967296 * (y % 4294967296) / 4294967296) % 4294967296 + x % 4294967296 * (y / 4294967296)) / 4294967296 < 18446744073709551616 := by omega
  go_enter Tryd.func82, Tryd.ntmps82
  go_wp2
  simp only [Mul64.maskN x hx, Mul64.maskN y hy, Mul64.divN, Mul64.mulN, Mul64.addN, Mul64.wrapN _ bd, Mul64.wrapN _ bb', Mul64.wrapN _ bt, Mul64.maskN _ bt, Mul64.wrapN _ bc', Mul64.wrapN _ bw, Mul64.wrapN _ ba', Mul64.wrapN _ bh1, Mul64.wrapN _ bh, Mul64.wrapM (x * y)]
  rw [hhi]
  go_ret2
  exact ⟨rfl, rfl⟩

theorem ret_two {a b c d : Int} (h1 : a = c) (h2 : b = d) : Ending.returned (.tuple #[.int .u64 a, .int .u64 b]) = .returned (.tuple #[.int .u64 c, .int .u64 d]) := by rw [h1, h2]

theorem times_le {x y : Nat} (hx : x < 18446744073709551616) (hy : y < 18446744073709551616) : x * y ≤ 340282366920938463426481119284349108225 := (Nat.mul_le_mul (Nat.le_of_lt_succ hx : x ≤ 18446744073709551615) (Nat.le_of_lt_succ hy : y ≤ 18446744073709551615) :)

set_option maxRecDepth 100000 in
set_option maxHeartbeats 1000000 in
theorem timesPlus_any (x y c d : Nat) (hx : x < 18446744073709551616) (hy : y < 18446744073709551616) (hc : c < 18446744073709551616) (hd : d < 18446744073709551616) (w : World) :
    Calls Tryd.prog 71 #[.int .u64 (x : Int), .int .u64 (y : Int), .int .u64 (c : Int), .int .u64 (d : Int)] w fun e w' => e = .returned (.tuple #[.int .u64 (((x * y + c + d) % 18446744073709551616 : Nat) : Int), .int .u64 (((x * y + c + d) / 18446744073709551616 : Nat) : Int)]) ∧ w' = w := by
  have MM : Hid (∀ W, Calls Tryd.prog 82 #[.int .u64 (x : Int), .int .u64 (y : Int)] W fun e w' => e = .returned (.tuple #[.int .u64 ((x * y / 18446744073709551616 : Nat) : Int), .int .u64 ((x * y % 18446744073709551616 : Nat) : Int)]) ∧ w' = W) := Lib.hid fun W => Mul64_any x y hx hy W
  have hm := times_le hx hy
  generalize x * y = m at *
  have e1 := Lib.hid (run_Add64 (m % 18446744073709551616) c 0 (by omega))
  obtain ⟨s, hs⟩ : ∃ s, s = (m % 18446744073709551616 + c + 0) % 18446744073709551616 := ⟨_, rfl⟩
  obtain ⟨k, hk⟩ : ∃ k, k = (m % 18446744073709551616 + c + 0) / 18446744073709551616 := ⟨_, rfl⟩
  obtain ⟨hi, hhi⟩ : ∃ hi, hi = m / 18446744073709551616 := ⟨_, rfl⟩
  obtain ⟨lo, hlo⟩ : ∃ lo, lo = m % 18446744073709551616 := ⟨_, rfl⟩
  have e2 := Lib.hid (run_Add64 s d 0 (by omega))
  obtain ⟨s2, hs2⟩ : ∃ s2, s2 = (s + d + 0) % 18446744073709551616 := ⟨_, rfl⟩
  obtain ⟨k2, hk2⟩ : ∃ k2, k2 = (s + d + 0) / 18446744073709551616 := ⟨_, rfl⟩
  rw [← hs, ← hk] at e1
  rw [← hs2, ← hk2] at e2
  rw [← hlo] at e1
  rw [← hlo, ← hhi] at MM
  have r1 : Hid (((m + c + d) % 18446744073709551616 : Nat) = s2) := Lib.hid (by omega)
  have r2 : Hid (((m + c + d) / 18446744073709551616 : Nat) = hi + k + k2) := Lib.hid (by omega)
  have w1 : IntKind.u64.wrap ((hi : Int) + (k : Int)) = ((hi + k : Nat) : Int) := by rw [IntKind.wrap_u64]; omega
  have w2 : IntKind.u64.wrap (((hi + k : Nat) : Int) + (k2 : Int)) = ((hi + k + k2 : Nat) : Int) := by rw [IntKind.wrap_u64]; omega
  rw [r1.out, r2.out]
  have W1 := Lib.hid w1
  have W2 := Lib.hid w2
  have A1 : ∀ W, (callFunc 50 #[.int .u64 (lo : Int), .int .u64 (c : Int), .int .u64 0]).run Tryd.prog W = .ok (.value (.tuple #[.int .u64 (s : Int), .int .u64 (k : Int)])) W := e1.out
  have A2 : ∀ W, (callFunc 50 #[.int .u64 (s : Int), .int .u64 (d : Int), .int .u64 0]).run Tryd.prog W = .ok (.value (.tuple #[.int .u64 (s2 : Int), .int .u64 (k2 : Int)])) W := e2.out
  clear hs hk hhi hlo hs2 hk2 r1 r2 w1 w2 hm hx hy hc hd e1 e2
  go_enter Tryd.func71, Tryd.ntmps71
  go_wp2_with (first
    | (go_at_call 82
       refine (MM.out _).mono ?_
       rintro e w2 ⟨rfl, rfl⟩)
    | fail)
  rw [W1.out, W2.out]
  go_ret2
  exact ⟨rfl, rfl⟩
end Go.Proofs.YtlfkohanfeejfaaDoor
