/-
  A statement whose order of evaluation is left open, walked once, in the order of the text: one that makes a block freely, stores into it, and goes on.
-/
import Derived.Test.YthhcjknkmdaeeaaDoorRegion
namespace Go.Proofs.YthhcjknkmdaeeaaDoor
open Go.RowKit

section
variable {P : Program} {ops : Array Oper} {S : World → Prop}

def lexG (Lv : Nat → Oper → Act → Value → Prop) (al : Nat → Bool) (K : Act → Prop) : Nat → List Oper → Act → Prop
  | _, [], a => K a
  | k, o :: rest, a => if al k = true then lexG Lv al K (k + 1) rest a else ∃ v, Lv k o a v ∧ lexG Lv al K (k + 1) rest (a.put o.dst v)

theorem lexG_tr {Lv : Nat → Oper → Act → Value → Prop} {al : Nat → Bool} {K : Act → Prop} : ∀ (l : List Oper) (k : Nat) (a : Act), (∀ j, j < l.length → l[j]? = ops[k + j]?) → lexG Lv al K k l a →
    ∃ vs : Nat → Value, (∀ j o, j < l.length → al (k + j) = false → ops[k + j]? = some o → Lv (k + j) o (lexTr ops al vs k a j) (vs (k + j))) ∧ K (lexTr ops al vs k a l.length)
  | [], _, _, _, h => ⟨fun _ => undef, fun j _ hj => absurd hj (Nat.not_lt_zero j), h⟩
  | o :: rest, k, a, hl, h => by
    have h0 : ops[k]? = some o := by have := hl 0 (by simp); simpa using this.symm
    have hd : dstOf ops k = o.dst := by unfold dstOf; rw [h0]; rfl
    have hl' : ∀ j, j < rest.length → rest[j]? = ops[k + 1 + j]? := fun j hj => by
      have := hl (j + 1) (by simp; omega)
      simpa [Nat.add_assoc, Nat.add_comm 1 j] using this
    unfold lexG at h
    by_cases hal : al k = true
    · rw [if_pos hal] at h
      obtain ⟨vs, hv, hK⟩ := lexG_tr rest (k + 1) a hl' h
      refine ⟨vs, fun j o' hj hf ho' => ?_, ?_⟩
      · cases j with
        | zero => rw [Nat.add_zero, hal] at hf; cases hf
        | succ j =>
          rw [lexTr_front, if_pos hal]
          have e : k + (j + 1) = k + 1 + j := by omega
          rw [e] at hf ho' ⊢
          exact hv j o' (by simpa using hj) hf ho'
      · rw [List.length_cons, lexTr_front, if_pos hal]; exact hK
    · rw [if_neg hal] at h
      obtain ⟨v, hlv, h⟩ := h
      obtain ⟨vs, hv, hK⟩ := lexG_tr rest (k + 1) (a.put o.dst v) hl' h
      have hc : ∀ b j, lexTr ops al (fun i => if i = k then v else vs i) (k + 1) b j = lexTr ops al vs (k + 1) b j := fun b j => lexTr_congr (fun i hi => if_neg (by omega)) j
      have hf : ∀ j, lexTr ops al (fun i => if i = k then v else vs i) k a (j + 1) = lexTr ops al vs (k + 1) (a.put o.dst v) j := fun j => by
        rw [lexTr_front, if_neg hal, hc, hd]
        simp only [if_true]
      refine ⟨fun i => if i = k then v else vs i, fun j o' hj hjf ho' => ?_, ?_⟩
      · cases j with
        | zero =>
          rw [Nat.add_zero] at ho' ⊢
          obtain rfl : o' = o := Option.some.inj (ho'.symm.trans h0)
          simp only [if_true]
          exact hlv
        | succ j =>
          rw [hf]
          have e : k + (j + 1) = k + 1 + j := by omega
          rw [e] at hjf ho' ⊢
          simp only [show k + 1 + j ≠ k by omega, if_false]
          exact hv j o' (by simpa using hj) hjf ho'
      · rw [List.length_cons, hf]; exact hK


/-- Operation o stores into the block that was made freely (its address lies in slot d0): behind it B holds of the address, and S as before. -/
def Stores (P : Program) (S : World → Prop) (A B : Value → World → Prop) (d0 : Tmp) (o : Oper) (a : Act) : Prop :=
  ∀ v w, S w → A v w → ∃ w', S w' ∧ B v w' ∧ ∀ a', execOp a'.eval o = execOp (a.put (some d0) v).eval o → ∀ (K : Act → World → Prop) (Q : Exit → Act → World → Prop), K (a'.put o.dst undef) w' → o.wp P a' w K Q
/-- What one does: the s-th stores, the others leave a value. -/
def LvS (P : Program) (ops : Array Oper) (S : World → Prop) (A B : Value → World → Prop) (d0 : Tmp) (s k : Nat) (o : Oper) (a : Act) (v : Value) : Prop :=
  if k = s then v = undef ∧ Stores P S A B d0 o a else Leaves P ops S o a v

section
variable {A B : Value → World → Prop} {d0 : Tmp} {s j0 : Nat} {K : Act → Prop} {k : Nat} {o : Oper} {rest : List Oper} {a : Act}
theorem lexS_nil {Lv : Nat → Oper → Act → Value → Prop} {al : Nat → Bool} (h : K a) : lexG Lv al K k [] a := h
theorem lexS_free {Lv : Nat → Oper → Act → Value → Prop} {al : Nat → Bool} (hal : al k = true) (h : lexG Lv al K (k + 1) rest a) : lexG Lv al K k (o :: rest) a := by
  unfold lexG; rw [if_pos hal]; exact h
theorem lexS_value {al : Nat → Bool} {v : Value} (hal : al k = false) (hs : (k == s) = false) (hw : Region.wanted o (yielded ops a.tmps) = true) (hr : ∀ w, S w → (execOp a.eval o).run P w = .ok (.value v) w)
    (h : lexG (LvS P ops S A B d0 s) al K (k + 1) rest (a.put o.dst v)) : lexG (LvS P ops S A B d0 s) al K k (o :: rest) a := by
  unfold lexG; rw [if_neg (by rw [hal]; exact Bool.false_ne_true)]; exact ⟨v, by unfold LvS; rw [if_neg (by simpa using hs)]; exact .inl ⟨hw, .inl hr⟩, h⟩
theorem lexS_call {al : Nat → Bool} {v : Value} {f : FuncId} {args : Array Value} (hal : al k = false) (hs : (k == s) = false) (hw : Region.wanted o (yielded ops a.tmps) = true) (hr : ∀ w, S w → (execOp a.eval o).run P w = .ok (.enter f args) w)
    (hc : ∀ w, S w → Calls P f args w (fun e w' => e = .returned v ∧ Below w.heap.size w w'))
    (h : lexG (LvS P ops S A B d0 s) al K (k + 1) rest (a.put o.dst v)) : lexG (LvS P ops S A B d0 s) al K k (o :: rest) a := by
  unfold lexG; rw [if_neg (by rw [hal]; exact Bool.false_ne_true)]; exact ⟨v, by unfold LvS; rw [if_neg (by simpa using hs)]; exact .inl ⟨hw, .inr ⟨f, args, hr, hc⟩⟩, h⟩
theorem lexS_store {al : Nat → Bool} (hal : al k = false) (hs : (k == s) = true) (hd : Stores P S A B d0 o a)
    (h : lexG (LvS P ops S A B d0 s) al K (k + 1) rest (a.put o.dst undef)) : lexG (LvS P ops S A B d0 s) al K k (o :: rest) a := by
  unfold lexG; rw [if_neg (by rw [hal]; exact Bool.false_ne_true)]; exact ⟨undef, by unfold LvS; rw [if_pos (by simpa using hs)]; exact ⟨rfl, hd⟩, h⟩
end

/-- What one of the first n looks at is left by one that it waits for, or by one that waits for it, or by none; the s-th looks at what was made freely, and waits for it. -/
def lookSB (ops : Array Oper) (n s j0 : Nat) : Bool := (List.range n).all fun k => k == j0 || match ops[k]? with
  | some o => (o.looksAt ops).all fun t => (List.range n).all fun j => dstOf ops j != some t || (j == j0 && k == s && Region.waitsFor .any ops s j0) || (!(j == j0) && ((decide (j < k) && Region.waitsFor .any ops k j) || (decide (k < j) && Region.waitsFor .any ops j k)))
  | none => true
def bareSB (ops : Array Oper) (s j0 : Nat) (d0 : Tmp) : Bool := match ops[s]?, ops[j0]? with
  | some o, some oj => o.guard.isNone && o.dst.isNone && oj.guard.isNone && oj.dst == some d0 && (s != j0)
  | _, _ => false
def lexSB (ops : Array Oper) (n s j0 : Nat) (d0 : Tmp) : Bool :=
  Region.noSelect ops && decide (n < ops.size) && Region.sinkB .any ops n && Region.chainB .any ops n && onceB ops n && aheadB ops && lookSB ops n s j0 && bareSB ops s j0 d0 && Region.seqB .any ops (ops.size - n) n (lexCanon ops.size n) && decide (s < n) && decide (j0 < n) && Region.waitsFor .any ops s j0

/-- What is so when those of 'listed' have come up. -/
structure LexInvS (ops : Array Oper) (n s j0 : Nat) (d0 : Tmp) (S : World → Prop) (A B : Value → World → Prop) (vs : Nat → Value) (a0 : Act) (listed : Array Bool) (a : Act) (w : World) : Prop where
  head : HeadInv .any ops n listed
  held : S w
  defers : a.defers = a0.defers
  free : listed.getD j0 false = true → ∃ v, (if listed.getD s false = true then B v w else A v w) ∧ a.tmps[d0]? = (a0.tmps[d0]?).map (fun _ => v)
  slot : ∀ t, (t = d0 → listed.getD j0 false = false) → a.tmps[t]? = slotAt ops n (fun k => k == j0) vs a0 (fun j => listed.getD j false) t

section
variable {Q : Exit → Act → World → Prop} {n s j0 : Nat} {d0 : Tmp} {A B : Value → World → Prop} {vs : Nat → Value} {a0 : Act}

/-- Where one may come up, what it looks at is as in the order of the text; of the s-th but for the slot of what was made freely. -/
theorem look_sameS {listed : Array Bool} {a : Act} {w : World} {k : Nat} {o : Oper} (hon : onceB ops n = true) (hlk : lookSB ops n s j0 = true) (hj0 : j0 < n) (hd0 : dstOf ops j0 = some d0) (hk : k < n) (hak : (k == j0) = false) (ho : ops[k]? = some o)
    (hun : listed.getD k false = false) (hall : ∀ e ∈ o.after, Region.binds .any e = true → listed.getD e.on false = true) (inv : LexInvS ops n s j0 d0 S A B vs a0 listed a w) :
    ∀ t, t ∈ o.looksAt ops → (t = d0 ∧ k = s ∧ listed.getD j0 false = true) ∨ (t ≠ d0 ∧ a.tmps[t]? = (lexTr ops (fun k => k == j0) vs 0 a0 k).tmps[t]?) := fun t ht => by
  have h1 := List.all_eq_true.1 hlk k (List.mem_range.2 hk)
  rw [hak, ho] at h1
  simp only [Bool.false_or] at h1
  have h2 := List.all_eq_true.1 h1 t ht
  rw [(lexTr_slot hon k (Nat.le_of_lt hk)).1 t]
  cases hw : ownOf ops n t with
  | none =>
    have hne : t ≠ d0 := fun e => by subst e; exact ownOf_none hw hj0 hd0
    exact Or.inr ⟨hne, by rw [inv.slot t (fun e => absurd e hne), slotAt_none hw, slotAt_none hw]⟩
  | some j =>
    obtain ⟨hj, hd⟩ := ownOf_some hw
    have h3 := List.all_eq_true.1 h2 j (List.mem_range.2 hj)
    rw [hd] at h3
    simp only [bne_self_eq_false, Bool.false_or, Bool.and_eq_true, Bool.not_eq_true', Bool.or_eq_true, decide_eq_true_eq] at h3
    rcases h3 with ⟨⟨hjj, hks⟩, hwt⟩ | ⟨haj, h3⟩
    · obtain rfl : j = j0 := by simpa using hjj
      obtain rfl : k = s := by simpa using hks
      rw [hd0] at hd
      exact Or.inl ⟨(Option.some.inj hd).symm, rfl, waits_listed ho hall hwt⟩
    · have hne : t ≠ d0 := fun e => by
        subst e
        have := once_spec hon hj hj0 hd hd0
        subst this
        simp at haj
      refine Or.inr ⟨hne, ?_⟩
      rw [inv.slot t (fun e => absurd e hne), slotAt_own hw, slotAt_own hw]
      rcases h3 with ⟨hjk, hwt⟩ | ⟨hkj, hwt⟩
      · simp only [waits_listed ho hall hwt, decide_eq_true hjk]
      · have hjl : listed.getD j false = false := by
          cases hc : listed.getD j false with
          | false => rfl
          | true =>
            obtain ⟨oj, hoj, e, he, hb, hon'⟩ := Region.waitsFor_spec hwt
            have := inv.head.closed j oj hoj hc e he hb
            rw [hon', hun] at this
            cases this
        simp only [hjl, decide_eq_false (show ¬ j < k by omega)]

theorem LexInvS.set {listed : Array Bool} {a : Act} {w w' : World} {k : Nat} {v : Value} (hon : onceB ops n = true) (hj0 : j0 < n) (hd0 : dstOf ops j0 = some d0) (hk : k < n) (hr : k ∈ Region.ready .any ops listed)
    (hw : S w') (hf : k ≠ j0 → listed.getD j0 false = true → ∃ u, (if (listed.setIfInBounds k true).getD s false = true then B u w' else A u w') ∧ a.tmps[d0]? = (a0.tmps[d0]?).map (fun _ => u))
    (hv : if (k == j0) = true then (if (listed.setIfInBounds k true).getD s false = true then B v w' else A v w') else v = vs k) (inv : LexInvS ops n s j0 d0 S A B vs a0 listed a w) : LexInvS ops n s j0 d0 S A B vs a0 (listed.setIfInBounds k true) (a.put (dstOf ops k) v) w' := by
  have hun := (mem_ready.1 hr).1
  have hks : k < listed.size := by
    obtain ⟨_, o, ho, _⟩ := mem_ready.1 hr
    rw [inv.head.size]; exact (Array.getElem?_eq_some_iff.1 ho).1
  have hset : (listed.setIfInBounds k true).getD k false = true := by simp [hks]
  have hne : ∀ j, j ≠ k → (listed.setIfInBounds k true).getD j false = listed.getD j false := fun j hj => getD_set_ne false (Ne.symm hj)
  have hown := ownOf_eq hon hj0 hd0
  refine ⟨inv.head.set hr hk, hw, by rw [put_defers]; exact inv.defers, fun hl => ?_, fun t hft => ?_⟩
  · rw [put_get]
    by_cases e : k = j0
    · subst e
      rw [if_pos hd0]
      rw [if_pos (by simp)] at hv
      refine ⟨v, hv, ?_⟩
      rw [inv.slot d0 (fun _ => getD_both hun), slotAt_own hown]
      simp
    · rw [if_neg (fun hd => e (once_spec hon hk hj0 hd hd0))]
      rw [hne j0 (Ne.symm e)] at hl
      exact hf e hl
  · rw [put_get]
    cases ho : ownOf ops n t with
    | none =>
      have hnt : t ≠ d0 := fun e => by subst e; rw [hown] at ho; cases ho
      rw [if_neg (ownOf_none ho hk), inv.slot t (fun e => absurd e hnt), slotAt_none ho, slotAt_none ho]
    | some j =>
      by_cases e : j = k
      · subst e
        have ha : (j == j0) = false := by
          cases hc : (j == j0) with
          | false => rfl
          | true =>
            obtain rfl : j = j0 := by simpa using hc
            have := hft (Option.some.inj ((ownOf_some ho).2.symm.trans hd0))
            rw [hset] at this
            cases this
        have hnt : t ≠ d0 := fun e2 => by
          subst e2
          rw [hown] at ho
          obtain rfl := Option.some.inj ho
          simp at ha
        rw [if_pos (ownOf_some ho).2, inv.slot t (fun e2 => absurd e2 hnt), slotAt_own ho, slotAt_own ho]
        rw [ha] at hv
        simp only [Bool.false_eq_true, if_false] at hv
        rw [getD_both hun, hset, ha, hv]
        simp
      · rw [if_neg (fun hd => e (once_spec hon (ownOf_some ho).1 hk (ownOf_some ho).2 hd)), inv.slot t (fun e2 => by
          have hj : j = j0 := by subst e2; rw [hown] at ho; exact (Option.some.inj ho).symm
          subst hj
          have := hft e2
          rwa [hne _ e] at this), slotAt_own ho, slotAt_own ho, hne j e]

theorem lexS_sound {l : List Oper} {a0 : Act} (hB : lexSB l.toArray n s j0 d0 = true) (hS : ∀ w w', S w → Below w.heap.size w w' → S w') (hA : ∀ v w w', A v w → Below w.heap.size w w' → A v w') (hBB : ∀ v w w', B v w → Below w.heap.size w w' → B v w')
    (hal : ∀ o, l[j0]? = some o → ∀ f w, S w → ∃ v w', (execOp f o).run P w = .ok (.value v) w' ∧ A v w' ∧ Below w.heap.size w w')
    (hv : ∀ k o, k < n → (k == j0) = false → l[k]? = some o → LvS P l.toArray S A B d0 s k o (lexTr l.toArray (fun k => k == j0) vs 0 a0 k) (vs k))
    (hK : ∀ a' w' v, S w' → B v w' → a' = (lexTr l.toArray (fun k => k == j0) vs 0 a0 n).put (some d0) v → wpList P l.toArray Q (l.drop n) a' w') :
    ∀ (r : Nat) (listed : Array Bool) (a : Act) (w : World), lexLeft listed n = r → LexInvS l.toArray n s j0 d0 S A B vs a0 listed a w → wpAny P .any l.toArray Q (r + (l.toArray.size - n)) listed a w := by
  simp only [lexSB, Bool.and_eq_true, decide_eq_true_eq] at hB
  obtain ⟨⟨⟨⟨⟨⟨⟨⟨⟨⟨⟨hsel, hn⟩, hsi⟩, hch⟩, hon⟩, hah⟩, hlk⟩, hba⟩, hseq⟩, hsn⟩, hjn⟩, hwaits⟩ := hB
  have hj0s : j0 < l.toArray.size := by omega
  have hss : s < l.toArray.size := by omega
  unfold bareSB at hba
  rw [Array.getElem?_eq_getElem hss, Array.getElem?_eq_getElem hj0s] at hba
  simp only [Bool.and_eq_true, Option.isNone_iff_eq_none, beq_iff_eq, bne_iff_ne] at hba
  obtain ⟨⟨⟨⟨hgs, hds⟩, hgj⟩, hdj⟩, hsj⟩ := hba
  have hd0 : dstOf l.toArray j0 = some d0 := by unfold dstOf; rw [Array.getElem?_eq_getElem hj0s]; exact hdj
  have hown := ownOf_eq hon hjn hd0
  intro r
  induction r with
  | zero =>
    intro listed a w hr inv
    have hl : ∀ i, i < n → listed.getD i true = true := lexLeft_zero n hr
    have hlf : ∀ i, i < n → listed.getD i false = true := fun i hi => by
      have h1 := hl i hi
      have h2 : i < listed.size := by rw [inv.head.size]; omega
      simp [h2] at h1 ⊢
      exact h1
    have hc : listed = lexCanon l.toArray.size n := by
      refine Array.ext (by rw [inv.head.size]; simp [lexCanon]) fun i h1 h2 => ?_
      have h3 : (lexCanon l.toArray.size n)[i] = decide (i < n) := by simp [lexCanon]
      rw [h3]
      have h4 : listed.getD i true = listed[i] := by simp [h1]
      rcases Nat.lt_or_ge i n with h5 | h5
      · rw [← h4, hl i h5, decide_eq_true h5]
      · have := inv.head.tail i h5 (by rw [← inv.head.size]; exact h1)
        rw [← h4, this, decide_eq_false (by omega)]
    obtain ⟨ts, td⟩ := lexTr_slot (al := fun k => k == j0) (vs := vs) (a0 := a0) hon n (Nat.le_refl _)
    obtain ⟨v, hv1, hv2⟩ := inv.free (hlf j0 hjn)
    rw [hlf s hsn, if_pos rfl] at hv1
    have hact : a = (lexTr l.toArray (fun k => k == j0) vs 0 a0 n).put (some d0) v := act_ext (by rw [put_defers]; exact inv.defers.trans td.symm) fun t => by
      rw [put_get]
      by_cases e : d0 = t
      · subst e
        rw [if_pos rfl, hv2, ts d0, slotAt_own hown]
        simp
      · rw [if_neg (by simpa using e), inv.slot t (fun e2 => absurd e2.symm e), ts t]
        cases ho : ownOf l.toArray n t with
        | none => rw [slotAt_none ho, slotAt_none ho]
        | some j =>
          rw [slotAt_own ho, slotAt_own ho]
          have := (ownOf_some ho).1
          simp only [hlf j this, decide_eq_true this]
    have hw := hK a w v inv.held hv1 hact
    rw [Nat.zero_add, hc]
    have hdl : (l.drop n).length = l.toArray.size - n := by simp
    rw [← hdl]
    exact wpAny_of_seq (md := .any) (l.drop n) n _ a w (fun j => by simp [List.getElem?_drop]) (by rw [hdl]; exact hseq) hw
  | succ r ih =>
    intro listed a w hr inv
    obtain ⟨m, hm, hum⟩ := lexLeft_some n (by rw [hr]; omega)
    -- the least that has not come up may come up
    have hleast : ∃ m, m < n ∧ listed.getD m true = false ∧ ∀ i, i < m → listed.getD i true = true := by
      have : ∀ b, ∀ m, m ≤ b → m < n → listed.getD m true = false → ∃ m, m < n ∧ listed.getD m true = false ∧ ∀ i, i < m → listed.getD i true = true := by
        intro b
        induction b with
        | zero => intro m hmb hmn hmu; exact ⟨m, hmn, hmu, fun i hi => by omega⟩
        | succ b ihb =>
          intro m hmb hmn hmu
          by_cases h : ∃ i, i < m ∧ listed.getD i true = false
          · obtain ⟨i, hi, hiu⟩ := h
            exact ihb i (by omega) (by omega) hiu
          · exact ⟨m, hmn, hmu, fun i hi => by
              cases hc : listed.getD i true with
              | true => rfl
              | false => exact absurd ⟨i, hi, hc⟩ h⟩
      exact this m m (Nat.le_refl _) hm hum
    obtain ⟨m, hm, hum, hlow⟩ := hleast
    have hmr : m ∈ Region.ready .any l.toArray listed := by
      have hml : m < l.toArray.size := by omega
      refine mem_ready.2 ⟨hum, l.toArray[m], Array.getElem?_eq_getElem hml, fun e he hb => ?_⟩
      have h1 := List.all_eq_true.1 hah m (List.mem_range.2 hml)
      rw [Array.getElem?_eq_getElem hml] at h1
      have h2 := Array.all_eq_true_iff_forall_mem.1 h1 e he
      rw [hb] at h2
      have h3 : e.on < m := by simpa using h2
      have h4 := hlow e.on h3
      have h5 : e.on < listed.size := by rw [inv.head.size]; omega
      simp [h5] at h4 ⊢
      exact h4
    rw [show r + 1 + (l.toArray.size - n) = (r + (l.toArray.size - n)) + 1 by omega]
    refine ⟨fun h0 => (by rw [h0] at hmr; cases hmr), fun i hi => ?_⟩
    have hin : i < n := by
      rcases Nat.lt_or_ge i n with h | h
      · exact h
      · exact absurd hi (tail_waits hsi hch hn inv.head _ m rfl hm hum i h)
    obtain ⟨hun, o, ho, hall⟩ := mem_ready.1 hi
    have hol : l[i]? = some o := by simpa using ho
    have hdo : dstOf l.toArray i = o.dst := by unfold dstOf; rw [ho]; rfl
    have hi2 : i < listed.size := by rw [inv.head.size]; omega
    have hleft := lexLeft_set hi2 hun n hin
    have hset : (listed.setIfInBounds i true).getD i false = true := by simp [hi2]
    have hgo : ∀ v w', S w' → (i ≠ j0 → listed.getD j0 false = true → ∃ u, (if (listed.setIfInBounds i true).getD s false = true then B u w' else A u w') ∧ a.tmps[d0]? = (a0.tmps[d0]?).map (fun _ => u)) →
        (if (i == j0) = true then (if (listed.setIfInBounds i true).getD s false = true then B v w' else A v w') else v = vs i) → wpAny P .any l.toArray Q (r + (l.toArray.size - n)) (listed.setIfInBounds i true) (a.put o.dst v) w' := fun v w' h1 h2 h3 => by
      rw [← hdo]
      exact ih _ _ _ (by omega) (inv.set hon hjn hd0 hin hi h1 h2 h3)
    -- what was made freely is kept by whatever does not store
    have hkeep : i ≠ s → ∀ w', Below w.heap.size w w' → i ≠ j0 → listed.getD j0 false = true → ∃ u, (if (listed.setIfInBounds i true).getD s false = true then B u w' else A u w') ∧ a.tmps[d0]? = (a0.tmps[d0]?).map (fun _ => u) := fun hne w' hb _ hjl => by
      obtain ⟨u, hu, hu2⟩ := inv.free hjl
      refine ⟨u, ?_, hu2⟩
      rw [getD_set_ne false hne]
      split at hu
      · next h => rw [if_pos h]; exact hBB _ _ _ hu hb
      · next h => rw [if_neg h]; exact hA _ _ _ hu hb
    unfold wpOp
    simp only [ho]
    by_cases ha : i = j0
    · subst ha
      obtain rfl : o = l.toArray[i] := Option.some.inj (ho.symm.trans (Array.getElem?_eq_getElem hj0s))
      have hw : Region.wanted l.toArray[i] (yielded l.toArray a.tmps) = true := by unfold Region.wanted; rw [hgj]
      obtain ⟨v, w', hrun, hAv, hb⟩ := hal _ hol a.eval w inv.held
      -- the store waits for it
      have hsl : listed.getD s false = false := by
        cases hc : listed.getD s false with
        | false => rfl
        | true =>
          have hcl := inv.head.closed s _ (Array.getElem?_eq_getElem hss) hc
          have := waits_listed (listed := listed) (Array.getElem?_eq_getElem hss) hcl hwaits
          rw [getD_both hun] at this
          cases this
      rw [if_pos hw]
      refine .inl ?_
      unfold Oper.wp
      rw [hrun]
      refine hgo v w' (hS _ _ inv.held hb) (fun h => absurd rfl h) ?_
      rw [if_pos (by simp), getD_set_ne false (Ne.symm hsj), hsl]
      simpa using hAv
    · have ha' : (i == j0) = false := by simpa using ha
      have hlook := look_sameS hon hlk hjn hd0 hin ha' ho (getD_both hun) hall inv
      have hsel' : ∀ cs b, o.op ≠ .select cs b := fun cs b => Region.noSelect_spec hsel i o cs b ho
      have hvi := hv i o hin ha' hol
      unfold LvS at hvi
      by_cases hs : i = s
      · subst hs
        rw [if_pos rfl] at hvi
        obtain ⟨hu, hst⟩ := hvi
        obtain rfl : o = l.toArray[i] := Option.some.inj (ho.symm.trans (Array.getElem?_eq_getElem hss))
        have hw : Region.wanted l.toArray[i] (yielded l.toArray a.tmps) = true := by unfold Region.wanted; rw [hgs]
        have hjl : listed.getD j0 false = true := waits_listed ho hall hwaits
        obtain ⟨v, hv1, hv2⟩ := inv.free hjl
        rw [getD_both hun] at hv1
        simp only [Bool.false_eq_true, if_false] at hv1
        obtain ⟨w', hS', hB', hgoes⟩ := hst v w inv.held hv1
        have he : execOp a.eval l.toArray[i] = execOp ((lexTr l.toArray (fun k => k == j0) vs 0 a0 i).put (some d0) v).eval l.toArray[i] := execOp_at hsel' fun t ht => by
          rw [put_get]
          rcases hlook t ht with ⟨rfl, _, _⟩ | ⟨hne, h⟩
          · rw [if_pos rfl, hv2, (lexTr_slot hon i (Nat.le_of_lt hin)).1 t, slotAt_own hown]
            simp
          · rw [if_neg (by simpa using Ne.symm hne)]; exact h
        rw [if_pos hw]
        refine .inl (hgoes a he _ _ ?_)
        refine hgo undef w' hS' (fun _ _ => ⟨v, by rw [hset, if_pos rfl]; exact hB', hv2⟩) (by rw [ha']; simpa using hu.symm)
      · rw [if_neg hs] at hvi
        have hl2 : ∀ t, t ∈ o.looksAt l.toArray → a.tmps[t]? = (lexTr l.toArray (fun k => k == j0) vs 0 a0 i).tmps[t]? := fun t ht => (hlook t ht).elim (fun h => absurd h.2.1 hs) (fun h => h.2)
        unfold Leaves at hvi
        rw [← wanted_at hl2] at hvi
        rcases hvi with ⟨hw, hd⟩ | ⟨hw, hu⟩
        · rw [if_pos hw]
          refine .inl ?_
          unfold Oper.wp
          rw [execOp_at hsel' hl2]
          rcases hd with hd | ⟨f, args, hrun, hc⟩
          · rw [hd w inv.held]
            exact hgo _ w inv.held (hkeep hs w (Below.refl _ w)) (by rw [ha']; simp)
          · rw [hrun w inv.held, Oper.upon_enter]
            refine (hc w inv.held).mono fun e w' he => ?_
            obtain ⟨rfl, hb⟩ := he
            exact hgo _ w' (hS _ _ inv.held hb) (hkeep hs w' hb) (by rw [ha']; simp)
        · rw [hw]
          simp only [Bool.false_eq_true, if_false]
          exact hgo undef w inv.held (hkeep hs w (Below.refl _ w)) (by rw [ha']; simpa using hu.symm)
end

/-- The region, walked in the order of the text: the j0-th makes a block freely (its address in slot d0), the s-th stores into it. -/
theorem wp_region_lexS {Q : Exit → Act → World → Prop} {id : Nat} {a : Act} {w : World} {l : List Oper} (n s j0 : Nat) (d0 : Tmp) (A B : Value → World → Prop) (S : World → Prop)
    (hm : P.follows .mixedOrders = true) (hB : lexSB l.toArray n s j0 d0 = true) (h0 : S w.drew) (hS : ∀ w w', S w → Below w.heap.size w w' → S w') (hA : ∀ v w w', A v w → Below w.heap.size w w' → A v w') (hBB : ∀ v w w', B v w → Below w.heap.size w w' → B v w')
    (hal : ∀ o, l[j0]? = some o → ∀ f w, S w → ∃ v w', (execOp f o).run P w = .ok (.value v) w' ∧ A v w' ∧ Below w.heap.size w w')
    (h : lexG (LvS P l.toArray S A B d0 s) (fun k => k == j0) (fun b => ∀ w' v, S w' → B v w' → wpList P l.toArray Q (l.drop n) (b.put (some d0) v) w') 0 (l.take n) a) : (Code.region id l.toArray true).wp P Q a w := by
  have hn : n < l.length := by
    have hB' := hB
    simp only [lexSB, Bool.and_eq_true, decide_eq_true_eq] at hB'
    simpa using hB'.1.1.1.1.1.1.1.1.1.1.2
  have htl : (l.take n).length = n := by simp; omega
  obtain ⟨vs, hv, hK⟩ := lexG_tr (ops := l.toArray) (l.take n) 0 a (fun j hj => by
    rw [htl] at hj
    simp [hj]) h
  rw [htl] at hv hK
  refine wp_region_any hm ?_
  have inv0 : LexInvS l.toArray n s j0 d0 S A B vs a (Array.replicate l.toArray.size false) a { w with drawn := w.drawn + 1 } := by
    refine ⟨⟨by simp, fun j oj _ hl => (by rw [getD_replicate_false] at hl; cases hl), fun t _ ht => getD_in (by simpa using ht) (getD_replicate_false _ _)⟩, h0, rfl, fun hl => (by rw [getD_replicate_false] at hl; cases hl), fun t _ => ?_⟩
    cases ho : ownOf l.toArray n t with
    | none => rw [slotAt_none ho]
    | some j => rw [slotAt_own ho, getD_replicate_false]; simp
  have := lexS_sound (P := P) (Q := Q) (vs := vs) (a0 := a) hB hS hA hBB hal (fun k o hk hak ho => by
    have := hv k o hk (by rw [Nat.zero_add]; exact hak) (by rw [Nat.zero_add]; simpa using ho)
    rwa [Nat.zero_add] at this) (fun a' w' v h1 h2 h3 => by subst h3; exact hK w' v h1 h2) n _ a _ (lexLeft_start _ n (by simp; omega)) inv0
  rw [show n + (l.toArray.size - n) = l.toArray.size by simp; omega] at this
  exact this
end
end Go.Proofs.YthhcjknkmdaeeaaDoor
