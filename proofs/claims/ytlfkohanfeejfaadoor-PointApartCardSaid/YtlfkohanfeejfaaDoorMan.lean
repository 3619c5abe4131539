/-
  A statement whose order of evaluation is left open, walked once, in the order of the text: one that makes a block freely, stores into it, and goes on.
  A value stored into a block that was made freely, whatever lies in it.
  Points as pairs of numbers: what the laws of layers 6 and on share; the document's functions said of points.
-/
import Derived.Test.YtlfkohanfeejfaaDoorMah
import Derived.Test.YtlfkohanfeejfaaDoorMai
import Derived.Test.YtlfkohanfeejfaaDoorMak
import Derived.Test.YtlfkohanfeejfaaDoorMam
namespace Go.Proofs.YtlfkohanfeejfaaDoor
open Go.RowKit

section
variable {P : Program} {ops : Array Oper} {S : World → Prop}

def lexG (Lv : Nat → Oper → Act → Value → Prop) (al : Nat → Bool) (K : Act → Prop) : Nat → List Oper → Act → Prop
  | _, [], a => K a
  | k, o :: rest, a => if al k = true then lexG Lv al K (k + 1) rest a else ∃ v, Lv k o a v ∧ lexG Lv al K (k + 1) rest (a.put o.dst v)

theorem lexG_tr {Lv : Nat → Oper → Act → Value → Prop} {al : Nat → Bool} {K : Act → Prop} : ∀ (l : List Oper) (k : Nat) (a : Act), (∀ j, j < l.length → l[j]? = ops[k + j]?) → lexG Lv al K k l a →
    ∃ vs : Nat → Value, (∀ j o, j < l.length → al (k + j) = false → ops[k + j]? = some o → Lv (k + j) o (lexTr ops al vs k a j) (vs (k + j))) ∧ K (lexTr ops al vs k a l.length)
  | [], _, _, _, h => ⟨fun _ => undef, fun j _ hj => absurd hj (Nat.not_lt_zero j), h⟩
  | o :: rest, k, a, hl, h => by
    have h0 : ops[k]? = some o := by have := hl 0 (by simp); simpa using this.symm
    have hd : dstOf ops k = o.dst := by unfold dstOf; rw [h0]; rfl
    have hl' : ∀ j, j < rest.length → rest[j]? = ops[k + 1 + j]? := fun j hj => by
      have := hl (j + 1) (by simp; omega)
      simpa [Nat.add_assoc, Nat.add_comm 1 j] using this
    unfold lexG at h
    by_cases hal : al k = true
    · rw [if_pos hal] at h
      obtain ⟨vs, hv, hK⟩ := lexG_tr rest (k + 1) a hl' h
      refine ⟨vs, fun j o' hj hf ho' => ?_, ?_⟩
      · cases j with
        | zero => rw [Nat.add_zero, hal] at hf; cases hf
        | succ j =>
          rw [lexTr_front, if_pos hal]
          have e : k + (j + 1) = k + 1 + j := by omega
          rw [e] at hf ho' ⊢
          exact hv j o' (by simpa using hj) hf ho'
      · rw [List.length_cons, lexTr_front, if_pos hal]; exact hK
    · rw [if_neg hal] at h
      obtain ⟨v, hlv, h⟩ := h
      obtain ⟨vs, hv, hK⟩ := lexG_tr rest (k + 1) (a.put o.dst v) hl' h
      have hc : ∀ b j, lexTr ops al (fun i => if i = k then v else vs i) (k + 1) b j = lexTr ops al vs (k + 1) b j := fun b j => lexTr_congr (fun i hi => if_neg (by omega)) j
      have hf : ∀ j, lexTr ops al (fun i => if i = k then v else vs i) k a (j + 1) = lexTr ops al vs (k + 1) (a.put o.dst v) j := fun j => by
        rw [lexTr_front, if_neg hal, hc, hd]
        simp only [if_true]
      refine ⟨fun i => if i = k then v else vs i, fun j o' hj hjf ho' => ?_, ?_⟩
      · cases j with
        | zero =>
          rw [Nat.add_zero] at ho' ⊢
          obtain rfl : o' = o := Option.some.inj (ho'.symm.trans h0)
          simp only [if_true]
          exact hlv
        | succ j =>
          rw [hf]
          have e : k + (j + 1) = k + 1 + j := by omega
          rw [e] at hjf ho' ⊢
          simp only [show k + 1 + j ≠ k by omega, if_false]
          exact hv j o' (by simpa using hj) hjf ho'
      · rw [List.length_cons, hf]; exact hK


/-- Operation o stores into the block that was made freely (its address lies in slot d0): behind it B holds of the address, and S as before. -/
def Stores (P : Program) (S : World → Prop) (A B : Value → World → Prop) (d0 : Tmp) (o : Oper) (a : Act) : Prop :=
  ∀ v w, S w → A v w → ∃ w', S w' ∧ B v w' ∧ ∀ a', execOp a'.eval o = execOp (a.put (some d0) v).eval o → ∀ (K : Act → World → Prop) (Q : Exit → Act → World → Prop), K (a'.put o.dst undef) w' → o.wp P a' w K Q
/-- What one does: the s-th stores, the others leave a value. -/
def LvS (P : Program) (ops : Array Oper) (S : World → Prop) (A B : Value → World → Prop) (d0 : Tmp) (s k : Nat) (o : Oper) (a : Act) (v : Value) : Prop :=
  if k = s then v = undef ∧ Stores P S A B d0 o a else Leaves P ops S o a v

section
variable {A B : Value → World → Prop} {d0 : Tmp} {s j0 : Nat} {K : Act → Prop} {k : Nat} {o : Oper} {rest : List Oper} {a : Act}
theorem lexS_nil {Lv : Nat → Oper → Act → Value → Prop} {al : Nat → Bool} (h : K a) : lexG Lv al K k [] a := h
theorem lexS_free {Lv : Nat → Oper → Act → Value → Prop} {al : Nat → Bool} (hal : al k = true) (h : lexG Lv al K (k + 1) rest a) : lexG Lv al K k (o :: rest) a := by
  unfold lexG; rw [if_pos hal]; exact h
theorem lexS_value {al : Nat → Bool} {v : Value} (hal : al k = false) (hs : (k == s) = false) (hw : Region.wanted o (yielded ops a.tmps) = true) (hr : ∀ w, S w → (execOp a.eval o).run P w = .ok (.value v) w)
    (h : lexG (LvS P ops S A B d0 s) al K (k + 1) rest (a.put o.dst v)) : lexG (LvS P ops S A B d0 s) al K k (o :: rest) a := by
  unfold lexG; rw [if_neg (by rw [hal]; exact Bool.false_ne_true)]; exact ⟨v, by unfold LvS; rw [if_neg (by simpa using hs)]; exact .inl ⟨hw, .inl hr⟩, h⟩
theorem lexS_call {al : Nat → Bool} {v : Value} {f : FuncId} {args : Array Value} (hal : al k = false) (hs : (k == s) = false) (hw : Region.wanted o (yielded ops a.tmps) = true) (hr : ∀ w, S w → (execOp a.eval o).run P w = .ok (.enter f args) w)
    (hc : ∀ w, S w → Calls P f args w (fun e w' => e = .returned v ∧ Below w.heap.size w w'))
    (h : lexG (LvS P ops S A B d0 s) al K (k + 1) rest (a.put o.dst v)) : lexG (LvS P ops S A B d0 s) al K k (o :: rest) a := by
  unfold lexG; rw [if_neg (by rw [hal]; exact Bool.false_ne_true)]; exact ⟨v, by unfold LvS; rw [if_neg (by simpa using hs)]; exact .inl ⟨hw, .inr ⟨f, args, hr, hc⟩⟩, h⟩
theorem lexS_store {al : Nat → Bool} (hal : al k = false) (hs : (k == s) = true) (hd : Stores P S A B d0 o a)
    (h : lexG (LvS P ops S A B d0 s) al K (k + 1) rest (a.put o.dst undef)) : lexG (LvS P ops S A B d0 s) al K k (o :: rest) a := by
  unfold lexG; rw [if_neg (by rw [hal]; exact Bool.false_ne_true)]; exact ⟨undef, by unfold LvS; rw [if_pos (by simpa using hs)]; exact ⟨rfl, hd⟩, h⟩
end

/-- What one of the first n looks at is left by one that it waits for, or by one that waits for it, or by none; the s-th looks at what was made freely, and waits for it. -/
def lookSB (ops : Array Oper) (n s j0 : Nat) : Bool := (List.range n).all fun k => k == j0 || match ops[k]? with
  | some o => (o.looksAt ops).all fun t => (List.range n).all fun j => dstOf ops j != some t || (j == j0 && k == s && Region.waitsFor .any ops s j0) || (!(j == j0) && ((decide (j < k) && Region.waitsFor .any ops k j) || (decide (k < j) && Region.waitsFor .any ops j k)))
  | none => true
def bareSB (ops : Array Oper) (s j0 : Nat) (d0 : Tmp) : Bool := match ops[s]?, ops[j0]? with
  | some o, some oj => o.guard.isNone && o.dst.isNone && oj.guard.isNone && oj.dst == some d0 && (s != j0)
  | _, _ => false
def lexSB (ops : Array Oper) (n s j0 : Nat) (d0 : Tmp) : Bool :=
  Region.noSelect ops && decide (n < ops.size) && Region.sinkB .any ops n && Region.chainB .any ops n && onceB ops n && aheadB ops && lookSB ops n s j0 && bareSB ops s j0 d0 && Region.seqB .any ops (ops.size - n) n (lexCanon ops.size n) && decide (s < n) && decide (j0 < n) && Region.waitsFor .any ops s j0

/-- What is so when those of 'listed' have come up. -/
structure LexInvS (ops : Array Oper) (n s j0 : Nat) (d0 : Tmp) (S : World → Prop) (A B : Value → World → Prop) (vs : Nat → Value) (a0 : Act) (listed : Array Bool) (a : Act) (w : World) : Prop where
  head : HeadInv .any ops n listed
  held : S w
  defers : a.defers = a0.defers
  free : listed.getD j0 false = true → ∃ v, (if listed.getD s false = true then B v w else A v w) ∧ a.tmps[d0]? = (a0.tmps[d0]?).map (fun _ => v)
  slot : ∀ t, (t = d0 → listed.getD j0 false = false) → a.tmps[t]? = slotAt ops n (fun k => k == j0) vs a0 (fun j => listed.getD j false) t

section
variable {Q : Exit → Act → World → Prop} {n s j0 : Nat} {d0 : Tmp} {A B : Value → World → Prop} {vs : Nat → Value} {a0 : Act}

/-- Where one may come up, what it looks at is as in the order of the text; of the s-th but for the slot of what was made freely. -/
theorem look_sameS {listed : Array Bool} {a : Act} {w : World} {k : Nat} {o : Oper} (hon : onceB ops n = true) (hlk : lookSB ops n s j0 = true) (hj0 : j0 < n) (hd0 : dstOf ops j0 = some d0) (hk : k < n) (hak : (k == j0) = false) (ho : ops[k]? = some o)
    (hun : listed.getD k false = false) (hall : ∀ e ∈ o.after, Region.binds .any e = true → listed.getD e.on false = true) (inv : LexInvS ops n s j0 d0 S A B vs a0 listed a w) :
    ∀ t, t ∈ o.looksAt ops → (t = d0 ∧ k = s ∧ listed.getD j0 false = true) ∨ (t ≠ d0 ∧ a.tmps[t]? = (lexTr ops (fun k => k == j0) vs 0 a0 k).tmps[t]?) := fun t ht => by
  have h1 := List.all_eq_true.1 hlk k (List.mem_range.2 hk)
  rw [hak, ho] at h1
  simp only [Bool.false_or] at h1
  have h2 := List.all_eq_true.1 h1 t ht
  rw [(lexTr_slot hon k (Nat.le_of_lt hk)).1 t]
  cases hw : ownOf ops n t with
  | none =>
    have hne : t ≠ d0 := fun e => by subst e; exact ownOf_none hw hj0 hd0
    exact Or.inr ⟨hne, by rw [inv.slot t (fun e => absurd e hne), slotAt_none hw, slotAt_none hw]⟩
  | some j =>
    obtain ⟨hj, hd⟩ := ownOf_some hw
    have h3 := List.all_eq_true.1 h2 j (List.mem_range.2 hj)
    rw [hd] at h3
    simp only [bne_self_eq_false, Bool.false_or, Bool.and_eq_true, Bool.not_eq_true', Bool.or_eq_true, decide_eq_true_eq] at h3
    rcases h3 with ⟨⟨hjj, hks⟩, hwt⟩ | ⟨haj, h3⟩
    · obtain rfl : j = j0 := by simpa using hjj
      obtain rfl : k = s := by simpa using hks
      rw [hd0] at hd
      exact Or.inl ⟨(Option.some.inj hd).symm, rfl, waits_listed ho hall hwt⟩
    · have hne : t ≠ d0 := fun e => by
        subst e
        have := once_spec hon hj hj0 hd hd0
        subst this
        simp at haj
      refine Or.inr ⟨hne, ?_⟩
      rw [inv.slot t (fun e => absurd e hne), slotAt_own hw, slotAt_own hw]
      rcases h3 with ⟨hjk, hwt⟩ | ⟨hkj, hwt⟩
      · simp only [waits_listed ho hall hwt, decide_eq_true hjk]
      · have hjl : listed.getD j false = false := by
          cases hc : listed.getD j false with
          | false => rfl
          | true =>
            obtain ⟨oj, hoj, e, he, hb, hon'⟩ := Region.waitsFor_spec hwt
            have := inv.head.closed j oj hoj hc e he hb
            rw [hon', hun] at this
            cases this
        simp only [hjl, decide_eq_false (show ¬ j < k by omega)]

theorem LexInvS.set {listed : Array Bool} {a : Act} {w w' : World} {k : Nat} {v : Value} (hon : onceB ops n = true) (hj0 : j0 < n) (hd0 : dstOf ops j0 = some d0) (hk : k < n) (hr : k ∈ Region.ready .any ops listed)
    (hw : S w') (hf : k ≠ j0 → listed.getD j0 false = true → ∃ u, (if (listed.setIfInBounds k true).getD s false = true then B u w' else A u w') ∧ a.tmps[d0]? = (a0.tmps[d0]?).map (fun _ => u))
    (hv : if (k == j0) = true then (if (listed.setIfInBounds k true).getD s false = true then B v w' else A v w') else v = vs k) (inv : LexInvS ops n s j0 d0 S A B vs a0 listed a w) : LexInvS ops n s j0 d0 S A B vs a0 (listed.setIfInBounds k true) (a.put (dstOf ops k) v) w' := by
  have hun := (mem_ready.1 hr).1
  have hks : k < listed.size := by
    obtain ⟨_, o, ho, _⟩ := mem_ready.1 hr
    rw [inv.head.size]; exact (Array.getElem?_eq_some_iff.1 ho).1
  have hset : (listed.setIfInBounds k true).getD k false = true := by simp [hks]
  have hne : ∀ j, j ≠ k → (listed.setIfInBounds k true).getD j false = listed.getD j false := fun j hj => getD_set_ne false (Ne.symm hj)
  have hown := ownOf_eq hon hj0 hd0
  refine ⟨inv.head.set hr hk, hw, by rw [put_defers]; exact inv.defers, fun hl => ?_, fun t hft => ?_⟩
  · rw [put_get]
    by_cases e : k = j0
    · subst e
      rw [if_pos hd0]
      rw [if_pos (by simp)] at hv
      refine ⟨v, hv, ?_⟩
      rw [inv.slot d0 (fun _ => getD_both hun), slotAt_own hown]
      simp
    · rw [if_neg (fun hd => e (once_spec hon hk hj0 hd hd0))]
      rw [hne j0 (Ne.symm e)] at hl
      exact hf e hl
  · rw [put_get]
    cases ho : ownOf ops n t with
    | none =>
      have hnt : t ≠ d0 := fun e => by subst e; rw [hown] at ho; cases ho
      rw [if_neg (ownOf_none ho hk), inv.slot t (fun e => absurd e hnt), slotAt_none ho, slotAt_none ho]
    | some j =>
      by_cases e : j = k
      · subst e
        have ha : (j == j0) = false := by
          cases hc : (j == j0) with
          | false => rfl
          | true =>
            obtain rfl : j = j0 := by simpa using hc
            have := hft (Option.some.inj ((ownOf_some ho).2.symm.trans hd0))
            rw [hset] at this
            cases this
        have hnt : t ≠ d0 := fun e2 => by
          subst e2
          rw [hown] at ho
          obtain rfl := Option.some.inj ho
          simp at ha
        rw [if_pos (ownOf_some ho).2, inv.slot t (fun e2 => absurd e2 hnt), slotAt_own ho, slotAt_own ho]
        rw [ha] at hv
        simp only [Bool.false_eq_true, if_false] at hv
        rw [getD_both hun, hset, ha, hv]
        simp
      · rw [if_neg (fun hd => e (once_spec hon (ownOf_some ho).1 hk (ownOf_some ho).2 hd)), inv.slot t (fun e2 => by
          have hj : j = j0 := by subst e2; rw [hown] at ho; exact (Option.some.inj ho).symm
          subst hj
          have := hft e2
          rwa [hne _ e] at this), slotAt_own ho, slotAt_own ho, hne j e]

theorem lexS_sound {l : List Oper} {a0 : Act} (hB : lexSB l.toArray n s j0 d0 = true) (hS : ∀ w w', S w → Below w.heap.size w w' → S w') (hA : ∀ v w w', A v w → Below w.heap.size w w' → A v w') (hBB : ∀ v w w', B v w → Below w.heap.size w w' → B v w')
    (hal : ∀ o, l[j0]? = some o → ∀ f w, S w → ∃ v w', (execOp f o).run P w = .ok (.value v) w' ∧ A v w' ∧ Below w.heap.size w w')
    (hv : ∀ k o, k < n → (k == j0) = false → l[k]? = some o → LvS P l.toArray S A B d0 s k o (lexTr l.toArray (fun k => k == j0) vs 0 a0 k) (vs k))
    (hK : ∀ a' w' v, S w' → B v w' → a' = (lexTr l.toArray (fun k => k == j0) vs 0 a0 n).put (some d0) v → wpList P l.toArray Q (l.drop n) a' w') :
    ∀ (r : Nat) (listed : Array Bool) (a : Act) (w : World), lexLeft listed n = r → LexInvS l.toArray n s j0 d0 S A B vs a0 listed a w → wpAny P .any l.toArray Q (r + (l.toArray.size - n)) listed a w := by
  simp only [lexSB, Bool.and_eq_true, decide_eq_true_eq] at hB
  obtain ⟨⟨⟨⟨⟨⟨⟨⟨⟨⟨⟨hsel, hn⟩, hsi⟩, hch⟩, hon⟩, hah⟩, hlk⟩, hba⟩, hseq⟩, hsn⟩, hjn⟩, hwaits⟩ := hB
  have hj0s : j0 < l.toArray.size := by omega
  have hss : s < l.toArray.size := by omega
  unfold bareSB at hba
  rw [Array.getElem?_eq_getElem hss, Array.getElem?_eq_getElem hj0s] at hba
  simp only [Bool.and_eq_true, Option.isNone_iff_eq_none, beq_iff_eq, bne_iff_ne] at hba
  obtain ⟨⟨⟨⟨hgs, hds⟩, hgj⟩, hdj⟩, hsj⟩ := hba
  have hd0 : dstOf l.toArray j0 = some d0 := by unfold dstOf; rw [Array.getElem?_eq_getElem hj0s]; exact hdj
  have hown := ownOf_eq hon hjn hd0
  intro r
  induction r with
  | zero =>
    intro listed a w hr inv
    have hl : ∀ i, i < n → listed.getD i true = true := lexLeft_zero n hr
    have hlf : ∀ i, i < n → listed.getD i false = true := fun i hi => by
      have h1 := hl i hi
      have h2 : i < listed.size := by rw [inv.head.size]; omega
      simp [h2] at h1 ⊢
      exact h1
    have hc : listed = lexCanon l.toArray.size n := by
      refine Array.ext (by rw [inv.head.size]; simp [lexCanon]) fun i h1 h2 => ?_
      have h3 : (lexCanon l.toArray.size n)[i] = decide (i < n) := by simp [lexCanon]
      rw [h3]
      have h4 : listed.getD i true = listed[i] := by simp [h1]
      rcases Nat.lt_or_ge i n with h5 | h5
      · rw [← h4, hl i h5, decide_eq_true h5]
      · have := inv.head.tail i h5 (by rw [← inv.head.size]; exact h1)
        rw [← h4, this, decide_eq_false (by omega)]
    obtain ⟨ts, td⟩ := lexTr_slot (al := fun k => k == j0) (vs := vs) (a0 := a0) hon n (Nat.le_refl _)
    obtain ⟨v, hv1, hv2⟩ := inv.free (hlf j0 hjn)
    rw [hlf s hsn, if_pos rfl] at hv1
    have hact : a = (lexTr l.toArray (fun k => k == j0) vs 0 a0 n).put (some d0) v := act_ext (by rw [put_defers]; exact inv.defers.trans td.symm) fun t => by
      rw [put_get]
      by_cases e : d0 = t
      · subst e
        rw [if_pos rfl, hv2, ts d0, slotAt_own hown]
        simp
      · rw [if_neg (by simpa using e), inv.slot t (fun e2 => absurd e2.symm e), ts t]
        cases ho : ownOf l.toArray n t with
        | none => rw [slotAt_none ho, slotAt_none ho]
        | some j =>
          rw [slotAt_own ho, slotAt_own ho]
          have := (ownOf_some ho).1
          simp only [hlf j this, decide_eq_true this]
    have hw := hK a w v inv.held hv1 hact
    rw [Nat.zero_add, hc]
    have hdl : (l.drop n).length = l.toArray.size - n := by simp
    rw [← hdl]
    exact wpAny_of_seq (md := .any) (l.drop n) n _ a w (fun j => by simp [List.getElem?_drop]) (by rw [hdl]; exact hseq) hw
  | succ r ih =>
    intro listed a w hr inv
    obtain ⟨m, hm, hum⟩ := lexLeft_some n (by rw [hr]; omega)
    -- the least that has not come up may come up
    have hleast : ∃ m, m < n ∧ listed.getD m true = false ∧ ∀ i, i < m → listed.getD i true = true := by
      have : ∀ b, ∀ m, m ≤ b → m < n → listed.getD m true = false → ∃ m, m < n ∧ listed.getD m true = false ∧ ∀ i, i < m → listed.getD i true = true := by
        intro b
        induction b with
        | zero => intro m hmb hmn hmu; exact ⟨m, hmn, hmu, fun i hi => by omega⟩
        | succ b ihb =>
          intro m hmb hmn hmu
          by_cases h : ∃ i, i < m ∧ listed.getD i true = false
          · obtain ⟨i, hi, hiu⟩ := h
            exact ihb i (by omega) (by omega) hiu
          · exact ⟨m, hmn, hmu, fun i hi => by
              cases hc : listed.getD i true with
              | true => rfl
              | false => exact absurd ⟨i, hi, hc⟩ h⟩
      exact this m m (Nat.le_refl _) hm hum
    obtain ⟨m, hm, hum, hlow⟩ := hleast
    have hmr : m ∈ Region.ready .any l.toArray listed := by
      have hml : m < l.toArray.size := by omega
      refine mem_ready.2 ⟨hum, l.toArray[m], Array.getElem?_eq_getElem hml, fun e he hb => ?_⟩
      have h1 := List.all_eq_true.1 hah m (List.mem_range.2 hml)
      rw [Array.getElem?_eq_getElem hml] at h1
      have h2 := Array.all_eq_true_iff_forall_mem.1 h1 e he
      rw [hb] at h2
      have h3 : e.on < m := by simpa using h2
      have h4 := hlow e.on h3
      have h5 : e.on < listed.size := by rw [inv.head.size]; omega
      simp [h5] at h4 ⊢
      exact h4
    rw [show r + 1 + (l.toArray.size - n) = (r + (l.toArray.size - n)) + 1 by omega]
    refine ⟨fun h0 => (by rw [h0] at hmr; cases hmr), fun i hi => ?_⟩
    have hin : i < n := by
      rcases Nat.lt_or_ge i n with h | h
      · exact h
      · exact absurd hi (tail_waits hsi hch hn inv.head _ m rfl hm hum i h)
    obtain ⟨hun, o, ho, hall⟩ := mem_ready.1 hi
    have hol : l[i]? = some o := by simpa using ho
    have hdo : dstOf l.toArray i = o.dst := by unfold dstOf; rw [ho]; rfl
    have hi2 : i < listed.size := by rw [inv.head.size]; omega
    have hleft := lexLeft_set hi2 hun n hin
    have hset : (listed.setIfInBounds i true).getD i false = true := by simp [hi2]
    have hgo : ∀ v w', S w' → (i ≠ j0 → listed.getD j0 false = true → ∃ u, (if (listed.setIfInBounds i true).getD s false = true then B u w' else A u w') ∧ a.tmps[d0]? = (a0.tmps[d0]?).map (fun _ => u)) →
        (if (i == j0) = true then (if (listed.setIfInBounds i true).getD s false = true then B v w' else A v w') else v = vs i) → wpAny P .any l.toArray Q (r + (l.toArray.size - n)) (listed.setIfInBounds i true) (a.put o.dst v) w' := fun v w' h1 h2 h3 => by
      rw [← hdo]
      exact ih _ _ _ (by omega) (inv.set hon hjn hd0 hin hi h1 h2 h3)
    -- what was made freely is kept by whatever does not store
    have hkeep : i ≠ s → ∀ w', Below w.heap.size w w' → i ≠ j0 → listed.getD j0 false = true → ∃ u, (if (listed.setIfInBounds i true).getD s false = true then B u w' else A u w') ∧ a.tmps[d0]? = (a0.tmps[d0]?).map (fun _ => u) := fun hne w' hb _ hjl => by
      obtain ⟨u, hu, hu2⟩ := inv.free hjl
      refine ⟨u, ?_, hu2⟩
      rw [getD_set_ne false hne]
      split at hu
      · next h => rw [if_pos h]; exact hBB _ _ _ hu hb
      · next h => rw [if_neg h]; exact hA _ _ _ hu hb
    unfold wpOp
    simp only [ho]
    by_cases ha : i = j0
    · subst ha
      obtain rfl : o = l.toArray[i] := Option.some.inj (ho.symm.trans (Array.getElem?_eq_getElem hj0s))
      have hw : Region.wanted l.toArray[i] (yielded l.toArray a.tmps) = true := by unfold Region.wanted; rw [hgj]
      obtain ⟨v, w', hrun, hAv, hb⟩ := hal _ hol a.eval w inv.held
      -- the store waits for it
      have hsl : listed.getD s false = false := by
        cases hc : listed.getD s false with
        | false => rfl
        | true =>
          have hcl := inv.head.closed s _ (Array.getElem?_eq_getElem hss) hc
          have := waits_listed (listed := listed) (Array.getElem?_eq_getElem hss) hcl hwaits
          rw [getD_both hun] at this
          cases this
      rw [if_pos hw]
      refine .inl ?_
      unfold Oper.wp
      rw [hrun]
      refine hgo v w' (hS _ _ inv.held hb) (fun h => absurd rfl h) ?_
      rw [if_pos (by simp), getD_set_ne false (Ne.symm hsj), hsl]
      simpa using hAv
    · have ha' : (i == j0) = false := by simpa using ha
      have hlook := look_sameS hon hlk hjn hd0 hin ha' ho (getD_both hun) hall inv
      have hsel' : ∀ cs b, o.op ≠ .select cs b := fun cs b => Region.noSelect_spec hsel i o cs b ho
      have hvi := hv i o hin ha' hol
      unfold LvS at hvi
      by_cases hs : i = s
      · subst hs
        rw [if_pos rfl] at hvi
        obtain ⟨hu, hst⟩ := hvi
        obtain rfl : o = l.toArray[i] := Option.some.inj (ho.symm.trans (Array.getElem?_eq_getElem hss))
        have hw : Region.wanted l.toArray[i] (yielded l.toArray a.tmps) = true := by unfold Region.wanted; rw [hgs]
        have hjl : listed.getD j0 false = true := waits_listed ho hall hwaits
        obtain ⟨v, hv1, hv2⟩ := inv.free hjl
        rw [getD_both hun] at hv1
        simp only [Bool.false_eq_true, if_false] at hv1
        obtain ⟨w', hS', hB', hgoes⟩ := hst v w inv.held hv1
        have he : execOp a.eval l.toArray[i] = execOp ((lexTr l.toArray (fun k => k == j0) vs 0 a0 i).put (some d0) v).eval l.toArray[i] := execOp_at hsel' fun t ht => by
          rw [put_get]
          rcases hlook t ht with ⟨rfl, _, _⟩ | ⟨hne, h⟩
          · rw [if_pos rfl, hv2, (lexTr_slot hon i (Nat.le_of_lt hin)).1 t, slotAt_own hown]
            simp
          · rw [if_neg (by simpa using Ne.symm hne)]; exact h
        rw [if_pos hw]
        refine .inl (hgoes a he _ _ ?_)
        refine hgo undef w' hS' (fun _ _ => ⟨v, by rw [hset, if_pos rfl]; exact hB', hv2⟩) (by rw [ha']; simpa using hu.symm)
      · rw [if_neg hs] at hvi
        have hl2 : ∀ t, t ∈ o.looksAt l.toArray → a.tmps[t]? = (lexTr l.toArray (fun k => k == j0) vs 0 a0 i).tmps[t]? := fun t ht => (hlook t ht).elim (fun h => absurd h.2.1 hs) (fun h => h.2)
        unfold Leaves at hvi
        rw [← wanted_at hl2] at hvi
        rcases hvi with ⟨hw, hd⟩ | ⟨hw, hu⟩
        · rw [if_pos hw]
          refine .inl ?_
          unfold Oper.wp
          rw [execOp_at hsel' hl2]
          rcases hd with hd | ⟨f, args, hrun, hc⟩
          · rw [hd w inv.held]
            exact hgo _ w inv.held (hkeep hs w (Below.refl _ w)) (by rw [ha']; simp)
          · rw [hrun w inv.held, Oper.upon_enter]
            refine (hc w inv.held).mono fun e w' he => ?_
            obtain ⟨rfl, hb⟩ := he
            exact hgo _ w' (hS _ _ inv.held hb) (hkeep hs w' hb) (by rw [ha']; simp)
        · rw [hw]
          simp only [Bool.false_eq_true, if_false]
          exact hgo undef w inv.held (hkeep hs w (Below.refl _ w)) (by rw [ha']; simpa using hu.symm)
end

/-- The region, walked in the order of the text: the j0-th makes a block freely (its address in slot d0), the s-th stores into it. -/
theorem wp_region_lexS {Q : Exit → Act → World → Prop} {id : Nat} {a : Act} {w : World} {l : List Oper} (n s j0 : Nat) (d0 : Tmp) (A B : Value → World → Prop) (S : World → Prop)
    (hm : P.follows .mixedOrders = true) (hB : lexSB l.toArray n s j0 d0 = true) (h0 : S w.drew) (hS : ∀ w w', S w → Below w.heap.size w w' → S w') (hA : ∀ v w w', A v w → Below w.heap.size w w' → A v w') (hBB : ∀ v w w', B v w → Below w.heap.size w w' → B v w')
    (hal : ∀ o, l[j0]? = some o → ∀ f w, S w → ∃ v w', (execOp f o).run P w = .ok (.value v) w' ∧ A v w' ∧ Below w.heap.size w w')
    (h : lexG (LvS P l.toArray S A B d0 s) (fun k => k == j0) (fun b => ∀ w' v, S w' → B v w' → wpList P l.toArray Q (l.drop n) (b.put (some d0) v) w') 0 (l.take n) a) : (Code.region id l.toArray true).wp P Q a w := by
  have hn : n < l.length := by
    have hB' := hB
    simp only [lexSB, Bool.and_eq_true, decide_eq_true_eq] at hB'
    simpa using hB'.1.1.1.1.1.1.1.1.1.1.2
  have htl : (l.take n).length = n := by simp; omega
  obtain ⟨vs, hv, hK⟩ := lexG_tr (ops := l.toArray) (l.take n) 0 a (fun j hj => by
    rw [htl] at hj
    simp [hj]) h
  rw [htl] at hv hK
  refine wp_region_any hm ?_
  have inv0 : LexInvS l.toArray n s j0 d0 S A B vs a (Array.replicate l.toArray.size false) a { w with drawn := w.drawn + 1 } := by
    refine ⟨⟨by simp, fun j oj _ hl => (by rw [getD_replicate_false] at hl; cases hl), fun t _ ht => getD_in (by simpa using ht) (getD_replicate_false _ _)⟩, h0, rfl, fun hl => (by rw [getD_replicate_false] at hl; cases hl), fun t _ => ?_⟩
    cases ho : ownOf l.toArray n t with
    | none => rw [slotAt_none ho]
    | some j => rw [slotAt_own ho, getD_replicate_false]; simp
  have := lexS_sound (P := P) (Q := Q) (vs := vs) (a0 := a) hB hS hA hBB hal (fun k o hk hak ho => by
    have := hv k o hk (by rw [Nat.zero_add]; exact hak) (by rw [Nat.zero_add]; simpa using ho)
    rwa [Nat.zero_add] at this) (fun a' w' v h1 h2 h3 => by subst h3; exact hK w' v h1 h2) n _ a _ (lexLeft_start _ n (by simp; omega)) inv0
  rw [show n + (l.toArray.size - n) = l.toArray.size by simp; omega] at this
  exact this
end
end Go.Proofs.YtlfkohanfeejfaaDoor

namespace Go.Proofs.YtlfkohanfeejfaaDoor
open Go.RowKit

/-- A block of a type, made behind D, that holds cs. -/
def HeldT (ty : TypeId) (cs : Array Value) (D : Nat) (v : Value) (W : World) : Prop := ∃ g, v = .pointer (some ⟨g, 0, none⟩) ∧ D ≤ g ∧ W.heap[g]? = some (.cells cs ty (0, 0))
theorem HeldT.stay {ty : TypeId} {cs : Array Value} {D : Nat} : ∀ v w w', HeldT ty cs D v w → Below w.heap.size w w' → HeldT ty cs D v w' := fun _ _ _ ⟨g, hv, hg, hh⟩ hb => ⟨g, hv, hg, (hb.block g (Array.getElem?_eq_some_iff.1 hh).1).trans hh⟩
theorem MadeT.stayS {ty : TypeId} {cs : Array Value} {D : Nat} : ∀ v w w', MadeT ty cs D 0 v w → Below w.heap.size w w' → MadeT ty cs D 0 v w' := fun v w w' h hb => MadeT.stay 0 v w w' h hb
theorem Bs.addHeld {w W : World} {D g ty : Nat} {cs : Array Value} {bs : List (Nat × TypeId × Array Value)} (h : Bs w D bs W) (hg : D ≤ g) (hn : W.heap[g]? = some (.cells cs ty (0, 0))) : Bs w (g + 1) ((g, ty, cs) :: bs) W :=
  h.add hg hn (fun _ _ => rfl) h.below
theorem made_tS {P : Program} {ty : TypeId} {cs : Array Value} {S : World → Prop} {l : List Oper} {j D : Nat} (hr : ∀ (f : Operand → Value) (o : Oper) (w : World), o.op = .alloc ty → (execOp f o).run P w = .ok (.value (.pointer (some ⟨w.heap.size, 0, none⟩))) (w.alloc (.cells cs ty)))
    (hS : ∀ w, S w → D ≤ w.heap.size) (hj : (l[j]?).map (·.op) = some (.alloc ty)) :
    ∀ o, l[j]? = some o → ∀ f w, S w → ∃ v w', (execOp f o).run P w = .ok (.value v) w' ∧ MadeT ty cs D 0 v w' ∧ Below w.heap.size w w' := fun o ho f w hw => by
  rw [ho] at hj
  exact ⟨_, _, hr f o w (Option.some.inj hj), ⟨_, rfl, hS w hw, heap_alloc_new w _⟩, (Below.refl _ w).alloc (Nat.le_refl _) _⟩
theorem stores_t {P : Program} {w : World} {D : Nat} {ty : TypeId} {cs cs0 : Array Value} {bs : List (Nat × TypeId × Array Value)} {d0 src : Tmp} {o : Oper} {a : Act} (ho : o.op = .store ty (.tmp d0) (.tmp src)) (hne : (d0 == src) = false) (hd : d0 < a.tmps.size) (hx : a.eval (.tmp src) = .agg cs)
    (hi : (P.info? ty).map (·.size) = some cs.size) (hs : cs.size = cs0.size) (h1 : cs.all (·.oneCell') = true) :
    Stores P (Bs w D bs) (MadeT ty cs0 D 0) (HeldT ty cs D) d0 o a := by
  rintro v W hS ⟨g, rfl, hg, hZ⟩
  have hpos := hS.pos
  have hnew : (W.setRow g cs).heap[g]? = some (.cells cs ty (0, 0)) := setRow_heap W g _ _ ty _ hZ
  refine ⟨W.setRow g cs, ⟨fun p hp => ?_, by simpa using hS.len, hS.pos, below_setRow hS.below (by omega) _⟩, ⟨g, rfl, hg, hnew⟩, fun a' he K Q hK => ?_⟩
  · obtain ⟨h1, h2⟩ := hS.hold p hp
    exact ⟨h1, (setRow_other W g p.1 _ (by omega)).trans h2⟩
  · have e1 : (a.put (some d0) (.pointer (some ⟨g, 0, none⟩))).eval (.tmp d0) = .pointer (some ⟨g, 0, none⟩) := by simp [Act.eval, Act.put, hd]
    have e2 : (a.put (some d0) (.pointer (some ⟨g, 0, none⟩))).eval (.tmp src) = .agg cs := by
      rw [← hx]
      have hne' : d0 ≠ src := by simpa using hne
      simp [Act.eval, Act.put, Array.getElem?_setIfInBounds_ne hne']
    have hrun : (storeVar ty ⟨g, 0, none⟩ (.agg cs)).run P W = .ok () (W.setRow g cs) := run_storeVar_row W g ty ty _ _ hZ hi hs.symm h1
    unfold Oper.wp
    rw [he]
    unfold execOp
    simp only [ho, e1, e2, Instr.storeAt, Instr.sureAddr, Sem.run_bind, Sem.run_pure, Result.andThen_ok, hrun]
    exact hK
end Go.Proofs.YtlfkohanfeejfaaDoor

namespace Go.Proofs.YtlfkohanfeejfaaDoor
open Go.RowKit
namespace Crv

/-- Both numbers may be handed in. -/
def ok (s : Nat × Nat) : Prop := s.1 < big ∧ s.2 < big
/-- The point that numbers are taken as. -/
def pt (s : Nat × Nat) : Pt := qOf s.1 s.2
/-- A point's numbers. -/
def nums (p : Pt) : Nat × Nat := vals p.1
theorem nums_ok (p : Pt) : ok (nums p) := vals_lt p.1
theorem pt_nums (p : Pt) : pt (nums p) = p := Subtype.ext (vals_pOf p.2)
theorem pt_val (s : Nat × Nat) : (pt s).1 = pOf s.1 s.2 := rfl
/-- What gives the numbers s. -/
def Gave (w : World) (s : Nat × Nat) (e : Ending) (w' : World) : Prop := e = .returned (.agg ((limsL [s.1, s.2]).map nv).toArray) ∧ Below w.heap.size w w'
theorem gave_of {w w' : World} {p : Pt} {e : Ending} (h : GaveQ w p.1 e w') : Gave w (nums p) e w' := gaveQ_vals h
theorem clear_eq (p : Pt) : dbl (dbl (dbl p.1)) = (Pt.times 8 p).1 := by
  have e : Pt.times 8 p = (((p.plus p).plus (p.plus p)).plus ((p.plus p).plus (p.plus p))) := by
    rw [show 8 = 4 + 4 by rfl, Pt.times_add, show 4 = 2 + 2 by rfl, Pt.times_add, show 2 = 1 + 1 by rfl, Pt.times_add, Pt.times_one]
  rw [e]
  rfl
theorem base_nums : nums pbase = (BX, BY) := by decide +kernel
theorem none_nums : nums Pt.none = (0, 1) := by decide +kernel
theorem same_iff (s t : Nat × Nat) : pOf s.1 s.2 = pOf t.1 t.2 ↔ pt s = pt t := ⟨fun h => Subtype.ext h, fun h => congrArg Subtype.val h⟩
theorem gaveP_base {w w' : World} {e : Ending} (h : GaveP w BX BY e w') : Gave w (nums pbase) e w' := by rw [base_nums]; exact h
theorem gaveP_none {w w' : World} {e : Ending} (h : GaveP w 0 1 e w') : Gave w (nums Pt.none) e w' := by rw [none_nums]; exact h
theorem rbase_q (w : World) : Calls Tryd.prog 42 #[] w (Gave w (nums pbase)) := (rBase_any w).mono fun _ _ => gaveP_base
theorem rzero_q (w : World) : Calls Tryd.prog 32 #[] w (Gave w (nums Pt.none)) := (rZero_any w).mono fun _ _ => gaveP_none
theorem rcheck_q (s : Nat × Nat) (w : World) (hs : ok s) : Calls Tryd.prog 64 #[.agg ((limsL [s.1, s.2]).map nv).toArray] w fun e w' => e = .returned (.bool (decide (On (toF s.1, toF s.2)))) ∧ Below w.heap.size w w' := rCheck_any s.1 s.2 w hs.1 hs.2
theorem radd_q (s t : Nat × Nat) (w : World) (hs : ok s) (ht : ok t) : Calls Tryd.prog 66 #[.agg ((limsL [s.1, s.2]).map nv).toArray, .agg ((limsL [t.1, t.2]).map nv).toArray] w (Gave w (nums ((pt s).plus (pt t)))) := (rAdd_pt s.1 s.2 t.1 t.2 w hs.1 hs.2 ht.1 ht.2).mono fun _ _ h => gave_of (p := (pt s).plus (pt t)) h
theorem rmul_q (k : Nat) (s : Nat × Nat) (w : World) (hk : k < big) (hs : ok s) : Calls Tryd.prog 41 #[.agg ((lims k).map nv).toArray, .agg ((limsL [s.1, s.2]).map nv).toArray] w (Gave w (nums (Pt.times (toS k).val (pt s)))) := (rMul_pt k s.1 s.2 w hk hs.1 hs.2).mono fun _ _ h => gave_of (p := Pt.times (toS k).val (pt s)) h
theorem rclear_q (s : Nat × Nat) (w : World) (hs : ok s) : Calls Tryd.prog 39 #[.agg ((limsL [s.1, s.2]).map nv).toArray] w (Gave w (nums (Pt.times 8 (pt s)))) := (rClear_pt s.1 s.2 w hs.1 hs.2).mono fun _ _ h => by
  rw [← pt_val, clear_eq] at h
  exact gave_of h
/-! What is read, what is written in the text, what is compared. -/
theorem run_ldP {w : World} {g : Nat} {s : Nat × Nat} (hg : HoldsN w 26 g (limsL [s.1, s.2])) : (loadPt 26 ⟨g, 0, none⟩).run Tryd.prog w = .ok (.agg ((limsL [s.1, s.2]).map nv).toArray) w := run_loadPt hg
/-- A scalar read out of its block, under a name that the walk does not open. -/
def loadS6 (t : TypeId) (a : Addr) : Sem Value := loadVar t a
theorem load_s6 (a : Addr) : loadVar 28 a = loadS6 28 a := rfl
theorem run_ldS {w : World} {g n : Nat} (hg : HoldsN w 28 g (lims n)) : (loadS6 28 ⟨g, 0, none⟩).run Tryd.prog w = .ok (.agg ((lims n).map nv).toArray) w :=
  run_loadVar_row w g 28 28 _ (0, 0) _ hg Tryd.underlying28 rfl (by rw [Tryd.infoSc]; rfl)
theorem litP0 : Value.agg #[.int .u64 0, .int .u64 0, .int .u64 0, .int .u64 0, .int .u64 0, .int .u64 0, .int .u64 0, .int .u64 0] = .agg ((limsL [((0, 0) : Nat × Nat).1, ((0, 0) : Nat × Nat).2]).map nv).toArray := by kernel_rfl
theorem litP0a : (#[.int .u64 0, .int .u64 0, .int .u64 0, .int .u64 0, .int .u64 0, .int .u64 0, .int .u64 0, .int .u64 0] : Array Value) = ((limsL [0, 0]).map nv).toArray := by kernel_rfl
theorem litS1 : Value.agg #[.int .u64 1, .int .u64 0, .int .u64 0, .int .u64 0] = .agg ((lims 1).map nv).toArray := by kernel_rfl
theorem litS2 : Value.agg #[.int .u64 2, .int .u64 0, .int .u64 0, .int .u64 0] = .agg ((lims 2).map nv).toArray := by kernel_rfl
theorem litS8 : Value.agg #[.int .u64 8, .int .u64 0, .int .u64 0, .int .u64 0] = .agg ((lims 8).map nv).toArray := by kernel_rfl
theorem litSk (k : Nat) (h : k < 18446744073709551616) : Value.agg #[.int .u64 (k : Int), .int .u64 0, .int .u64 0, .int .u64 0] = .agg ((lims k).map nv).toArray := by
  have e : ∀ j, 0 < j → limb k j = 0 := fun j hj => by
    unfold limb
    rw [Nat.div_eq_of_lt (Nat.lt_of_lt_of_le h (by
      have := Nat.pow_le_pow_right (n := 18446744073709551616) (by omega) hj
      rwa [Nat.pow_one] at this))]
  have e0 : limb k 0 = k := by unfold limb; rw [Nat.pow_zero, Nat.div_one, Nat.mod_eq_of_lt h]
  unfold lims
  rw [e0, e 1 (by omega), e 2 (by omega), e 3 (by omega)]
  rfl
/-- A point's second number, taken out of it. -/
theorem run_field_y (s : Nat × Nat) (W : World) : (Instr.field 26 (.agg ((limsL [s.1, s.2]).map nv).toArray) 1).run Tryd.prog W = .ok (.agg ((lims s.2).map nv).toArray) W := by
  obtain ⟨f, g, hl, f1, f2, f3, g1, g2, g3⟩ := Tryd.twoPt
  have hfs : Tryd.prog.fieldsOf 26 = #[f, g] := by rw [← hl]
  have py : (((limsL [s.1, s.2]).map nv).toArray).extract 4 (4 + 4) = ((lims s.2).map nv).toArray := rfl
  have q := run_part_fe _ 4 s.2 W py
  have hu : Tryd.prog.underlying 26 = some (.struct #[f, g]) := by rw [Tryd.structPt, hfs]
  simp [Instr.field, asAgg, run_underlying hu, g2, g3, q]
theorem eql_p (s t : Nat × Nat) (hs : ok s) (ht : ok t) (W : World) : (binOp .eql 26 (.agg ((limsL [s.1, s.2]).map nv).toArray) (.agg ((limsL [t.1, t.2]).map nv).toArray)).run Tryd.prog W = .ok (.bool (decide (s = t))) W := by
  rw [run_eql_pt s.1 s.2 t.1 t.2 W hs.1 hs.2 ht.1 ht.2, decide_eq_decide.2 (show (s.1 = t.1 ∧ s.2 = t.2) ↔ s = t from ⟨fun h => Prod.ext h.1 h.2, fun h => by rw [h]; exact ⟨rfl, rfl⟩⟩)]
theorem eql_pp (s : Nat × Nat) (hs : ok s) (W : World) : (binOp .eql 26 (.agg ((limsL [s.1, s.2]).map nv).toArray) (.agg ((limsL [s.1, s.2]).map nv).toArray)).run Tryd.prog W = .ok (.bool true) W := by
  rw [eql_p s s hs hs W, decide_eq_true rfl]
theorem pt_new6 (w : World) : (w.alloc (.cells #[.int .u64 0, .int .u64 0, .int .u64 0, .int .u64 0, .int .u64 0, .int .u64 0, .int .u64 0, .int .u64 0] 26)).heap[w.heap.size]? = some (.cells ((limsL [0, 0]).map nv).toArray 26 (0, 0)) := holdsN_new w _ _ _ (limsL [0, 0]) rfl (by kernel_rfl)
theorem run_alloc_pt (f : Operand → Value) (o : Oper) (w : World) (ho : o.op = .alloc 26) :
    (execOp f o).run Tryd.prog w = .ok (.value (.pointer (some ⟨w.heap.size, 0, none⟩))) (w.alloc (.cells #[.int .u64 0, .int .u64 0, .int .u64 0, .int .u64 0, .int .u64 0, .int .u64 0, .int .u64 0, .int .u64 0] 26)) := by
  obtain ⟨dst, op, type, pos, after, guard⟩ := o
  obtain rfl : op = .alloc 26 := ho
  go_simp

/-! Points that the laws name. -/
theorem toS_small {n : Nat} (h : n < LL) : (toS n).val = n := Nat.mod_eq_of_lt h
theorem neg_one_times (p : Pt) (h : Pt.times LL p = Pt.none) : Pt.times (-toS 1).val p = p.opp := by
  have e : (-toS 1).val = LL - 1 := by decide +kernel
  rw [e]
  exact Pt.opp_uniq (by rw [Pt.plus_comm, ← Pt.times_succ]; exact h)
theorem times_val {p : Pt} (h : Pt.times LL p = Pt.none) (n : Nat) : Pt.times (toS n).val p = Pt.times n p := Pt.times_mod h n
theorem times_sadd {p : Pt} (h : Pt.times LL p = Pt.none) (a b : Nat) : Pt.times (toS a + toS b).val p = (Pt.times (toS a).val p).plus (Pt.times (toS b).val p) := by
  rw [Sn.val_add, Pt.times_mod h, Pt.times_add]
theorem times_smul {p : Pt} (h : Pt.times LL p = Pt.none) (a b : Nat) : Pt.times (toS a * toS b).val p = Pt.times (toS a).val (Pt.times (toS b).val p) := by
  rw [Sn.val_mul, Pt.times_mod h, Pt.times_mul]
theorem times_LL_times {p : Pt} (h : Pt.times LL p = Pt.none) (n : Nat) : Pt.times LL (Pt.times n p) = Pt.none := by
  rw [Pt.times_comm, h, Pt.times_none]
theorem opp_y (p : Pt) : (nums p.opp).2 = (nums p).2 := rfl
theorem on_nums (p : Pt) : decide (On (toF (nums p).1, toF (nums p).2)) = true := by
  rw [decide_eq_true_eq]
  have e : (toF (nums p).1, toF (nums p).2) = p.1 := by
    unfold nums vals
    rw [toF_of, toF_of]
  rw [e]
  exact p.2
theorem not_on_zero : decide (On (toF ((0, 0) : Nat × Nat).1, toF ((0, 0) : Nat × Nat).2)) = false := by decide +kernel
theorem pt_zero : pt (0, 0) = Pt.none := by decide +kernel
end Crv
end Go.Proofs.YtlfkohanfeejfaaDoor
