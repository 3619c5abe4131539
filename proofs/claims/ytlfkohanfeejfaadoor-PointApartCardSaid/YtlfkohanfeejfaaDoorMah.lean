/-
  A statement whose order of evaluation is left open, walked once, in the order of the text: where each operation does one thing in every world that meets S, and S stays as the world goes on.
  A byte laid above a number's others, by its limb. Pure.
-/
import Derived.StillTail
import Derived.Tactics
import Derived.Test.YtlfkohanfeejfaaDoorMab
import Derived.Test.YtlfkohanfeejfaaDoorMae
namespace Go.Proofs.YtlfkohanfeejfaaDoor
open Go.RowKit

section
variable {P : Program} {ops : Array Oper} {S : World → Prop}

/-- Operation o does one thing in every world that meets S: it leaves v, and the world goes on. -/
def Does (P : Program) (S : World → Prop) (o : Oper) (a : Act) (v : Value) : Prop :=
  (∀ w, S w → (execOp a.eval o).run P w = .ok (.value v) w) ∨
  ∃ f args, (∀ w, S w → (execOp a.eval o).run P w = .ok (.enter f args) w) ∧ ∀ w, S w → Calls P f args w (fun e w' => e = .returned v ∧ Below w.heap.size w w')

/-- The same of one that may be guarded. -/
def Leaves (P : Program) (ops : Array Oper) (S : World → Prop) (o : Oper) (a : Act) (v : Value) : Prop :=
  (Region.wanted o (yielded ops a.tmps) = true ∧ Does P S o a v) ∨ (Region.wanted o (yielded ops a.tmps) = false ∧ v = undef)

/-- The walk in the order of the text; what is made freely (al) is left out. -/
def lexW (P : Program) (ops : Array Oper) (S : World → Prop) (al : Nat → Bool) (K : Act → Prop) : Nat → List Oper → Act → Prop
  | _, [], a => K a
  | k, o :: rest, a => if al k = true then lexW P ops S al K (k + 1) rest a else ∃ v, Leaves P ops S o a v ∧ lexW P ops S al K (k + 1) rest (a.put o.dst v)

section
variable {al : Nat → Bool} {K : Act → Prop} {k : Nat} {o : Oper} {rest : List Oper} {a : Act}
theorem lexW_nil (h : K a) : lexW P ops S al K k [] a := h
theorem lexW_free (hal : al k = true) (h : lexW P ops S al K (k + 1) rest a) : lexW P ops S al K k (o :: rest) a := by
  unfold lexW; rw [if_pos hal]; exact h
theorem lexW_value {v : Value} (hal : al k = false) (hw : Region.wanted o (yielded ops a.tmps) = true) (hr : ∀ w, S w → (execOp a.eval o).run P w = .ok (.value v) w)
    (h : lexW P ops S al K (k + 1) rest (a.put o.dst v)) : lexW P ops S al K k (o :: rest) a := by
  unfold lexW; rw [if_neg (by rw [hal]; exact Bool.false_ne_true)]; exact ⟨v, .inl ⟨hw, .inl hr⟩, h⟩
theorem lexW_call {v : Value} {f : FuncId} {args : Array Value} (hal : al k = false) (hw : Region.wanted o (yielded ops a.tmps) = true) (hr : ∀ w, S w → (execOp a.eval o).run P w = .ok (.enter f args) w)
    (hc : ∀ w, S w → Calls P f args w (fun e w' => e = .returned v ∧ Below w.heap.size w w'))
    (h : lexW P ops S al K (k + 1) rest (a.put o.dst v)) : lexW P ops S al K k (o :: rest) a := by
  unfold lexW; rw [if_neg (by rw [hal]; exact Bool.false_ne_true)]; exact ⟨v, .inl ⟨hw, .inr ⟨f, args, hr, hc⟩⟩, h⟩
theorem lexW_off (hal : al k = false) (hw : Region.wanted o (yielded ops a.tmps) = false)
    (h : lexW P ops S al K (k + 1) rest (a.put o.dst undef)) : lexW P ops S al K k (o :: rest) a := by
  unfold lexW; rw [if_neg (by rw [hal]; exact Bool.false_ne_true)]; exact ⟨undef, .inr ⟨hw, rfl⟩, h⟩
end

/-! What the kernel reckons of a region. -/
def dstOf (ops : Array Oper) (k : Nat) : Option Tmp := (ops[k]?).bind (·.dst)
/-- No two of the first n leave their value in one slot. -/
def onceB (ops : Array Oper) (n : Nat) : Bool := (List.range n).all fun i => (List.range n).all fun j => i == j || (dstOf ops i).isNone || dstOf ops i != dstOf ops j
/-- Each waits for such as stand ahead of it. -/
def aheadB (ops : Array Oper) : Bool := (List.range ops.size).all fun k => match ops[k]? with | some o => o.after.all fun e => !Region.binds .any e || decide (e.on < k) | none => true
/-- What one of the first n looks at is left by one that it waits for, or by one that waits for it, or by none of them. -/
def lookB (ops : Array Oper) (n : Nat) (al : Nat → Bool) : Bool := (List.range n).all fun k => al k || match ops[k]? with
  | some o => (o.looksAt ops).all fun t => (List.range n).all fun j => dstOf ops j != some t || (!al j && ((decide (j < k) && Region.waitsFor .any ops k j) || (decide (k < j) && Region.waitsFor .any ops j k)))
  | none => true
def bareB (ops : Array Oper) (n : Nat) (al : Nat → Bool) : Bool := (List.range n).all fun k => !al k || match ops[k]? with | some o => o.guard.isNone | none => true
def lexCanon (m n : Nat) : Array Bool := ((List.range m).map fun i => decide (i < n)).toArray
def lexB (ops : Array Oper) (n : Nat) (al : Nat → Bool) : Bool :=
  Region.noSelect ops && decide (n < ops.size) && Region.sinkB .any ops n && Region.chainB .any ops n && onceB ops n && aheadB ops && lookB ops n al && bareB ops n al && Region.seqB .any ops (ops.size - n) n (lexCanon ops.size n)

theorem put_get (a : Act) (d : Option Tmp) (v : Value) (t : Nat) : (a.put d v).tmps[t]? = if d = some t then (a.tmps[t]?).map (fun _ => v) else a.tmps[t]? := by
  cases d with
  | none => rfl
  | some d =>
    by_cases h : d = t
    · subst h
      simp only [Act.put, if_true]
      by_cases hd : d < a.tmps.size
      · simp [hd]
      · simp [Nat.le_of_not_lt hd]
    · simp only [Act.put, Option.some.injEq, if_neg h]
      exact Array.getElem?_setIfInBounds_ne h
theorem put_defers (a : Act) (d : Option Tmp) (v : Value) : (a.put d v).defers = a.defers := by cases d <;> rfl
theorem act_ext {a b : Act} (hd : a.defers = b.defers) (h : ∀ t : Nat, a.tmps[t]? = b.tmps[t]?) : a = b := by
  obtain ⟨x, p⟩ := a
  obtain ⟨y, q⟩ := b
  obtain rfl : x = y := Array.ext_getElem? h
  obtain rfl : p = q := hd
  rfl

/-- The states in the order of the text. -/
def lexTr (ops : Array Oper) (al : Nat → Bool) (vs : Nat → Value) (k : Nat) (a : Act) : Nat → Act
  | 0 => a
  | j + 1 => if al (k + j) = true then lexTr ops al vs k a j else (lexTr ops al vs k a j).put (dstOf ops (k + j)) (vs (k + j))
theorem lexTr_congr {al : Nat → Bool} {vs vs' : Nat → Value} {k : Nat} {a : Act} (h : ∀ i, k ≤ i → vs i = vs' i) : ∀ j, lexTr ops al vs k a j = lexTr ops al vs' k a j
  | 0 => rfl
  | j + 1 => by simp only [lexTr, lexTr_congr h j, h (k + j) (Nat.le_add_right _ _)]
theorem lexTr_front {al : Nat → Bool} {vs : Nat → Value} {k : Nat} {a : Act} : ∀ j, lexTr ops al vs k a (j + 1) = lexTr ops al vs (k + 1) (if al k = true then a else a.put (dstOf ops k) (vs k)) j
  | 0 => rfl
  | j + 1 => by
    have h := lexTr_front (al := al) (vs := vs) (k := k) (a := a) j
    show (if al (k + (j + 1)) = true then lexTr ops al vs k a (j + 1) else (lexTr ops al vs k a (j + 1)).put _ _) = _
    rw [h]
    simp only [lexTr]
    rw [show k + (j + 1) = k + 1 + j by omega]

theorem lexW_tr {al : Nat → Bool} {K : Act → Prop} : ∀ (l : List Oper) (k : Nat) (a : Act), (∀ j, j < l.length → l[j]? = ops[k + j]?) → lexW P ops S al K k l a →
    ∃ vs : Nat → Value, (∀ j o, j < l.length → al (k + j) = false → ops[k + j]? = some o → Leaves P ops S o (lexTr ops al vs k a j) (vs (k + j))) ∧ K (lexTr ops al vs k a l.length)
  | [], _, _, _, h => ⟨fun _ => undef, fun j _ hj => absurd hj (Nat.not_lt_zero j), h⟩
  | o :: rest, k, a, hl, h => by
    have h0 : ops[k]? = some o := by have := hl 0 (by simp); simpa using this.symm
    have hd : dstOf ops k = o.dst := by unfold dstOf; rw [h0]; rfl
    have hl' : ∀ j, j < rest.length → rest[j]? = ops[k + 1 + j]? := fun j hj => by
      have := hl (j + 1) (by simp; omega)
      simpa [Nat.add_assoc, Nat.add_comm 1 j] using this
    unfold lexW at h
    by_cases hal : al k = true
    · rw [if_pos hal] at h
      obtain ⟨vs, hv, hK⟩ := lexW_tr rest (k + 1) a hl' h
      refine ⟨vs, fun j o' hj hf ho' => ?_, ?_⟩
      · cases j with
        | zero => rw [Nat.add_zero, hal] at hf; cases hf
        | succ j =>
          rw [lexTr_front, if_pos hal]
          have e : k + (j + 1) = k + 1 + j := by omega
          rw [e] at hf ho' ⊢
          exact hv j o' (by simpa using hj) hf ho'
      · rw [List.length_cons, lexTr_front, if_pos hal]; exact hK
    · rw [if_neg hal] at h
      obtain ⟨v, hlv, h⟩ := h
      obtain ⟨vs, hv, hK⟩ := lexW_tr rest (k + 1) (a.put o.dst v) hl' h
      have hc : ∀ b j, lexTr ops al (fun i => if i = k then v else vs i) (k + 1) b j = lexTr ops al vs (k + 1) b j := fun b j => lexTr_congr (fun i hi => if_neg (by omega)) j
      have hf : ∀ j, lexTr ops al (fun i => if i = k then v else vs i) k a (j + 1) = lexTr ops al vs (k + 1) (a.put o.dst v) j := fun j => by
        rw [lexTr_front, if_neg hal, hc, hd]
        simp only [if_true]
      refine ⟨fun i => if i = k then v else vs i, fun j o' hj hjf ho' => ?_, ?_⟩
      · cases j with
        | zero =>
          rw [Nat.add_zero] at ho' ⊢
          obtain rfl : o' = o := Option.some.inj (ho'.symm.trans h0)
          simp only [if_true]
          exact hlv
        | succ j =>
          rw [hf]
          have e : k + (j + 1) = k + 1 + j := by omega
          rw [e] at hjf ho' ⊢
          simp only [show k + 1 + j ≠ k by omega, if_false]
          exact hv j o' (by simpa using hj) hjf ho'
      · rw [List.length_cons, hf]; exact hK

/-! What a slot holds when those of 'done' have come up. -/
def ownOf (ops : Array Oper) (n t : Nat) : Option Nat := (List.range n).find? fun j => dstOf ops j == some t
theorem ownOf_some {n t j : Nat} (h : ownOf ops n t = some j) : j < n ∧ dstOf ops j = some t := by
  unfold ownOf at h
  exact ⟨List.mem_range.1 (List.mem_of_find?_eq_some h), by simpa using List.find?_some h⟩
theorem ownOf_none {n t j : Nat} (h : ownOf ops n t = none) (hj : j < n) : dstOf ops j ≠ some t := by
  unfold ownOf at h
  have := List.find?_eq_none.1 h j (List.mem_range.2 hj)
  simpa using this
theorem once_spec {n i j t : Nat} (h : onceB ops n = true) (hi : i < n) (hj : j < n) (di : dstOf ops i = some t) (dj : dstOf ops j = some t) : i = j := by
  have := List.all_eq_true.1 (List.all_eq_true.1 h i (List.mem_range.2 hi)) j (List.mem_range.2 hj)
  rw [di, dj] at this
  simpa using this
theorem ownOf_eq {n t j : Nat} (h : onceB ops n = true) (hj : j < n) (dj : dstOf ops j = some t) : ownOf ops n t = some j := by
  cases ho : ownOf ops n t with
  | none => exact absurd dj (ownOf_none ho hj)
  | some i => rw [once_spec h (ownOf_some ho).1 hj (ownOf_some ho).2 dj]
def slotAt (ops : Array Oper) (n : Nat) (al : Nat → Bool) (vs : Nat → Value) (a0 : Act) (done : Nat → Bool) (t : Nat) : Option Value :=
  match ownOf ops n t with
  | some j => if done j = true ∧ al j = false then (a0.tmps[t]?).map (fun _ => vs j) else a0.tmps[t]?
  | none => a0.tmps[t]?
theorem slotAt_own {n : Nat} {al : Nat → Bool} {vs : Nat → Value} {a0 : Act} {done : Nat → Bool} {t j : Nat} (h : ownOf ops n t = some j) :
    slotAt ops n al vs a0 done t = if done j = true ∧ al j = false then (a0.tmps[t]?).map (fun _ => vs j) else a0.tmps[t]? := by unfold slotAt; rw [h]
theorem slotAt_none {n : Nat} {al : Nat → Bool} {vs : Nat → Value} {a0 : Act} {done : Nat → Bool} {t : Nat} (h : ownOf ops n t = none) :
    slotAt ops n al vs a0 done t = a0.tmps[t]? := by unfold slotAt; rw [h]
theorem lexTr_slot {n : Nat} {al : Nat → Bool} {vs : Nat → Value} {a0 : Act} (hon : onceB ops n = true) : ∀ k, k ≤ n → (∀ t, (lexTr ops al vs 0 a0 k).tmps[t]? = slotAt ops n al vs a0 (fun j => decide (j < k)) t) ∧ (lexTr ops al vs 0 a0 k).defers = a0.defers
  | 0, _ => ⟨fun t => by
      show a0.tmps[t]? = _
      cases h : ownOf ops n t with
      | none => rw [slotAt_none h]
      | some j => rw [slotAt_own h]; simp, rfl⟩
  | k + 1, hk => by
    obtain ⟨ih, id⟩ := lexTr_slot hon k (by omega) (al := al) (vs := vs) (a0 := a0)
    simp only [lexTr, Nat.zero_add]
    by_cases hal : al k = true
    · rw [if_pos hal]
      refine ⟨fun t => ?_, id⟩
      rw [ih t]
      cases h : ownOf ops n t with
      | none => rw [slotAt_none h, slotAt_none h]
      | some j =>
        rw [slotAt_own h, slotAt_own h]
        by_cases e : j = k
        · subst e; simp [hal]
        · have : decide (j < k) = decide (j < k + 1) := by by_cases h2 : j < k; · simp [h2, show j < k + 1 by omega]
                                                           · simp [h2, show ¬ j < k + 1 by omega]
          simp only [this]
    · rw [if_neg hal]
      refine ⟨fun t => ?_, by rw [put_defers]; exact id⟩
      rw [put_get, ih t]
      cases h : ownOf ops n t with
      | none => rw [slotAt_none h, slotAt_none h, if_neg (ownOf_none h (by omega))]
      | some j =>
        rw [slotAt_own h, slotAt_own h]
        by_cases e : j = k
        · subst e
          rw [if_pos (ownOf_some h).2]
          simp [show al j = false by simpa using hal]
        · rw [if_neg (fun hd => e (once_spec hon (ownOf_some h).1 (by omega) (ownOf_some h).2 hd))]
          have : decide (j < k) = decide (j < k + 1) := by by_cases h2 : j < k; · simp [h2, show j < k + 1 by omega]
                                                           · simp [h2, show ¬ j < k + 1 by omega]
          simp only [this]

/-- What is so when those of 'listed' have come up. -/
structure LexInv (ops : Array Oper) (n : Nat) (al : Nat → Bool) (S : World → Prop) (A : Nat → Value → World → Prop) (vs : Nat → Value) (a0 : Act) (listed : Array Bool) (a : Act) (w : World) : Prop where
  head : HeadInv .any ops n listed
  held : S w
  defers : a.defers = a0.defers
  free : ∀ t j, ownOf ops n t = some j → al j = true → listed.getD j false = true → ∃ v, A j v w ∧ a.tmps[t]? = (a0.tmps[t]?).map (fun _ => v)
  slot : ∀ t, (∀ j, ownOf ops n t = some j → al j = true → listed.getD j false = false) → a.tmps[t]? = slotAt ops n al vs a0 (fun j => listed.getD j false) t

/-- How many of the first n have not come up. -/
def lexLeft (listed : Array Bool) : Nat → Nat
  | 0 => 0
  | m + 1 => lexLeft listed m + (if listed.getD m true = true then 0 else 1)
theorem lexLeft_set_ge {listed : Array Bool} {i : Nat} : ∀ m, m ≤ i → lexLeft (listed.setIfInBounds i true) m = lexLeft listed m
  | 0, _ => rfl
  | m + 1, h => by simp only [lexLeft, lexLeft_set_ge (i := i) m (by omega), getD_set_ne true (Nat.ne_of_gt h)]
theorem lexLeft_set {listed : Array Bool} {i : Nat} (hi : i < listed.size) (hu : listed.getD i true = false) : ∀ m, i < m → lexLeft (listed.setIfInBounds i true) m + 1 = lexLeft listed m
  | 0, h => absurd h (Nat.not_lt_zero i)
  | m + 1, h => by
    by_cases e : i = m
    · subst e
      simp only [lexLeft, lexLeft_set_ge i (Nat.le_refl _), hu]
      have : (listed.setIfInBounds i true).getD i true = true := by simp [hi]
      rw [this]; simp
    · have ih := lexLeft_set hi hu m (by omega)
      simp only [lexLeft, getD_set_ne true (show i ≠ m from e)]
      omega
theorem lexLeft_zero {listed : Array Bool} : ∀ m, lexLeft listed m = 0 → ∀ i, i < m → listed.getD i true = true
  | 0, _, i, h => absurd h (Nat.not_lt_zero i)
  | m + 1, h, i, hi => by
    simp only [lexLeft] at h
    by_cases e : i = m
    · subst e
      cases hc : listed.getD i true with
      | true => rfl
      | false => rw [hc] at h; simp at h
    · exact lexLeft_zero m (by omega) i (by omega)
theorem lexLeft_some {listed : Array Bool} : ∀ m, lexLeft listed m ≠ 0 → ∃ i, i < m ∧ listed.getD i true = false
  | 0, h => absurd rfl h
  | m + 1, h => by
    cases hc : listed.getD m true with
    | false => exact ⟨m, by omega, hc⟩
    | true =>
      simp only [lexLeft, hc, if_true, Nat.add_zero] at h
      obtain ⟨i, hi, h2⟩ := lexLeft_some m h
      exact ⟨i, by omega, h2⟩
theorem lexLeft_start (m : Nat) : ∀ n, n ≤ m → lexLeft (Array.replicate m false) n = n
  | 0, _ => rfl
  | n + 1, h => by
    simp only [lexLeft, lexLeft_start m n (by omega)]
    have : (Array.replicate m false).getD n true = false := by simp [show n < m by omega]
    rw [this]; simp
theorem eval_at {a b : Act} {x : Operand} (h : ∀ t, x = .tmp t → a.tmps[t]? = b.tmps[t]?) : a.eval x = b.eval x := by
  cases x with
  | tmp t =>
    have := h t rfl
    simp only [Act.eval, Array.getD_eq_getD_getElem?, this]
  | _ => rfl
theorem execOp_at {a b : Act} {o : Oper} (hs : ∀ cs b, o.op ≠ .select cs b) (h : ∀ t, t ∈ o.looksAt ops → a.tmps[t]? = b.tmps[t]?) : execOp a.eval o = execOp b.eval o :=
  execOp_congr o hs fun x hx => eval_at fun t ht => h t (by
    subst ht
    exact List.mem_append_left _ (List.mem_filterMap.2 ⟨.tmp t, by simpa using hx, rfl⟩))
theorem wanted_at {a b : Act} {o : Oper} (h : ∀ t, t ∈ o.looksAt ops → a.tmps[t]? = b.tmps[t]?) : Region.wanted o (yielded ops a.tmps) = Region.wanted o (yielded ops b.tmps) := by
  unfold Region.wanted
  cases hg : o.guard with
  | none => rfl
  | some gw =>
    obtain ⟨g, want⟩ := gw
    have hy : yielded ops a.tmps g = yielded ops b.tmps g := by
      unfold yielded
      cases ht : (ops[g]?).bind (·.dst) with
      | none => rfl
      | some t =>
        have := h t (by simp [Oper.looksAt, hg, ht])
        simp only [Option.bind_some, this]
    simp only [hy]

section
variable {Q : Exit → Act → World → Prop} {n : Nat} {al : Nat → Bool} {A : Nat → Value → World → Prop} {vs : Nat → Value} {a0 : Act}

theorem waits_listed {listed : Array Bool} {k j : Nat} {o : Oper} (ho : ops[k]? = some o) (hall : ∀ e ∈ o.after, Region.binds .any e = true → listed.getD e.on false = true) (h : Region.waitsFor .any ops k j = true) : listed.getD j false = true := by
  obtain ⟨oj, hoj, e, he, hb, hon⟩ := Region.waitsFor_spec h
  obtain rfl : oj = o := Option.some.inj (hoj.symm.trans ho)
  rw [← hon]; exact hall e he hb

/-- Where one may come up, what it looks at is as in the order of the text. -/
theorem look_same {listed : Array Bool} {a : Act} {w : World} {k : Nat} {o : Oper} (hon : onceB ops n = true) (hlk : lookB ops n al = true) (hk : k < n) (hak : al k = false) (ho : ops[k]? = some o)
    (hun : listed.getD k false = false) (hall : ∀ e ∈ o.after, Region.binds .any e = true → listed.getD e.on false = true) (inv : LexInv ops n al S A vs a0 listed a w) :
    ∀ t, t ∈ o.looksAt ops → a.tmps[t]? = (lexTr ops al vs 0 a0 k).tmps[t]? := fun t ht => by
  have h1 := List.all_eq_true.1 hlk k (List.mem_range.2 hk)
  rw [hak, ho] at h1
  simp only [Bool.false_or] at h1
  have h2 := List.all_eq_true.1 h1 t ht
  rw [(lexTr_slot hon k (Nat.le_of_lt hk)).1 t]
  cases hw : ownOf ops n t with
  | none =>
    rw [inv.slot t (fun j hj => by rw [hw] at hj; cases hj), slotAt_none hw, slotAt_none hw]
  | some j =>
    obtain ⟨hj, hd⟩ := ownOf_some hw
    have h3 := List.all_eq_true.1 h2 j (List.mem_range.2 hj)
    rw [hd] at h3
    simp only [bne_self_eq_false, Bool.false_or, Bool.and_eq_true, Bool.not_eq_true', Bool.or_eq_true, decide_eq_true_eq] at h3
    obtain ⟨haj, h3⟩ := h3
    rw [inv.slot t (fun i hi hai => by rw [hw] at hi; obtain rfl := Option.some.inj hi; rw [haj] at hai; cases hai), slotAt_own hw, slotAt_own hw]
    rcases h3 with ⟨hjk, hwt⟩ | ⟨hkj, hwt⟩
    · simp only [waits_listed ho hall hwt, decide_eq_true hjk]
    · have hjl : listed.getD j false = false := by
        cases hc : listed.getD j false with
        | false => rfl
        | true =>
          obtain ⟨oj, hoj, e, he, hb, hon'⟩ := Region.waitsFor_spec hwt
          have := inv.head.closed j oj hoj hc e he hb
          rw [hon', hun] at this
          cases this
      simp only [hjl, decide_eq_false (show ¬ j < k by omega)]

theorem LexInv.set {listed : Array Bool} {a : Act} {w w' : World} {k : Nat} {v : Value} (hon : onceB ops n = true) (hk : k < n) (hr : k ∈ Region.ready .any ops listed)
    (hS : ∀ w w', S w → Below w.heap.size w w' → S w') (hA : ∀ j v w w', A j v w → Below w.heap.size w w' → A j v w') (hb : Below w.heap.size w w')
    (hv : if al k = true then A k v w' else v = vs k) (inv : LexInv ops n al S A vs a0 listed a w) : LexInv ops n al S A vs a0 (listed.setIfInBounds k true) (a.put (dstOf ops k) v) w' := by
  have hun := (mem_ready.1 hr).1
  have hks : k < listed.size := by
    obtain ⟨_, o, ho, _⟩ := mem_ready.1 hr
    rw [inv.head.size]; exact (Array.getElem?_eq_some_iff.1 ho).1
  have hset : (listed.setIfInBounds k true).getD k false = true := by simp [hks]
  have hne : ∀ j, j ≠ k → (listed.setIfInBounds k true).getD j false = listed.getD j false := fun j hj => getD_set_ne false (Ne.symm hj)
  refine ⟨inv.head.set hr hk, hS _ _ inv.held hb, by rw [put_defers]; exact inv.defers, fun t j ho ha hl => ?_, fun t hf => ?_⟩
  · rw [put_get]
    by_cases e : j = k
    · subst e
      rw [if_pos (ownOf_some ho).2]
      rw [if_pos ha] at hv
      refine ⟨v, hv, ?_⟩
      rw [inv.slot t (fun i hi _ => by rw [ho] at hi; obtain rfl := Option.some.inj hi; exact getD_both hun), slotAt_own ho]
      simp [ha]
    · rw [if_neg (fun hd => e (once_spec hon (ownOf_some ho).1 hk (ownOf_some ho).2 hd))]
      obtain ⟨u, hu, hu2⟩ := inv.free t j ho ha (by rw [← hne j e]; exact hl)
      exact ⟨u, hA _ _ _ _ hu hb, hu2⟩
  · rw [put_get]
    cases ho : ownOf ops n t with
    | none =>
      rw [if_neg (ownOf_none ho hk), inv.slot t (fun j hj => by rw [ho] at hj; cases hj), slotAt_none ho, slotAt_none ho]
    | some j =>
      by_cases e : j = k
      · subst e
        have ha : al j = false := by
          cases hc : al j with
          | false => rfl
          | true => have := hf j ho hc; rw [hset] at this; cases this
        rw [if_pos (ownOf_some ho).2, inv.slot t (fun i hi _ => by rw [ho] at hi; obtain rfl := Option.some.inj hi; exact getD_both hun), slotAt_own ho, slotAt_own ho]
        rw [ha] at hv
        simp only [Bool.false_eq_true, if_false] at hv
        rw [getD_both hun, hset, ha, hv]
        simp
      · rw [if_neg (fun hd => e (once_spec hon (ownOf_some ho).1 hk (ownOf_some ho).2 hd)), inv.slot t (fun i hi hai => by
          have := hf i hi hai
          rw [ho] at hi
          obtain rfl := Option.some.inj hi
          rwa [hne _ e] at this), slotAt_own ho, slotAt_own ho, hne j e]

/-- What the walk's end may lean on: all slots as the walk leaves them, but those that were made freely. -/
def LexEnd (ops : Array Oper) (n : Nat) (al : Nat → Bool) (A : Nat → Value → World → Prop) (a a' : Act) (w : World) : Prop :=
  a'.defers = a.defers ∧ ∀ t, (∀ j, ownOf ops n t = some j → al j = true → ∃ v, A j v w ∧ a'.tmps[t]? = (a.tmps[t]?).map (fun _ => v)) ∧ ((∀ j, ownOf ops n t = some j → al j = false) → a'.tmps[t]? = a.tmps[t]?)

theorem lex_sound {l : List Oper} {a0 : Act} (hB : lexB l.toArray n al = true) (hS : ∀ w w', S w → Below w.heap.size w w' → S w') (hA : ∀ j v w w', A j v w → Below w.heap.size w w' → A j v w')
    (hal : ∀ k o, al k = true → l[k]? = some o → ∀ f w, S w → ∃ v w', (execOp f o).run P w = .ok (.value v) w' ∧ A k v w' ∧ Below w.heap.size w w')
    (hv : ∀ k o, k < n → al k = false → l[k]? = some o → Leaves P l.toArray S o (lexTr l.toArray al vs 0 a0 k) (vs k))
    (hK : ∀ a' w', S w' → LexEnd l.toArray n al A (lexTr l.toArray al vs 0 a0 n) a' w' → wpList P l.toArray Q (l.drop n) a' w') :
    ∀ (r : Nat) (listed : Array Bool) (a : Act) (w : World), lexLeft listed n = r → LexInv l.toArray n al S A vs a0 listed a w → wpAny P .any l.toArray Q (r + (l.toArray.size - n)) listed a w := by
  simp only [lexB, Bool.and_eq_true, decide_eq_true_eq] at hB
  obtain ⟨⟨⟨⟨⟨⟨⟨⟨hsel, hn⟩, hsi⟩, hch⟩, hon⟩, hah⟩, hlk⟩, hba⟩, hseq⟩ := hB
  intro r
  induction r with
  | zero =>
    intro listed a w hr inv
    have hl : ∀ i, i < n → listed.getD i true = true := lexLeft_zero n hr
    have hlf : ∀ i, i < n → listed.getD i false = true := fun i hi => by
      have h1 := hl i hi
      have h2 : i < listed.size := by rw [inv.head.size]; omega
      simp [h2] at h1 ⊢
      exact h1
    have hc : listed = lexCanon l.toArray.size n := by
      refine Array.ext (by rw [inv.head.size]; simp [lexCanon]) fun i h1 h2 => ?_
      have h3 : (lexCanon l.toArray.size n)[i] = decide (i < n) := by simp [lexCanon]
      rw [h3]
      have h4 : listed.getD i true = listed[i] := by simp [h1]
      rcases Nat.lt_or_ge i n with h5 | h5
      · rw [← h4, hl i h5, decide_eq_true h5]
      · have := inv.head.tail i h5 (by rw [← inv.head.size]; exact h1)
        rw [← h4, this, decide_eq_false (by omega)]
    have hend : LexEnd l.toArray n al A (lexTr l.toArray al vs 0 a0 n) a w := by
      obtain ⟨ts, td⟩ := lexTr_slot (al := al) (vs := vs) (a0 := a0) hon n (Nat.le_refl _)
      refine ⟨inv.defers.trans td.symm, fun t => ⟨fun j ho ha => ?_, fun hna => ?_⟩⟩
      · obtain ⟨v, h1, h2⟩ := inv.free t j ho ha (hlf j (ownOf_some ho).1)
        refine ⟨v, h1, ?_⟩
        rw [h2, ts t, slotAt_own ho]
        simp [ha]
      · rw [inv.slot t (fun j hj hja => by rw [hna j hj] at hja; cases hja), ts t]
        cases ho : ownOf l.toArray n t with
        | none => rw [slotAt_none ho, slotAt_none ho]
        | some j =>
          rw [slotAt_own ho, slotAt_own ho]
          have := (ownOf_some ho).1
          simp only [hlf j this, decide_eq_true this]
    have hw := hK a w inv.held hend
    rw [Nat.zero_add, hc]
    have hdl : (l.drop n).length = l.toArray.size - n := by simp
    rw [← hdl]
    exact wpAny_of_seq (md := .any) (l.drop n) n _ a w (fun j => by simp [List.getElem?_drop]) (by rw [hdl]; exact hseq) hw
  | succ r ih =>
    intro listed a w hr inv
    obtain ⟨m, hm, hum⟩ := lexLeft_some n (by rw [hr]; omega)
    -- the least that has not come up may come up
    have hleast : ∃ m, m < n ∧ listed.getD m true = false ∧ ∀ i, i < m → listed.getD i true = true := by
      have : ∀ b, ∀ m, m ≤ b → m < n → listed.getD m true = false → ∃ m, m < n ∧ listed.getD m true = false ∧ ∀ i, i < m → listed.getD i true = true := by
        intro b
        induction b with
        | zero => intro m hmb hmn hmu; exact ⟨m, hmn, hmu, fun i hi => by omega⟩
        | succ b ihb =>
          intro m hmb hmn hmu
          by_cases h : ∃ i, i < m ∧ listed.getD i true = false
          · obtain ⟨i, hi, hiu⟩ := h
            exact ihb i (by omega) (by omega) hiu
          · exact ⟨m, hmn, hmu, fun i hi => by
              cases hc : listed.getD i true with
              | true => rfl
              | false => exact absurd ⟨i, hi, hc⟩ h⟩
      exact this m m (Nat.le_refl _) hm hum
    obtain ⟨m, hm, hum, hlow⟩ := hleast
    have hmr : m ∈ Region.ready .any l.toArray listed := by
      have hml : m < l.toArray.size := by omega
      refine mem_ready.2 ⟨hum, l.toArray[m], Array.getElem?_eq_getElem hml, fun e he hb => ?_⟩
      have h1 := List.all_eq_true.1 hah m (List.mem_range.2 hml)
      rw [Array.getElem?_eq_getElem hml] at h1
      have h2 := Array.all_eq_true_iff_forall_mem.1 h1 e he
      rw [hb] at h2
      have h3 : e.on < m := by simpa using h2
      have h4 := hlow e.on h3
      have h5 : e.on < listed.size := by rw [inv.head.size]; omega
      simp [h5] at h4 ⊢
      exact h4
    rw [show r + 1 + (l.toArray.size - n) = (r + (l.toArray.size - n)) + 1 by omega]
    refine ⟨fun h0 => (by rw [h0] at hmr; cases hmr), fun i hi => ?_⟩
    have hin : i < n := by
      rcases Nat.lt_or_ge i n with h | h
      · exact h
      · exact absurd hi (tail_waits hsi hch hn inv.head _ m rfl hm hum i h)
    obtain ⟨hun, o, ho, hall⟩ := mem_ready.1 hi
    have hol : l[i]? = some o := by simpa using ho
    have hdo : dstOf l.toArray i = o.dst := by unfold dstOf; rw [ho]; rfl
    have hnext : ∀ v w', Below w.heap.size w w' → (if al i = true then A i v w' else v = vs i) → wpAny P .any l.toArray Q (r + (l.toArray.size - n)) (listed.setIfInBounds i true) (a.put o.dst v) w' := fun v w' hb hvv => by
      have hi2 : i < listed.size := by rw [inv.head.size]; omega
      have := lexLeft_set hi2 hun n hin
      rw [← hdo]
      exact ih _ _ _ (by omega) (inv.set hon hin hi hS hA hb hvv)
    unfold wpOp
    simp only [ho]
    by_cases ha : al i = true
    · have hg : o.guard = none := by
        have h1 := List.all_eq_true.1 hba i (List.mem_range.2 hin)
        rw [ha, ho] at h1
        simpa using h1
      have hw : Region.wanted o (yielded l.toArray a.tmps) = true := by unfold Region.wanted; rw [hg]
      obtain ⟨v, w', hrun, hAv, hb⟩ := hal i o ha hol a.eval w inv.held
      rw [if_pos hw]
      refine .inl ?_
      unfold Oper.wp
      rw [hrun]
      exact hnext v w' hb (by rw [if_pos ha]; exact hAv)
    · have ha' : al i = false := by simpa using ha
      have hlook := look_same hon hlk hin ha' ho (getD_both hun) hall inv
      have hsel' : ∀ cs b, o.op ≠ .select cs b := fun cs b => Region.noSelect_spec hsel i o cs b ho
      have hvi := hv i o hin ha' hol
      unfold Leaves at hvi
      rw [← wanted_at hlook] at hvi
      rcases hvi with ⟨hw, hd⟩ | ⟨hw, hu⟩
      · rw [if_pos hw]
        refine .inl ?_
        unfold Oper.wp
        rw [execOp_at hsel' hlook]
        rcases hd with hd | ⟨f, args, hrun, hc⟩
        · rw [hd w inv.held]
          exact hnext _ w (Below.refl _ w) (by rw [if_neg ha])
        · rw [hrun w inv.held, Oper.upon_enter]
          refine (hc w inv.held).mono fun e w' he => ?_
          obtain ⟨rfl, hb⟩ := he
          exact hnext _ w' hb (by rw [if_neg ha])
      · rw [hw]
        simp only [Bool.false_eq_true, if_false]
        exact hnext undef w (Below.refl _ w) (by rw [if_neg ha, hu])
end

/-- The region, walked in the order of the text; a list 'js' of what makes memory freely. -/
theorem wp_region_lex {Q : Exit → Act → World → Prop} {id : Nat} {a : Act} {w : World} {l : List Oper} (n : Nat) (al : Nat → Bool) (A : Nat → Value → World → Prop) (S : World → Prop)
    (hm : P.follows .mixedOrders = true) (hB : lexB l.toArray n al = true) (h0 : S w.drew) (hS : ∀ w w', S w → Below w.heap.size w w' → S w') (hA : ∀ j v w w', A j v w → Below w.heap.size w w' → A j v w')
    (hal : ∀ k o, al k = true → l[k]? = some o → ∀ f w, S w → ∃ v w', (execOp f o).run P w = .ok (.value v) w' ∧ A k v w' ∧ Below w.heap.size w w')
    (h : lexW P l.toArray S al (fun b => ∀ a' w', S w' → LexEnd l.toArray n al A b a' w' → wpList P l.toArray Q (l.drop n) a' w') 0 (l.take n) a) : (Code.region id l.toArray true).wp P Q a w := by
  have hn : n < l.length := by
    have hB' := hB
    simp only [lexB, Bool.and_eq_true, decide_eq_true_eq] at hB'
    simpa using hB'.1.1.1.1.1.1.1.2
  have htl : (l.take n).length = n := by simp; omega
  obtain ⟨vs, hv, hK⟩ := lexW_tr (ops := l.toArray) (l.take n) 0 a (fun j hj => by
    rw [htl] at hj
    simp [hj]) h
  rw [htl] at hv hK
  refine wp_region_any hm ?_
  have inv0 : LexInv l.toArray n al S A vs a (Array.replicate l.toArray.size false) a { w with drawn := w.drawn + 1 } := by
    refine ⟨⟨by simp, fun j oj _ hl => (by rw [getD_replicate_false] at hl; cases hl), fun t _ ht => getD_in (by simpa using ht) (getD_replicate_false _ _)⟩, h0, rfl, fun t j _ _ hl => (by rw [getD_replicate_false] at hl; cases hl), fun t _ => ?_⟩
    cases ho : ownOf l.toArray n t with
    | none => rw [slotAt_none ho]
    | some j => rw [slotAt_own ho, getD_replicate_false]; simp
  have := lex_sound (P := P) (Q := Q) (A := A) (vs := vs) (a0 := a) hB hS hA hal (fun k o hk hak ho => by
    have := hv k o hk (by rw [Nat.zero_add]; exact hak) (by rw [Nat.zero_add]; simpa using ho)
    rwa [Nat.zero_add] at this) hK n _ a _ (lexLeft_start _ n (by simp; omega)) inv0
  rw [show n + (l.toArray.size - n) = l.toArray.size by simp; omega] at this
  exact this
end

/-! What is made freely: nothing; one block. -/
theorem lexEnd_none {ops : Array Oper} {n : Nat} {A : Nat → Value → World → Prop} {a a' : Act} {w : World} (h : LexEnd ops n (fun _ => false) A a a' w) : a' = a :=
  act_ext h.1 fun t => (h.2 t).2 fun _ _ => rfl
theorem lexEnd_one {ops : Array Oper} {n j : Nat} {d : Tmp} {A : Nat → Value → World → Prop} {a a' : Act} {w : World} (hd : ownOf ops n d = some j) (h : LexEnd ops n (fun k => k == j) A a a' w) : ∃ v, A j v w ∧ a' = a.put (some d) v := by
  obtain ⟨v, hv, hs⟩ := (h.2 d).1 j hd (by simp)
  refine ⟨v, hv, act_ext (by rw [put_defers]; exact h.1) fun t => ?_⟩
  rw [put_get]
  by_cases e : d = t
  · subst e; rw [if_pos rfl, hs]
  · rw [if_neg (by simpa using e)]
    refine (h.2 t).2 fun i hi => ?_
    have hne : i ≠ j := fun e2 => by
      subst e2
      have := (ownOf_some hi).2
      rw [(ownOf_some hd).2] at this
      exact e (Option.some.inj this)
    simpa using hne
theorem lex_none {P : Program} {S : World → Prop} {A : Nat → Value → World → Prop} {l : List Oper} : ∀ k o, (fun _ => false : Nat → Bool) k = true → l[k]? = some o → ∀ f w, S w → ∃ v w', (execOp f o).run P w = .ok (.value v) w' ∧ A k v w' ∧ Below w.heap.size w w' :=
  fun _ _ h => by cases h
end Go.Proofs.YtlfkohanfeejfaaDoor

namespace Go.Proofs.YtlfkohanfeejfaaDoor
open Go.RowKit

theorem limb_top8 {N i : Nat} (hN : N < 256 ^ i) : limb N (i / 8) = N / 18446744073709551616 ^ (i / 8) ∧ limb N (i / 8) < 2 ^ (8 * (i % 8)) := by
  have e : (256 : Nat) ^ i = 18446744073709551616 ^ (i / 8) * 256 ^ (i % 8) := by
    rw [show (18446744073709551616 : Nat) = 256 ^ 8 by decide, ← Nat.pow_mul, ← Nat.pow_add, Nat.div_add_mod]
  have h1 : N / 18446744073709551616 ^ (i / 8) < 256 ^ (i % 8) := by
    rw [e] at hN
    exact Nat.div_lt_of_lt_mul hN
  have h2 : (256 : Nat) ^ (i % 8) ≤ 72057594037927936 := by
    rw [show (72057594037927936 : Nat) = 256 ^ 7 by decide]
    exact Nat.pow_le_pow_right (by omega) (by omega)
  have h3 : limb N (i / 8) = N / 18446744073709551616 ^ (i / 8) := by
    unfold limb
    exact Nat.mod_eq_of_lt (by omega)
  refine ⟨h3, ?_⟩
  rw [h3, Nat.pow_mul]
  exact h1

theorem limb_digit8 {N d i : Nat} (hN : N < 256 ^ i) (hd : d < 256) : limb (N + d * 256 ^ i) (i / 8) = limb N (i / 8) + 2 ^ (8 * (i % 8)) * d := by
  have e : (256 : Nat) ^ i = 18446744073709551616 ^ (i / 8) * 256 ^ (i % 8) := by
    rw [show (18446744073709551616 : Nat) = 256 ^ 8 by decide, ← Nat.pow_mul, ← Nat.pow_add, Nat.div_add_mod]
  obtain ⟨h1, h2⟩ := limb_top8 hN
  have hlt : N + d * 256 ^ i < 256 ^ (i + 1) := by
    rw [Nat.pow_succ]
    have : d * 256 ^ i ≤ 255 * 256 ^ i := Nat.mul_le_mul_right _ (by omega)
    omega
  have hq : (N + d * 256 ^ i) / 18446744073709551616 ^ (i / 8) = N / 18446744073709551616 ^ (i / 8) + 256 ^ (i % 8) * d := by
    rw [e, show d * (18446744073709551616 ^ (i / 8) * 256 ^ (i % 8)) = 18446744073709551616 ^ (i / 8) * (256 ^ (i % 8) * d) by rw [Nat.mul_left_comm, Nat.mul_comm d]]
    exact Nat.add_mul_div_left _ _ (Nat.pow_pos (by omega))
  unfold limb at *
  rw [hq, h1]
  have h16 : (2 : Nat) ^ (8 * (i % 8)) = 256 ^ (i % 8) := by rw [Nat.pow_mul]
  rw [h16] at h2 ⊢
  have h3 : (256 : Nat) ^ (i % 8) ≤ 72057594037927936 := by
    rw [show (72057594037927936 : Nat) = 256 ^ 7 by decide]
    exact Nat.pow_le_pow_right (by omega) (by omega)
  have h4 : 256 ^ (i % 8) * d ≤ 256 ^ (i % 8) * 255 := Nat.mul_le_mul_left _ (by omega)
  exact Nat.mod_eq_of_lt (by omega)

theorem limb_other8 {N d i j : Nat} (hN : N < 256 ^ i) (hd : d < 256) (hj : j ≠ i / 8) : limb (N + d * 256 ^ i) j = limb N j := by
  have hlt : N + d * 256 ^ i < 256 ^ (i + 1) := by
    rw [Nat.pow_succ]
    have : d * 256 ^ i ≤ 255 * 256 ^ i := Nat.mul_le_mul_right _ (by omega)
    omega
  unfold limb
  rcases Nat.lt_or_gt_of_ne hj with h | h
  · have e : (256 : Nat) ^ i = 18446744073709551616 ^ j * (18446744073709551616 * 256 ^ (i - 8 * (j + 1))) := by
      rw [← Nat.mul_assoc, ← Nat.pow_succ, show (18446744073709551616 : Nat) = 256 ^ 8 by decide, ← Nat.pow_mul, ← Nat.pow_add]
      congr 1
      omega
    rw [e, show d * (18446744073709551616 ^ j * (18446744073709551616 * 256 ^ (i - 8 * (j + 1)))) = 18446744073709551616 ^ j * (18446744073709551616 * (d * 256 ^ (i - 8 * (j + 1)))) by
      rw [Nat.mul_left_comm, Nat.mul_left_comm d 18446744073709551616], Nat.add_mul_div_left _ _ (Nat.pow_pos (by omega)), Nat.add_mul_mod_self_left]
  · have hle : (256 : Nat) ^ (i + 1) ≤ 18446744073709551616 ^ j := by
      rw [show (18446744073709551616 : Nat) = 256 ^ 8 by decide, ← Nat.pow_mul]
      exact Nat.pow_le_pow_right (by omega) (by omega)
    rw [Nat.div_eq_of_lt (by omega), Nat.div_eq_of_lt (by omega)]

theorem lims_digit8 {N d i : Nat} (hN : N < 256 ^ i) (hd : d < 256) : (lims N).set (i / 8) (limb N (i / 8) + 2 ^ (8 * (i % 8)) * d) = lims (N + d * 256 ^ i) := by
  refine List.ext_getElem (by simp [lims]) fun j h1 h2 => ?_
  have hj : j < 4 := by simpa [lims] using h2
  have g : ∀ n, (lims n)[j]'(by simpa [lims] using hj) = limb n j := fun n => by
    match j, hj with
    | 0, _ => rfl
    | 1, _ => rfl
    | 2, _ => rfl
    | 3, _ => rfl
  rw [List.getElem_set, g (N + d * 256 ^ i)]
  split
  · next e => rw [← limb_digit8 hN hd, e]
  · next e => rw [g, limb_other8 hN hd (fun h => e h.symm)]

theorem or_digit8 {x d r : Nat} (hx : x < 2 ^ (8 * r)) (hd : d < 256) (hr : r < 8) : bits .or .u64 (x : Int) (IntKind.u64.wrap ((d : Int) * 2 ^ (8 * r))) = ((x + 2 ^ (8 * r) * d : Nat) : Int) := by
  have h2 : (2 : Nat) ^ (8 * r) ≤ 72057594037927936 := by
    rw [show (72057594037927936 : Nat) = 2 ^ 56 by decide]
    exact Nat.pow_le_pow_right (by omega) (by omega)
  have h3 : 2 ^ (8 * r) * d ≤ 72057594037927936 * 255 := Nat.mul_le_mul h2 (by omega)
  have e : (d : Int) * 2 ^ (8 * r) = ((2 ^ (8 * r) * d : Nat) : Int) := by
    rw [Int.natCast_mul, Int.natCast_pow, Int.mul_comm]; rfl
  have hw : IntKind.u64.wrap ((2 ^ (8 * r) * d : Nat) : Int) = ((2 ^ (8 * r) * d : Nat) : Int) := by rw [IntKind.wrap_u64]; omega
  rw [e, hw, u64_or_nat _ _ (by omega) (by omega), Nat.add_comm, Nat.two_pow_add_eq_or_of_lt hx, Nat.or_comm]
end Go.Proofs.YtlfkohanfeejfaaDoor
