/-
  What every statement's row needs: an argument read as data is bytes, a key, rows of bytes; behind the call all reads as before.
-/
import Derived.Test.YtbkmbbhgpogeiaaRows
import Derived.Test.YtbkmbbhgpogeiaaBits
import Derived.Test.YtbkmbbhgpogeiaaRows2
import Derived.Deep.MidRow
import Derived.ProofKit
import Derived.OpenShut
import Derived.Deep.Slices
namespace Go.Proofs.Ytbkmbbhgpogeiaa
open Go.ChangeShapes Go.WideShapes Go.ChangeAt Go.RowKit Go.Deep

theorem Try.own : ownKnob Try.prog.godebug = none := by kernel_rfl
theorem Try.laidOut : laidOutB Try.prog = true := by kernel_rfl

section
variable {H : Type} {enc : TypeId × Value → H} {P : Program}

/-- The types can be read, and lie in the table. -/
def typesRead (P : Program) (ts : List TypeId) : Bool := ts.all fun t => P.readableRec t && decide (t < P.types.size)

theorem below_trodAll (hl : laidOutB P = true) {W W' : World} (hb : Below W.heap.size W W') {sp : Nat → Bool} :
    ∀ {ts : List TypeId} {vs : List Value} {ds : List (DataW H)} {ps : List MemPlace}, typesRead P ts = true → DataW.TrodAll enc P W 0 (fun _ => true) true ts vs ds ps → (∀ x ∈ ps, x.block < W.heap.size) → (∀ x ∈ ps, sp x.block = true) →
      DataW.TrodAll enc P W' 0 sp true ts vs ds ps
  | [], _, _, _, _, h, _, _ => by
    obtain ⟨rfl, rfl, rfl⟩ := trodAll_nil h
    rfl
  | t :: ts, _, _, _, hr, h, hlt, hs => by
    obtain ⟨v, vs', d, ds', p, q, rfl, rfl, rfl, h1, h2⟩ := trodAll_cons h
    have hr' : (P.readableRec t = true ∧ t < P.types.size) ∧ typesRead P ts = true := by simpa [typesRead] using hr
    exact ⟨p, q, WideElems.Trod_stays hl hr'.1.1 hr'.1.2 h1 (fun x hx => hb.same (hlt x (by simp [hx]))) (fun x hx => hs x (by simp [hx])),
      below_trodAll hl hb hr'.2 h2 (fun x hx => hlt x (by simp [hx])) (fun x hx => hs x (by simp [hx])), rfl⟩

/-- 'true', and the arguments as they were: where below the heap's old size nothing has turned. -/
theorem post_true {f : Func} {s : ChangeSpec} {apart fresh handsOn again : Bool} {W W' : World} {args : Array Value} {ds gs : List (DataW H)} {before : List MemPlace} {tb : TypeId}
    (hl : laidOutB P = true) (hps : typesRead P f.params.toList = true) (hrt : f.resultTypes = #[tb]) (htb : P.underlying tb = some .bool) (hvs : s.vars = [])
    (hW : DataW.Whole enc P f.params.toList s.vars apart W args.toList ds gs before)
    (hr : (s.fn H (ds ++ gs)).results = [.lit (.bool true)]) (ha : (s.fn H (ds ++ gs)).args = ds) (hv : (s.fn H (ds ++ gs)).vars = [])
    (hb : Below W.heap.size W W') : s.post enc P f apart fresh handsOn again W args (.bool true) W' := by
  have hlt : ∀ p ∈ before, p.block < W.heap.size := fun p hp => by simpa using hW.lt p hp
  have hW0 := hW
  obtain ⟨p, q, hA, hV, rfl, hz, hn⟩ := hW
  rw [hvs] at hV
  obtain ⟨rfl, rfl⟩ := trodVars_none hV
  simp only [List.append_nil] at hlt hz hn hW0 hr ha hv ⊢
  have hres : ∀ (b : Nat) (sp : Nat → Bool) (hd : Bool), DataW.TrodAll enc P W' b sp hd f.resultTypes.toList ((Value.bool true).resultList f.resultTypes.size) [.lit (.bool true)] [] := fun b sp hd => by
    rw [hrt]
    exact trodAll_mk1 (shut_bool htb true)
  have hargs : ∀ sp : Nat → Bool, (∀ x ∈ p, sp x.block = true) → DataW.TrodAll enc P W' 0 sp true f.params.toList args.toList ds p := fun sp hs => below_trodAll hl hb hps hA hlt hs
  have hvars : ∀ sp : Nat → Bool, DataW.TrodVars enc P W' sp s.vars [] [] := fun sp => by rw [hvs]; rfl
  refine ⟨ds, [], p, [], p, [], hW0, ?_, ?_, ?_, World.keptBut_mono (fun x hx => ⟨hx, Or.inr (Or.inl hx)⟩) (hb.frame (· ∈ p)), fun _ => ?_⟩
  · simp only [List.append_nil, hr]; exact hres _ _ _
  · simp only [List.append_nil, ha]; exact hargs _ (fun x hx => by simpa using hlt x hx)
  · simp only [List.append_nil, hv]; exact hvars _
  · refine ⟨ok_one hrt rfl (okWide_bool_mk htb true), _, _, ([] ++ p) ++ [], ⟨[] ++ p, [], trodAll_append (hargs _ (fun _ _ => rfl)) (hres _ _ _), hvars _, rfl, ?_, ?_⟩, ?_⟩
    · intro b off hp
      have hp' : MemPlace.cell b off ∈ p := by simpa using hp
      rw [hb.frozen (p := ⟨b, off, none⟩) (hlt _ hp')]
      exact hz b off hp'
    · intro h
      simpa using hn h
    · intro x hx _
      simpa using hx

/-- A byte as a number of its range. -/
theorem byte_of_wf {n : Int} (h : (Lit.int .u8 n).wf = true) : ∃ x : UInt8, n = x.toNat := by
  have := bounds_u8 h
  exact ⟨UInt8.ofNat n.toNat, by rw [UInt8.toNat_ofNat']; omega⟩

theorem bytes_of_wf : ∀ zs : List Int, (∀ n ∈ zs, (Lit.int .u8 n).wf = true) → ∃ l : List UInt8, zs = l.map fun x => (x.toNat : Int)
  | [], _ => ⟨[], rfl⟩
  | z :: zs, h => by
    obtain ⟨x, hx⟩ := byte_of_wf (h z (by simp))
    obtain ⟨l, hl⟩ := bytes_of_wf zs (fun n hn => h n (by simp [hn]))
    exact ⟨x :: l, by rw [hx, hl]; rfl⟩

/-- An array of bytes, read. -/
theorem open_key {W : World} {base b0 n : Nat} {sp : Nat → Bool} {hd : Bool} {r : Reach} {t e : TypeId} {v : Value} {d : DataW H} {ps : List MemPlace} (ht : P.underlying t = some (.array n e)) (he : P.underlying e = some (.int .u8)) (hce : P.cellsOf e = 1)
    (hct : P.cellsOf t = n) (hval : Value.okWide P W r b0 t v) (hd' : DataW.Trod enc P W base sp hd t v d ps) : ∃ l : List UInt8, l.length = n ∧ v = kv l := by
  obtain ⟨cs, rfl, hsz, _⟩ : ∃ cs, v = .agg cs ∧ cs.size = P.cellsOf t ∧ Row.okWide P W r b0 t cs := by
    simpa [Value.okWide, ht] using hval
  obtain ⟨fuel, hf⟩ := hd'
  obtain ⟨xs, m, _, _, hcl, hxl, hx⟩ := DataW.trod_array ht hf
  have each : ∀ i, i < n → ∃ x : UInt8, cs[i]? = some (bv x) := fun i hi => by
    have hi' : i < cs.size := by omega
    have h := hx i hi
    rw [hce] at h
    have hcells : (Value.agg cs).cells.toList = cs.toList := rfl
    rw [hcells, Nat.mul_one] at h
    have e1 : (cs.toList.drop i).take 1 = [cs[i]] := by
      rw [List.take_one, List.head?_drop]
      simp [hi']
    rw [e1, List.getElem?_eq_getElem (by omega)] at h
    obtain ⟨z, hz, _, hw⟩ := DataW.trod_int he h
    obtain ⟨x, hx⟩ := byte_of_wf hw
    refine ⟨x, ?_⟩
    rw [Array.getElem?_eq_getElem hi']
    simp only [List.cons.injEq, and_true] at hz
    rw [hz, hx]; rfl
  obtain ⟨g, hg⟩ := choose_lt each
  refine ⟨(List.range n).map g, by simp, ?_⟩
  show Value.agg cs = .agg _
  congr 1
  apply Array.ext_getElem?
  intro i
  by_cases hi : i < n
  · rw [hg i hi]; simp [hi]
  · rw [Array.getElem?_eq_none (by omega)]
    simp [hi]

/-- A slice of bytes, read: its length is in its capacity, its cells hold them. -/
theorem open_bytes {W : World} {sp : Nat → Bool} {hd : Bool} {base : Nat} {t e : TypeId} {v : Value} {d : DataW H} {ps : List MemPlace} (ht : P.underlying t = some (.slice e)) (he : P.underlying e = some (.int .u8)) (hce : P.cellsOf e = 1)
    {fuel : Nat} (hd' : DataW.trod enc P W base sp hd fuel t [v] = some (d, ps)) : ∃ (l : List UInt8) (A : Option Addr) (c : Nat), v = .slice A l.length c ∧ Sees W W.heap.size A l.length c (l.map bv) := by
  rcases open_ints ht he hce hd' with ⟨hcs, _⟩ | ⟨a, len, cap, zs, hcs, _, hl, hm, hz, hx, hcell, hw⟩
  · simp only [List.cons.injEq, and_true] at hcs
    exact ⟨[], none, 0, hcs, Sees.none_⟩
  · simp only [List.cons.injEq, and_true] at hcs
    obtain ⟨l, rfl⟩ := bytes_of_wf zs hw
    have hzl : len ≤ l.length := by
      rw [List.length_map] at hz
      rw [hz]; split <;> omega
    refine ⟨l.take len, some a, cap, ?_, ⟨by simp, by simp; omega, hm, (fun h => by cases h), fun h0 => ?_⟩⟩
    · rw [List.length_take, Nat.min_eq_left hzl]; exact hcs
    · have h0' : 0 < len := by simp at h0; omega
      have hc0 := hcell 0 (by simp; omega)
      have hb := World.block_lt_of_cell? _ _ hc0
      have hsp := World.cell?_spot hc0
      obtain ⟨b, o, s⟩ := a
      have e0 : (⟨b, o, s⟩ : Addr).add 0 = ⟨b, o, s⟩ := by simp [Addr.add]
      rw [e0] at hb hsp
      simp only at hsp hb
      subst hsp
      refine ⟨b, o, rfl, hb, fun j u hu => ?_⟩
      obtain ⟨hj, rfl⟩ := List.getElem?_eq_some_iff.1 hu
      simp only [List.length_map, List.length_take] at hj
      have := hcell j (by simp; omega)
      rw [Addr.add_mid] at this
      rw [this]
      simp [bv, show j < l.length by omega]

theorem slice_of_ok {W : World} {r : Reach} {b0 : Nat} {t e : TypeId} {v : Value} (ht : P.underlying t = some (.slice e)) (hval : Value.okWide P W r b0 t v) : ∃ A n c, v = .slice A n c := by
  simp only [Value.okWide, ht] at hval
  cases v <;> simp_all [Cell.okWide, Cell.ok]

/-- An argument of bytes. -/
theorem open_arg_bytes {W : World} {sp : Nat → Bool} {hd : Bool} {base b0 : Nat} {r : Reach} {t e : TypeId} {v : Value} {d : DataW H} {ps : List MemPlace} (ht : P.underlying t = some (.slice e)) (he : P.underlying e = some (.int .u8)) (hce : P.cellsOf e = 1)
    (hval : Value.okWide P W r b0 t v) (h : DataW.Trod enc P W base sp hd t v d ps) : ∃ (l : List UInt8) (A : Option Addr) (c : Nat), v = .slice A l.length c ∧ Sees W W.heap.size A l.length c (l.map bv) := by
  obtain ⟨A, n, c, rfl⟩ := slice_of_ok ht hval
  obtain ⟨fuel, hf⟩ := h
  exact open_bytes ht he hce hf

/-- An argument of rows of bytes. -/
theorem open_arg_rows {W : World} {sp : Nat → Bool} {hd : Bool} {base b0 : Nat} {r : Reach} {t u e : TypeId} {v : Value} {d : DataW H} {ps : List MemPlace} (ht : P.underlying t = some (.slice u)) (hu : P.underlying u = some (.slice e)) (he : P.underlying e = some (.int .u8)) (hcu : P.cellsOf u = 1) (hce : P.cellsOf e = 1)
    (hval : Value.okWide P W r b0 t v) (h : DataW.Trod enc P W base sp hd t v d ps) : ∃ (ls : List (List UInt8)) (A : Option Addr) (c : Nat), v = .slice A ls.length c ∧ SeesL W W.heap.size A ls.length c ls := by
  obtain ⟨A, n, c, rfl⟩ := slice_of_ok ht hval
  obtain ⟨fuel, hf⟩ := h
  rcases open_slice1 ht hcu hf with ⟨hcs, _⟩ | ⟨a, len, cap, m, q, V, D, Pl, hcs, _, hl, hm, hmm, _, hx⟩
  · have hcs' : Value.slice A n c = .slice none 0 0 := by simpa [Value.cells] using hcs
    exact ⟨[], none, 0, hcs', SeesL.none_⟩
  · have hcs' : Value.slice A n c = .slice (some a) len cap := by simpa [Value.cells] using hcs
    have hlm : len ≤ m := by rw [hmm]; split <;> omega
    have each : ∀ i, i < len → ∃ y : List UInt8 × Option Addr × Nat, V i = .slice y.2.1 y.1.length y.2.2 ∧ Sees W W.heap.size y.2.1 y.1.length y.2.2 (y.1.map bv) := fun i hi => by
      obtain ⟨l, Ai, ci, e1, e2⟩ := open_bytes hu he hce (hx i (by omega)).2
      exact ⟨(l, Ai, ci), e1, e2⟩
    obtain ⟨g, hg⟩ := choose_lt each
    have hlen : ((List.range len).map fun i => (g i).1).length = len := by simp
    refine ⟨(List.range len).map fun i => (g i).1, some a, cap, by rw [hlen]; exact hcs', (List.range len).map V, ⟨by simp, by rw [hlen]; exact hl, hm, (fun h => by cases h), fun h0 => ?_⟩, by simp, fun i v l hv hl' => ?_⟩
    · rw [hlen] at h0
      have hc0 := (hx 0 (by omega)).1
      have hb := World.block_lt_of_cell? _ _ hc0
      have hsp := World.cell?_spot hc0
      obtain ⟨b, o, s⟩ := a
      have e0 : (⟨b, o, s⟩ : Addr).add 0 = ⟨b, o, s⟩ := by simp [Addr.add]
      rw [e0] at hb hsp
      simp only at hsp hb
      subst hsp
      refine ⟨b, o, rfl, hb, fun j u hu => ?_⟩
      obtain ⟨hj, rfl⟩ := List.getElem?_eq_some_iff.1 hu
      simp only [List.length_map, List.length_range] at hj
      have := (hx j (by omega)).1
      rw [Addr.add_mid] at this
      rw [this]
      simp
    · obtain ⟨hi, rfl⟩ := List.getElem?_eq_some_iff.1 hv
      obtain ⟨_, rfl⟩ := List.getElem?_eq_some_iff.1 hl'
      simp only [List.length_map, List.length_range] at hi
      have := hg i hi
      simp only [List.getElem_map, List.getElem_range]
      exact ⟨_, _, this.1, this.2⟩
end
end Go.Proofs.Ytbkmbbhgpogeiaa
