/-
  What every statement's row needs: an argument read as data is bytes, a key, rows of bytes; behind the call all reads as before.
-/
import Derived.Test.YtppaffamlfghjaaDoorRows
import Derived.Test.YtppaffamlfghjaaDoorWideLawTells
import Derived.LaidMore
import Derived.Stop.Joined
import Derived.Test.YtppaffamlfghjaaDoorRows2
import Derived.Deep.MidRow
import Derived.ProofKit
import Derived.OpenShut
import Derived.Deep.Slices
namespace Go.Proofs.YtppaffamlfghjaaDoor
open Go.ChangeShapes Go.WideShapes Go.ChangeAt Go.RowKit Go.Deep

theorem Tryd.own : ownKnob Tryd.prog.godebug = none := by kernel_rfl
theorem Tryd.laidOut : laidOutB Tryd.prog = true := by kernel_rfl

section
variable {H : Type} {enc : TypeId × Value → H} {P : Program}

/-- The types can be read, and lie in the table. -/
def typesRead (P : Program) (ts : List TypeId) : Bool := ts.all fun t => P.readableRec t && decide (t < P.types.size)

theorem below_trodAll (hl : laidOutB P = true) {W W' : World} (hb : Below W.heap.size W W') {sp : Nat → Bool} :
    ∀ {ts : List TypeId} {vs : List Value} {ds : List (DataW H)} {ps : List MemPlace}, typesRead P ts = true → DataW.TrodAll enc P W 0 (fun _ => true) true ts vs ds ps → (∀ x ∈ ps, x.block < W.heap.size) → (∀ x ∈ ps, sp x.block = true) →
      DataW.TrodAll enc P W' 0 sp true ts vs ds ps
  | [], _, _, _, _, h, _, _ => by
    obtain ⟨rfl, rfl, rfl⟩ := trodAll_nil h
    rfl
  | t :: ts, _, _, _, hr, h, hlt, hs => by
    obtain ⟨v, vs', d, ds', p, q, rfl, rfl, rfl, h1, h2⟩ := trodAll_cons h
    have hr' : (P.readableRec t = true ∧ t < P.types.size) ∧ typesRead P ts = true := by simpa [typesRead] using hr
    exact ⟨p, q, WideElems.Trod_stays hl hr'.1.1 hr'.1.2 h1 (fun x hx => hb.same (hlt x (by simp [hx]))) (fun x hx => hs x (by simp [hx])),
      below_trodAll hl hb hr'.2 h2 (fun x hx => hlt x (by simp [hx])) (fun x hx => hs x (by simp [hx])), rfl⟩

/-- 'true', and the arguments as they were: where below the heap's old size nothing has turned. -/
theorem post_true {f : Func} {s : ChangeSpec} {apart fresh handsOn again : Bool} {W W' : World} {args : Array Value} {ds gs : List (DataW H)} {before : List MemPlace} {tb : TypeId}
    (hl : laidOutB P = true) (hps : typesRead P f.params.toList = true) (hrt : f.resultTypes = #[tb]) (htb : P.underlying tb = some .bool) (hvs : s.vars = [])
    (hW : DataW.Whole enc P f.params.toList s.vars apart W args.toList ds gs before)
    (hr : (s.fn H (ds ++ gs)).results = [.lit (.bool true)]) (ha : (s.fn H (ds ++ gs)).args = ds) (hv : (s.fn H (ds ++ gs)).vars = [])
    (hb : Below W.heap.size W W') : s.post enc P f apart fresh handsOn again W args (.bool true) W' := by
  have hlt : ∀ p ∈ before, p.block < W.heap.size := fun p hp => by simpa using hW.lt p hp
  have hW0 := hW
  obtain ⟨p, q, hA, hV, rfl, hz, hn⟩ := hW
  rw [hvs] at hV
  obtain ⟨rfl, rfl⟩ := trodVars_none hV
  simp only [List.append_nil] at hlt hz hn hW0 hr ha hv ⊢
  have hres : ∀ (b : Nat) (sp : Nat → Bool) (hd : Bool), DataW.TrodAll enc P W' b sp hd f.resultTypes.toList ((Value.bool true).resultList f.resultTypes.size) [.lit (.bool true)] [] := fun b sp hd => by
    rw [hrt]
    exact trodAll_mk1 (shut_bool htb true)
  have hargs : ∀ sp : Nat → Bool, (∀ x ∈ p, sp x.block = true) → DataW.TrodAll enc P W' 0 sp true f.params.toList args.toList ds p := fun sp hs => below_trodAll hl hb hps hA hlt hs
  have hvars : ∀ sp : Nat → Bool, DataW.TrodVars enc P W' sp s.vars [] [] := fun sp => by rw [hvs]; rfl
  refine ⟨ds, [], p, [], p, [], hW0, ?_, ?_, ?_, World.keptBut_mono (fun x hx => ⟨hx, Or.inr (Or.inl hx)⟩) (hb.frame (· ∈ p)), fun _ => ?_⟩
  · simp only [List.append_nil, hr]; exact hres _ _ _
  · simp only [List.append_nil, ha]; exact hargs _ (fun x hx => by simpa using hlt x hx)
  · simp only [List.append_nil, hv]; exact hvars _
  · refine ⟨ok_one hrt rfl (okWide_bool_mk htb true), _, _, ([] ++ p) ++ [], ⟨[] ++ p, [], trodAll_append (hargs _ (fun _ _ => rfl)) (hres _ _ _), hvars _, rfl, ?_, ?_⟩, ?_⟩
    · intro b off hp
      have hp' : MemPlace.cell b off ∈ p := by simpa using hp
      rw [hb.frozen (p := ⟨b, off, none⟩) (hlt _ hp')]
      exact hz b off hp'
    · intro h
      simpa using hn h
    · intro x hx _
      simpa using hx

/-- A byte as a number of its range. -/
theorem byte_of_wf {n : Int} (h : (Lit.int .u8 n).wf = true) : ∃ x : UInt8, n = x.toNat := by
  have := bounds_u8 h
  exact ⟨UInt8.ofNat n.toNat, by rw [UInt8.toNat_ofNat']; omega⟩

theorem bytes_of_wf : ∀ zs : List Int, (∀ n ∈ zs, (Lit.int .u8 n).wf = true) → ∃ l : List UInt8, zs = l.map fun x => (x.toNat : Int)
  | [], _ => ⟨[], rfl⟩
  | z :: zs, h => by
    obtain ⟨x, hx⟩ := byte_of_wf (h z (by simp))
    obtain ⟨l, hl⟩ := bytes_of_wf zs (fun n hn => h n (by simp [hn]))
    exact ⟨x :: l, by rw [hx, hl]; rfl⟩

/-- A slice of bytes, read: its length is in its capacity, its cells hold them. -/
theorem open_bytes {W : World} {sp : Nat → Bool} {hd : Bool} {base : Nat} {t e : TypeId} {v : Value} {d : DataW H} {ps : List MemPlace} (ht : P.underlying t = some (.slice e)) (he : P.underlying e = some (.int .u8)) (hce : P.cellsOf e = 1)
    {fuel : Nat} (hd' : DataW.trod enc P W base sp hd fuel t [v] = some (d, ps)) : ∃ (l : List UInt8) (A : Option Addr) (c : Nat), v = .slice A l.length c ∧ Sees W W.heap.size A l.length c (l.map bv) := by
  rcases open_ints ht he hce hd' with ⟨hcs, _⟩ | ⟨a, len, cap, zs, hcs, _, hl, hm, hz, hx, hcell, hw⟩
  · simp only [List.cons.injEq, and_true] at hcs
    exact ⟨[], none, 0, hcs, Sees.none_⟩
  · simp only [List.cons.injEq, and_true] at hcs
    obtain ⟨l, rfl⟩ := bytes_of_wf zs hw
    have hzl : len ≤ l.length := by
      rw [List.length_map] at hz
      rw [hz]; split <;> omega
    refine ⟨l.take len, some a, cap, ?_, ⟨by simp, by simp; omega, hm, (fun h => by cases h), fun h0 => ?_⟩⟩
    · rw [List.length_take, Nat.min_eq_left hzl]; exact hcs
    · have h0' : 0 < len := by simp at h0; omega
      have hc0 := hcell 0 (by simp; omega)
      have hb := World.block_lt_of_cell? _ _ hc0
      have hsp := World.cell?_spot hc0
      obtain ⟨b, o, s⟩ := a
      have e0 : (⟨b, o, s⟩ : Addr).add 0 = ⟨b, o, s⟩ := by simp [Addr.add]
      rw [e0] at hb hsp
      simp only at hsp hb
      subst hsp
      refine ⟨b, o, rfl, hb, fun j u hu => ?_⟩
      obtain ⟨hj, rfl⟩ := List.getElem?_eq_some_iff.1 hu
      simp only [List.length_map, List.length_take] at hj
      have := hcell j (by simp; omega)
      rw [Addr.add_mid] at this
      rw [this]
      simp [bv, show j < l.length by omega]

theorem slice_of_ok {W : World} {r : Reach} {b0 : Nat} {t e : TypeId} {v : Value} (ht : P.underlying t = some (.slice e)) (hval : Value.okWide P W r b0 t v) : ∃ A n c, v = .slice A n c := by
  simp only [Value.okWide, ht] at hval
  cases v <;> simp_all [Cell.okWide, Cell.ok]

/-- An argument of bytes. -/
theorem open_arg_bytes {W : World} {sp : Nat → Bool} {hd : Bool} {base b0 : Nat} {r : Reach} {t e : TypeId} {v : Value} {d : DataW H} {ps : List MemPlace} (ht : P.underlying t = some (.slice e)) (he : P.underlying e = some (.int .u8)) (hce : P.cellsOf e = 1)
    (hval : Value.okWide P W r b0 t v) (h : DataW.Trod enc P W base sp hd t v d ps) : ∃ (l : List UInt8) (A : Option Addr) (c : Nat), v = .slice A l.length c ∧ Sees W W.heap.size A l.length c (l.map bv) := by
  obtain ⟨A, n, c, rfl⟩ := slice_of_ok ht hval
  obtain ⟨fuel, hf⟩ := h
  exact open_bytes ht he hce hf

/-- An argument of rows of bytes. -/
theorem open_arg_rows {W : World} {sp : Nat → Bool} {hd : Bool} {base b0 : Nat} {r : Reach} {t u e : TypeId} {v : Value} {d : DataW H} {ps : List MemPlace} (ht : P.underlying t = some (.slice u)) (hu : P.underlying u = some (.slice e)) (he : P.underlying e = some (.int .u8)) (hcu : P.cellsOf u = 1) (hce : P.cellsOf e = 1)
    (hval : Value.okWide P W r b0 t v) (h : DataW.Trod enc P W base sp hd t v d ps) : ∃ (ls : List (List UInt8)) (A : Option Addr) (c : Nat), v = .slice A ls.length c ∧ SeesL W W.heap.size A ls.length c ls := by
  obtain ⟨A, n, c, rfl⟩ := slice_of_ok ht hval
  obtain ⟨fuel, hf⟩ := h
  rcases open_slice1 ht hcu hf with ⟨hcs, _⟩ | ⟨a, len, cap, m, q, V, D, Pl, hcs, _, hl, hm, hmm, _, hx⟩
  · have hcs' : Value.slice A n c = .slice none 0 0 := by simpa [Value.cells] using hcs
    exact ⟨[], none, 0, hcs', SeesL.none_⟩
  · have hcs' : Value.slice A n c = .slice (some a) len cap := by simpa [Value.cells] using hcs
    have hlm : len ≤ m := by rw [hmm]; split <;> omega
    have each : ∀ i, i < len → ∃ y : List UInt8 × Option Addr × Nat, V i = .slice y.2.1 y.1.length y.2.2 ∧ Sees W W.heap.size y.2.1 y.1.length y.2.2 (y.1.map bv) := fun i hi => by
      obtain ⟨l, Ai, ci, e1, e2⟩ := open_bytes hu he hce (hx i (by omega)).2
      exact ⟨(l, Ai, ci), e1, e2⟩
    obtain ⟨g, hg⟩ := choose_lt each
    have hlen : ((List.range len).map fun i => (g i).1).length = len := by simp
    refine ⟨(List.range len).map fun i => (g i).1, some a, cap, by rw [hlen]; exact hcs', (List.range len).map V, ⟨by simp, by rw [hlen]; exact hl, hm, (fun h => by cases h), fun h0 => ?_⟩, by simp, fun i v l hv hl' => ?_⟩
    · rw [hlen] at h0
      have hc0 := (hx 0 (by omega)).1
      have hb := World.block_lt_of_cell? _ _ hc0
      have hsp := World.cell?_spot hc0
      obtain ⟨b, o, s⟩ := a
      have e0 : (⟨b, o, s⟩ : Addr).add 0 = ⟨b, o, s⟩ := by simp [Addr.add]
      rw [e0] at hb hsp
      simp only at hsp hb
      subst hsp
      refine ⟨b, o, rfl, hb, fun j u hu => ?_⟩
      obtain ⟨hj, rfl⟩ := List.getElem?_eq_some_iff.1 hu
      simp only [List.length_map, List.length_range] at hj
      have := (hx j (by omega)).1
      rw [Addr.add_mid] at this
      rw [this]
      simp
    · obtain ⟨hi, rfl⟩ := List.getElem?_eq_some_iff.1 hv
      obtain ⟨_, rfl⟩ := List.getElem?_eq_some_iff.1 hl'
      simp only [List.length_map, List.length_range] at hi
      have := hg i hi
      simp only [List.getElem_map, List.getElem_range]
      exact ⟨_, _, this.1, this.2⟩

theorem word_of_wf {n : Int} (h : (Lit.int .u64 n).wf = true) : ∃ x : UInt64, n = x.toNat := by
  have h2 : 0 ≤ n ∧ n ≤ 18446744073709551615 := by simpa [Lit.wf, IntKind.min, IntKind.max, IntKind.signed, IntKind.bits] using h
  exact ⟨UInt64.ofNat n.toNat, by rw [UInt64.toNat_ofNat']; omega⟩

/-- An array of 64-bit numbers, read. -/
theorem open_words {W : World} {base n fuel : Nat} {sp : Nat → Bool} {hd : Bool} {t e : TypeId} {cs : List Value} {x : DataW H × List MemPlace} (ht : P.underlying t = some (.array n e)) (he : P.underlying e = some (.int .u64)) (hce : P.cellsOf e = 1)
    (hct : P.cellsOf t = n) (h : DataW.trod enc P W base sp hd fuel t cs = some x) :
    ∃ L : List Int, L.length = n ∧ cs = L.map (Value.int .u64) ∧ x.1 = .agg (L.map fun z => .lit (.int .u64 z)) ∧ ∀ z ∈ L, ∃ y : UInt64, z = y.toNat := by
  obtain ⟨xs, m, _, rfl, hcl, hxl, hx⟩ := DataW.trod_array ht h
  rw [hct] at hcl
  have each : ∀ i, i < n → ∃ z : Int, cs[i]? = some (.int .u64 z) ∧ xs[i]? = some (.lit (.int .u64 z), []) ∧ ∃ y : UInt64, z = y.toNat := fun i hi => by
    have h := hx i hi
    rw [hce, Nat.mul_one, List.take_one, List.head?_drop] at h
    rw [List.getElem?_eq_getElem (by omega), List.getElem?_eq_getElem (by omega)] at h
    obtain ⟨z, hz, hz2, hw⟩ := DataW.trod_int he h
    refine ⟨z, ?_, ?_, word_of_wf hw⟩
    · rw [List.getElem?_eq_getElem (by omega)]
      simp only [Option.toList_some, List.cons.injEq, and_true] at hz
      rw [hz]
    · rw [List.getElem?_eq_getElem (by omega), hz2]
  obtain ⟨g, hg⟩ := choose_lt each
  refine ⟨(List.range n).map g, by simp, ?_, ?_, ?_⟩
  · apply List.ext_getElem?
    intro i
    by_cases hi : i < n
    · rw [(hg i hi).1]; simp [hi]
    · rw [List.getElem?_eq_none (by omega)]; simp [hi]
  · show DataW.agg _ = _
    congr 1
    apply List.ext_getElem?
    intro i
    by_cases hi : i < n
    · rw [List.getElem?_map, (hg i hi).2.1]; simp [hi]
    · rw [List.getElem?_eq_none (by rw [List.length_map]; omega)]; simp [hi]
  · intro z hz
    obtain ⟨i, hi, rfl⟩ := List.mem_map.1 hz
    exact (hg i (List.mem_range.1 hi)).2.2

theorem map_lit_inj : ∀ {L M : List Int}, (L.map fun z => (DataW.lit (.int .u64 z) : DataW H)) = (M.map fun z => .lit (.int .u64 z)) → L = M
  | [], [], _ => rfl
  | [], _ :: _, h => by cases h
  | _ :: _, [], h => by cases h
  | a :: L, b :: M, h => by
    simp only [List.map_cons, List.cons.injEq, DataW.lit.injEq, Lit.int.injEq, true_and] at h
    rw [h.1, map_lit_inj h.2]
end

/-! The two package variables. -/
def laid2 : List (String × DataW Unit) := [("yashmak/wide.first", Rows.laid_yashmak_wide_first), ("yashmak/wide.constants", Rows.laid_yashmak_wide_constants)]
theorem Tryd.gFirst : Tryd.prog.globalNamed "yashmak/wide.first" = some 1 := by kernel_rfl
theorem Tryd.gConstants : Tryd.prog.globalNamed "yashmak/wide.constants" = some 3 := by kernel_rfl
theorem Tryd.tFirst : (Tryd.prog.globals[1]?).map (·.type) = some 43 := by kernel_rfl
theorem Tryd.tConstants : (Tryd.prog.globals[3]?).map (·.type) = some 81 := by kernel_rfl
theorem Tryd.cells8 : Tryd.prog.cellsOf 43 = 8 := by kernel_rfl
theorem Tryd.cells80 : Tryd.prog.cellsOf 81 = 80 := by kernel_rfl

theorem first_datum : (Rows.laid_yashmak_wide_first : DataW Unit) = .agg ((st0.list.map fun x => (x.toNat : Int)).map fun z => .lit (.int .u64 z)) := by kernel_rfl
theorem constants_datum : (Rows.laid_yashmak_wide_constants : DataW Unit) = .agg ((kks.map fun x => (x.toNat : Int)).map fun z => .lit (.int .u64 z)) := by kernel_rfl

theorem of_laid {W : World} (h : laidMetH Tryd.prog laid2 W) : Laid W := by
  rw [MakeChecks.laidMetH_plain _ _ _ (by kernel_rfl)] at h
  obtain ⟨ps, ⟨g0, t0, cs0, f0, p0, q0, hg0, ht0, hv0, hd0, ⟨g1, t1, cs1, f1, p1, q1, hg1, ht1, hv1, hd1, _, _⟩, _⟩, _, _⟩ := h
  obtain rfl := Option.some.inj (Tryd.gFirst.symm.trans hg0)
  obtain rfl := Option.some.inj (Tryd.gConstants.symm.trans hg1)
  obtain rfl := Option.some.inj (Tryd.tFirst.symm.trans ht0)
  obtain rfl := Option.some.inj (Tryd.tConstants.symm.trans ht1)
  obtain ⟨L, hL, hc, hx, _⟩ := open_words Tryd.underlying43 Tryd.underlying25 Tryd.cellsU64 Tryd.cells8 hd0
  obtain ⟨M, hM, hc', hx', _⟩ := open_words Tryd.underlying81 Tryd.underlying25 Tryd.cellsU64 Tryd.cells80 hd1
  have e1 : L = st0.list.map fun x => (x.toNat : Int) := map_lit_inj (DataW.agg.inj (hx.symm.trans first_datum))
  have e2 : M = kks.map fun x => (x.toNat : Int) := map_lit_inj (DataW.agg.inj (hx'.symm.trans constants_datum))
  refine ⟨fun j hj => ?_, fun j hj => ?_⟩
  · rw [World.var?_cell hg0 hv0 j, ← Array.getElem?_toList, hc, e1]
    have : j < st0.list.length := hj
    simp [this]
  · rw [World.var?_cell hg1 hv1 j, ← Array.getElem?_toList, hc', e2]
    have : j < kks.length := hj
    simp [this, kk]

set_option maxRecDepth 100000 in
/-- The door's own heap meets the condition. -/
theorem door_met (os : Os) (args : Array Value) : laidMetH Tryd.prog laid2 ((World.doorLaid Tryd.prog 400 os).forCall (fun _ _ => 0) ⟨#[], args, []⟩).memory :=
  laidMetH_of_parts3 (fuel := 8) (laidMet_of_run' 8 (by kernel_rfl) (by kernel_rfl)) (by kernel_rfl) (by kernel_rfl)

section
variable {H : Type} {enc : TypeId × Value → H}
/-- A text that is summed, read. -/
theorem open_hash {W : World} {base b0 : Nat} {sp : Nat → Bool} {hd : Bool} {r : Reach} {v : Value} {d : DataW H} {ps : List MemPlace} 
    (hval : Value.okWide Tryd.prog W r b0 45 v) (h : DataW.Trod enc Tryd.prog W base sp hd 45 v d ps) :
    ∃ (s : St) (l : List UInt8) (A : Option Addr) (c m : Nat), v = hv s A l.length c m ∧ Sees W W.heap.size A l.length c (l.map bv) ∧ m < 18446744073709551616 := by
  obtain ⟨cs, rfl, hsz⟩ := okWide_struct Tryd.underlying45 hval
  obtain ⟨fuel, hf⟩ := h
  obtain ⟨xs, n, _, _, _, hxl, hx⟩ := DataW.trod_struct Tryd.underlying45 hf
  rw [show Tryd.prog.cellsOf 45 = 10 by kernel_rfl] at hsz
  obtain ⟨l⟩ := cs
  match l, hsz, hx with
  | [c0, c1, c2, c3, c4, c5, c6, c7, c8, c9], _, hx =>
    match xs, hxl, hx with
    | [x0, x1, x2], _, hx =>
      have h0 : DataW.trod enc Tryd.prog W base sp hd n 43 (List.take (Tryd.prog.cellsOf 43) [c0, c1, c2, c3, c4, c5, c6, c7, c8, c9]) = some x0 := hx 0 _ rfl
      have h1 : DataW.trod enc Tryd.prog W base sp hd n 24 (List.take (Tryd.prog.cellsOf 24) [c8, c9]) = some x1 := hx 1 _ rfl
      have h2 : DataW.trod enc Tryd.prog W base sp hd n 25 (List.take (Tryd.prog.cellsOf 25) [c9]) = some x2 := hx 2 _ rfl
      rw [Tryd.cells8] at h0
      rw [show Tryd.prog.cellsOf 24 = 1 by kernel_rfl] at h1
      rw [show Tryd.prog.cellsOf 25 = 1 by kernel_rfl] at h2
      obtain ⟨L, hL, hc, _, hw⟩ := open_words Tryd.underlying43 Tryd.underlying25 Tryd.cellsU64 Tryd.cells8 h0
      obtain ⟨b, A, c, e8, hs⟩ := open_bytes Tryd.underlying24 Tryd.underlying5 Tryd.cellsU8 (v := c8) h1
      obtain ⟨k, e9, _, hk⟩ := DataW.trod_int Tryd.underlying25 h2
      have e9' : c9 = .int .u64 k := by simpa [Value.cells] using e9
      have hk' : 0 ≤ k ∧ k ≤ 18446744073709551615 := by simpa [Lit.wf, IntKind.min, IntKind.max, IntKind.signed, IntKind.bits] using hk
      obtain ⟨m, rfl⟩ := Int.eq_ofNat_of_zero_le hk'.1
      match L, hL, hc, hw with
      | [z0, z1, z2, z3, z4, z5, z6, z7], _, hc, hw =>
        obtain ⟨y0, rfl⟩ := hw z0 (by simp)
        obtain ⟨y1, rfl⟩ := hw z1 (by simp)
        obtain ⟨y2, rfl⟩ := hw z2 (by simp)
        obtain ⟨y3, rfl⟩ := hw z3 (by simp)
        obtain ⟨y4, rfl⟩ := hw z4 (by simp)
        obtain ⟨y5, rfl⟩ := hw z5 (by simp)
        obtain ⟨y6, rfl⟩ := hw z6 (by simp)
        obtain ⟨y7, rfl⟩ := hw z7 (by simp)
        refine ⟨⟨y0, y1, y2, y3, y4, y5, y6, y7⟩, b, A, c, m, ?_, hs, by omega⟩
        have hc2 : [c0, c1, c2, c3, c4, c5, c6, c7] = [Value.int .u64 (y0.toNat : Int), .int .u64 (y1.toNat : Int), .int .u64 (y2.toNat : Int), .int .u64 (y3.toNat : Int), .int .u64 (y4.toNat : Int), .int .u64 (y5.toNat : Int), .int .u64 (y6.toNat : Int), .int .u64 (y7.toNat : Int)] := hc
        simp only [List.cons.injEq, and_true] at hc2
        obtain ⟨rfl, rfl, rfl, rfl, rfl, rfl, rfl, rfl⟩ := hc2
        rw [e8, e9']
        rfl
end
end Go.Proofs.YtppaffamlfghjaaDoor
