/-
  What every statement's row needs: an argument read as data is an array of words, of bytes, a word; behind the call all reads as before.
  What layer 6's rows need: an argument read as data is a point's two numbers; a byte.
  What layer 6's rows need: the package variables.
-/
import Derived.Deep.MidRow
import Derived.Deep.Slices
import Derived.LaidMore
import Derived.OpenShut
import Derived.ProofKit
import Derived.Stop.Joined
import Derived.Test.YthaheekjmofgnaaDoorMad
import Derived.Test.YthaheekjmofgnaaDoorMag
import Derived.Test.YthaheekjmofgnaaDoorMba
import Derived.Test.YthaheekjmofgnaaDoorRows
namespace Go.Proofs.YthaheekjmofgnaaDoor
open Go.ChangeShapes Go.WideShapes Go.ChangeAt Go.RowKit Go.Deep

theorem Tryd.own : ownKnob Tryd.prog.godebug = none := by kernel_rfl
theorem Tryd.laidOut : laidOutB Tryd.prog = true := by kernel_rfl

section
variable {H : Type} {enc : TypeId × Value → H} {P : Program}

/-- The types can be read, and lie in the table. -/
def typesRead (P : Program) (ts : List TypeId) : Bool := ts.all fun t => P.readableRec t && decide (t < P.types.size)

theorem below_trodAll (hl : laidOutB P = true) {W W' : World} (hb : Below W.heap.size W W') {sp : Nat → Bool} :
    ∀ {ts : List TypeId} {vs : List Value} {ds : List (DataW H)} {ps : List MemPlace}, typesRead P ts = true → DataW.TrodAll enc P W 0 (fun _ => true) true ts vs ds ps → (∀ x ∈ ps, x.block < W.heap.size) → (∀ x ∈ ps, sp x.block = true) →
      DataW.TrodAll enc P W' 0 sp true ts vs ds ps
  | [], _, _, _, _, h, _, _ => by
    obtain ⟨rfl, rfl, rfl⟩ := trodAll_nil h
    rfl
  | t :: ts, _, _, _, hr, h, hlt, hs => by
    obtain ⟨v, vs', d, ds', p, q, rfl, rfl, rfl, h1, h2⟩ := trodAll_cons h
    have hr' : (P.readableRec t = true ∧ t < P.types.size) ∧ typesRead P ts = true := by simpa [typesRead] using hr
    exact ⟨p, q, WideElems.Trod_stays hl hr'.1.1 hr'.1.2 h1 (fun x hx => hb.same (hlt x (by simp [hx]))) (fun x hx => hs x (by simp [hx])),
      below_trodAll hl hb hr'.2 h2 (fun x hx => hlt x (by simp [hx])) (fun x hx => hs x (by simp [hx])), rfl⟩

/-- 'true', and the arguments as they were: where below the heap's old size nothing has turned. -/
theorem post_true {f : Func} {s : ChangeSpec} {apart fresh handsOn again : Bool} {W W' : World} {args : Array Value} {ds gs : List (DataW H)} {before : List MemPlace} {tb : TypeId}
    (hl : laidOutB P = true) (hps : typesRead P f.params.toList = true) (hrt : f.resultTypes = #[tb]) (htb : P.underlying tb = some .bool) (hvs : s.vars = [])
    (hW : DataW.Whole enc P f.params.toList s.vars apart W args.toList ds gs before)
    (hr : (s.fn H (ds ++ gs)).results = [.lit (.bool true)]) (ha : (s.fn H (ds ++ gs)).args = ds) (hv : (s.fn H (ds ++ gs)).vars = [])
    (hb : Below W.heap.size W W') : s.post enc P f apart fresh handsOn again W args (.bool true) W' := by
  have hlt : ∀ p ∈ before, p.block < W.heap.size := fun p hp => by simpa using hW.lt p hp
  have hW0 := hW
  obtain ⟨p, q, hA, hV, rfl, hz, hn⟩ := hW
  rw [hvs] at hV
  obtain ⟨rfl, rfl⟩ := trodVars_none hV
  simp only [List.append_nil] at hlt hz hn hW0 hr ha hv ⊢
  have hres : ∀ (b : Nat) (sp : Nat → Bool) (hd : Bool), DataW.TrodAll enc P W' b sp hd f.resultTypes.toList ((Value.bool true).resultList f.resultTypes.size) [.lit (.bool true)] [] := fun b sp hd => by
    rw [hrt]
    exact trodAll_mk1 (shut_bool htb true)
  have hargs : ∀ sp : Nat → Bool, (∀ x ∈ p, sp x.block = true) → DataW.TrodAll enc P W' 0 sp true f.params.toList args.toList ds p := fun sp hs => below_trodAll hl hb hps hA hlt hs
  have hvars : ∀ sp : Nat → Bool, DataW.TrodVars enc P W' sp s.vars [] [] := fun sp => by rw [hvs]; rfl
  refine ⟨ds, [], p, [], p, [], hW0, ?_, ?_, ?_, World.keptBut_mono (fun x hx => ⟨hx, Or.inr (Or.inl hx)⟩) (hb.frame (· ∈ p)), fun _ => ?_⟩
  · simp only [List.append_nil, hr]; exact hres _ _ _
  · simp only [List.append_nil, ha]; exact hargs _ (fun x hx => by simpa using hlt x hx)
  · simp only [List.append_nil, hv]; exact hvars _
  · refine ⟨ok_one hrt rfl (okWide_bool_mk htb true), _, _, ([] ++ p) ++ [], ⟨[] ++ p, [], trodAll_append (hargs _ (fun _ _ => rfl)) (hres _ _ _), hvars _, rfl, ?_, ?_⟩, ?_⟩
    · intro b off hp
      have hp' : MemPlace.cell b off ∈ p := by simpa using hp
      rw [hb.frozen (p := ⟨b, off, none⟩) (hlt _ hp')]
      exact hz b off hp'
    · intro h
      simpa using hn h
    · intro x hx _
      simpa using hx

/-- A byte as a number of its range. -/
theorem byte_of_wf {n : Int} (h : (Lit.int .u8 n).wf = true) : ∃ x : UInt8, n = x.toNat := by
  have := bounds_u8 h
  exact ⟨UInt8.ofNat n.toNat, by rw [UInt8.toNat_ofNat']; omega⟩

theorem bytes_of_wf : ∀ zs : List Int, (∀ n ∈ zs, (Lit.int .u8 n).wf = true) → ∃ l : List UInt8, zs = l.map fun x => (x.toNat : Int)
  | [], _ => ⟨[], rfl⟩
  | z :: zs, h => by
    obtain ⟨x, hx⟩ := byte_of_wf (h z (by simp))
    obtain ⟨l, hl⟩ := bytes_of_wf zs (fun n hn => h n (by simp [hn]))
    exact ⟨x :: l, by rw [hx, hl]; rfl⟩

/-- An array of bytes, read. -/
theorem open_key {W : World} {base b0 n : Nat} {sp : Nat → Bool} {hd : Bool} {r : Reach} {t e : TypeId} {v : Value} {d : DataW H} {ps : List MemPlace} (ht : P.underlying t = some (.array n e)) (he : P.underlying e = some (.int .u8)) (hce : P.cellsOf e = 1)
    (hct : P.cellsOf t = n) (hval : Value.okWide P W r b0 t v) (hd' : DataW.Trod enc P W base sp hd t v d ps) : ∃ l : List UInt8, l.length = n ∧ v = .agg (l.map bv).toArray := by
  obtain ⟨cs, rfl, hsz, _⟩ : ∃ cs, v = .agg cs ∧ cs.size = P.cellsOf t ∧ Row.okWide P W r b0 t cs := by
    simpa [Value.okWide, ht] using hval
  obtain ⟨fuel, hf⟩ := hd'
  obtain ⟨xs, m, _, _, hcl, hxl, hx⟩ := DataW.trod_array ht hf
  have each : ∀ i, i < n → ∃ x : UInt8, cs[i]? = some (bv x) := fun i hi => by
    have hi' : i < cs.size := by omega
    have h := hx i hi
    rw [hce] at h
    have hcells : (Value.agg cs).cells.toList = cs.toList := rfl
    rw [hcells, Nat.mul_one] at h
    have e1 : (cs.toList.drop i).take 1 = [cs[i]] := by
      rw [List.take_one, List.head?_drop]
      simp [hi']
    rw [e1, List.getElem?_eq_getElem (by omega)] at h
    obtain ⟨z, hz, _, hw⟩ := DataW.trod_int he h
    obtain ⟨x, hx⟩ := byte_of_wf hw
    refine ⟨x, ?_⟩
    rw [Array.getElem?_eq_getElem hi']
    simp only [List.cons.injEq, and_true] at hz
    rw [hz, hx]; rfl
  obtain ⟨g, hg⟩ := choose_lt each
  refine ⟨(List.range n).map g, by simp, ?_⟩
  show Value.agg cs = .agg _
  congr 1
  apply Array.ext_getElem?
  intro i
  by_cases hi : i < n
  · rw [hg i hi]; simp [hi]
  · rw [Array.getElem?_eq_none (by omega)]
    simp [hi]

theorem word_of_wf {n : Int} (h : (Lit.int .u64 n).wf = true) : ∃ x : UInt64, n = x.toNat := by
  have h2 : 0 ≤ n ∧ n ≤ 18446744073709551615 := by simpa [Lit.wf, IntKind.min, IntKind.max, IntKind.signed, IntKind.bits] using h
  exact ⟨UInt64.ofNat n.toNat, by rw [UInt64.toNat_ofNat']; omega⟩

/-- An array of 64-bit numbers, read. -/
theorem open_words {W : World} {base n fuel : Nat} {sp : Nat → Bool} {hd : Bool} {t e : TypeId} {cs : List Value} {x : DataW H × List MemPlace} (ht : P.underlying t = some (.array n e)) (he : P.underlying e = some (.int .u64)) (hce : P.cellsOf e = 1)
    (hct : P.cellsOf t = n) (h : DataW.trod enc P W base sp hd fuel t cs = some x) :
    ∃ L : List Int, L.length = n ∧ cs = L.map (Value.int .u64) ∧ x.1 = .agg (L.map fun z => .lit (.int .u64 z)) ∧ ∀ z ∈ L, ∃ y : UInt64, z = y.toNat := by
  obtain ⟨xs, m, _, rfl, hcl, hxl, hx⟩ := DataW.trod_array ht h
  rw [hct] at hcl
  have each : ∀ i, i < n → ∃ z : Int, cs[i]? = some (.int .u64 z) ∧ xs[i]? = some (.lit (.int .u64 z), []) ∧ ∃ y : UInt64, z = y.toNat := fun i hi => by
    have h := hx i hi
    rw [hce, Nat.mul_one, List.take_one, List.head?_drop] at h
    rw [List.getElem?_eq_getElem (by omega), List.getElem?_eq_getElem (by omega)] at h
    obtain ⟨z, hz, hz2, hw⟩ := DataW.trod_int he h
    refine ⟨z, ?_, ?_, word_of_wf hw⟩
    · rw [List.getElem?_eq_getElem (by omega)]
      simp only [Option.toList_some, List.cons.injEq, and_true] at hz
      rw [hz]
    · rw [List.getElem?_eq_getElem (by omega), hz2]
  obtain ⟨g, hg⟩ := choose_lt each
  refine ⟨(List.range n).map g, by simp, ?_, ?_, ?_⟩
  · apply List.ext_getElem?
    intro i
    by_cases hi : i < n
    · rw [(hg i hi).1]; simp [hi]
    · rw [List.getElem?_eq_none (by omega)]; simp [hi]
  · show DataW.agg _ = _
    congr 1
    apply List.ext_getElem?
    intro i
    by_cases hi : i < n
    · rw [List.getElem?_map, (hg i hi).2.1]; simp [hi]
    · rw [List.getElem?_eq_none (by rw [List.length_map]; omega)]; simp [hi]
  · intro z hz
    obtain ⟨i, hi, rfl⟩ := List.mem_map.1 hz
    exact (hg i (List.mem_range.1 hi)).2.2

theorem map_lit_inj : ∀ {L M : List Int}, (L.map fun z => (DataW.lit (.int .u64 z) : DataW H)) = (M.map fun z => .lit (.int .u64 z)) → L = M
  | [], [], _ => rfl
  | [], _ :: _, h => by cases h
  | _ :: _, [], h => by cases h
  | a :: L, b :: M, h => by
    simp only [List.map_cons, List.cons.injEq, DataW.lit.injEq, Lit.int.injEq, true_and] at h
    rw [h.1, map_lit_inj h.2]
end


theorem cell_of_lims {n j : Nat} (hj : j < 4) : (((lims n).map fun x : Nat => (x : Int)).map (Value.int .u64))[j]? = some (.int .u64 (limb n j : Int)) := by
  match j, hj with
  | 0, _ => rfl
  | 1, _ => rfl
  | 2, _ => rfl
  | 3, _ => rfl

section
variable {H : Type} {enc : TypeId × Value → H} {P : Program}
theorem limbs_lt' {a b c d : Nat} (ha : a < 18446744073709551616) (hb : b < 18446744073709551616) (hc : c < 18446744073709551616) (hd : d < 18446744073709551616) : limbs a b c d < big := by
  unfold limbs big; omega
/-- A number of four limbs, read. -/
theorem open_four {W : World} {base b0 : Nat} {sp : Nat → Bool} {hd : Bool} {r : Reach} {t e : TypeId} {v : Value} {d : DataW H} {ps : List MemPlace} (ht : P.underlying t = some (.array 4 e)) (he : P.underlying e = some (.int .u64)) (hce : P.cellsOf e = 1) (hct : P.cellsOf t = 4)
    (hval : Value.okWide P W r b0 t v) (h : DataW.Trod enc P W base sp hd t v d ps) : ∃ m, m < big ∧ v = fev m := by
  obtain ⟨cs, rfl, hsz, _⟩ : ∃ cs, v = .agg cs ∧ cs.size = P.cellsOf t ∧ Row.okWide P W r b0 t cs := by
    simpa [Value.okWide, ht] using hval
  obtain ⟨fuel, hf⟩ := h
  have hf' : DataW.trod enc P W base sp hd fuel t cs.toList = some (d, ps) := hf
  obtain ⟨L, hL, hc, _, hw⟩ := open_words ht he hce hct hf'
  match L, hL, hc, hw with
  | [z0, z1, z2, z3], _, hc, hw =>
    obtain ⟨y0, rfl⟩ := hw z0 (by simp)
    obtain ⟨y1, rfl⟩ := hw z1 (by simp)
    obtain ⟨y2, rfl⟩ := hw z2 (by simp)
    obtain ⟨y3, rfl⟩ := hw z3 (by simp)
    refine ⟨limbs y0.toNat y1.toNat y2.toNat y3.toNat, limbs_lt' y0.toNat_lt y1.toNat_lt y2.toNat_lt y3.toNat_lt, ?_⟩
    rw [← fev_of y0.toNat_lt y1.toNat_lt y2.toNat_lt y3.toNat_lt]
    congr 1
    exact Array.ext' hc
/-- A word, read. -/
theorem open_word {W : World} {base b0 : Nat} {sp : Nat → Bool} {hd : Bool} {r : Reach} {t : TypeId} {v : Value} {d : DataW H} {ps : List MemPlace} (ht : P.underlying t = some (.int .u64))
    (hval : Value.okWide P W r b0 t v) (h : DataW.Trod enc P W base sp hd t v d ps) : ∃ n : Nat, n < 18446744073709551616 ∧ v = .int .u64 (n : Int) := by
  obtain ⟨fuel, hf⟩ := h
  obtain ⟨z, hz, _, hw⟩ := DataW.trod_int ht hf
  obtain ⟨x, rfl⟩ := word_of_wf hw
  refine ⟨x.toNat, x.toNat_lt, ?_⟩
  simp only [Value.okWide, ht] at hval
  cases v <;> simp_all [Value.cells, Cell.okWide, Cell.ok]
/-- A package variable that holds four words, as its datum says. -/
theorem var_four {W : World} {t e : TypeId} {fuel base : Nat} {sp : Nat → Bool} {hd : Bool} {cs : Array Value} {dt : DataW H} {ps : List MemPlace} {n : Nat} (ht : P.underlying t = some (.array 4 e)) (he : P.underlying e = some (.int .u64)) (hce : P.cellsOf e = 1) (hct : P.cellsOf t = 4)
    (hd0 : DataW.trod enc P W base sp hd fuel t cs.toList = some (dt, ps)) (hdt : dt = .agg (((lims n).map fun x : Nat => (x : Int)).map fun z => .lit (.int .u64 z))) : ∀ j, j < 4 → cs[j]? = some (.int .u64 (limb n j : Int)) := by
  obtain ⟨L, hL, hc, hx, _⟩ := open_words ht he hce hct hd0
  have e1 : L = (lims n).map fun x : Nat => (x : Int) := map_lit_inj (DataW.agg.inj (hx.symm.trans hdt))
  intro j hj
  rw [← Array.getElem?_toList, hc, e1]
  exact cell_of_lims hj
end
end Go.Proofs.YthaheekjmofgnaaDoor

namespace Go.Proofs.YthaheekjmofgnaaDoor
open Go.ChangeShapes Go.WideShapes Go.ChangeAt Go.RowKit Go.Deep

theorem Tryd.cellsFe : Tryd.prog.cellsOf 24 = 4 := by kernel_rfl
theorem Tryd.cellsPt : Tryd.prog.cellsOf 26 = 8 := by kernel_rfl
section
variable {H : Type} {enc : TypeId × Value → H}
theorem okWide_struct_pt {W : World} {b0 : Nat} {r : Reach} {v : Value} (hval : Value.okWide Tryd.prog W r b0 26 v) : ∃ cs : Array Value, v = .agg cs ∧ cs.size = 8 := by
  have hu := Tryd.underlying26
  have h8 := Tryd.cellsPt
  obtain ⟨cs, rfl, hsz, _⟩ : ∃ cs, v = .agg cs ∧ cs.size = Tryd.prog.cellsOf 26 ∧ Row.okWide Tryd.prog W r b0 26 cs := by
    simpa [Value.okWide, hu] using hval
  exact ⟨cs, rfl, by rw [hsz, h8]⟩
theorem four_of {fuel : Nat} {W : World} {base : Nat} {sp : Nat → Bool} {hd : Bool} {cs : List Value} {x : DataW H × List MemPlace} (h : DataW.trod enc Tryd.prog W base sp hd fuel 24 cs = some x) : ∃ m, m < big ∧ cs = (lims m).map nv := by
  obtain ⟨L, hL, hc, _, hw⟩ := open_words Tryd.underlying24 Tryd.underlying22 (by kernel_rfl) Tryd.cellsFe h
  match L, hL, hc, hw with
  | [z0, z1, z2, z3], _, hc, hw =>
    obtain ⟨y0, rfl⟩ := hw z0 (by simp)
    obtain ⟨y1, rfl⟩ := hw z1 (by simp)
    obtain ⟨y2, rfl⟩ := hw z2 (by simp)
    obtain ⟨y3, rfl⟩ := hw z3 (by simp)
    refine ⟨limbs y0.toNat y1.toNat y2.toNat y3.toNat, limbs_lt' y0.toNat_lt y1.toNat_lt y2.toNat_lt y3.toNat_lt, ?_⟩
    rw [lims_limbs y0.toNat_lt y1.toNat_lt y2.toNat_lt y3.toNat_lt]
    exact hc
/-- A point's two numbers, read. -/
theorem open_pt {W : World} {base b0 : Nat} {sp : Nat → Bool} {hd : Bool} {r : Reach} {v : Value} {d : DataW H} {ps : List MemPlace}
    (hval : Value.okWide Tryd.prog W r b0 26 v) (h : DataW.Trod enc Tryd.prog W base sp hd 26 v d ps) : ∃ s : Nat × Nat, (s.1 < big ∧ s.2 < big) ∧ v = .agg ((limsL [s.1, s.2]).map nv).toArray := by
  obtain ⟨cs, rfl, hsz⟩ := okWide_struct_pt hval
  obtain ⟨fuel, hf⟩ := h
  have hf' : DataW.trod enc Tryd.prog W base sp hd fuel 26 cs.toList = some (d, ps) := hf
  obtain ⟨xs, n, _, _, _, hxl, hx⟩ := DataW.trod_struct Tryd.underlying26 hf'
  obtain ⟨l⟩ := cs
  match l, hsz, hx with
  | [c0, c1, c2, c3, c4, c5, c6, c7], _, hx =>
    match xs, hxl, hx with
    | [x0, x1], _, hx =>
      have h0 : DataW.trod enc Tryd.prog W base sp hd n 24 (List.take (Tryd.prog.cellsOf 24) [c0, c1, c2, c3, c4, c5, c6, c7]) = some x0 := hx 0 _ rfl
      have h1 : DataW.trod enc Tryd.prog W base sp hd n 24 (List.take (Tryd.prog.cellsOf 24) [c4, c5, c6, c7]) = some x1 := hx 1 _ rfl
      rw [Tryd.cellsFe] at h0 h1
      obtain ⟨a, ha, ea⟩ := four_of h0
      obtain ⟨b, hb, eb⟩ := four_of h1
      refine ⟨(a, b), ⟨ha, hb⟩, ?_⟩
      have ea' : [c0, c1, c2, c3] = (lims a).map nv := ea
      have eb' : [c4, c5, c6, c7] = (lims b).map nv := eb
      show Value.agg [c0, c1, c2, c3, c4, c5, c6, c7].toArray = .agg ((limsL [a, b]).map nv).toArray
      rw [show [c0, c1, c2, c3, c4, c5, c6, c7] = [c0, c1, c2, c3] ++ [c4, c5, c6, c7] from rfl, ea', eb', ← List.map_append]
      congr 3
/-- A byte, read. -/
theorem open_byte {W : World} {base b0 : Nat} {sp : Nat → Bool} {hd : Bool} {r : Reach} {t : TypeId} {v : Value} {d : DataW H} {ps : List MemPlace} (ht : Tryd.prog.underlying t = some (.int .u8))
    (hval : Value.okWide Tryd.prog W r b0 t v) (h : DataW.Trod enc Tryd.prog W base sp hd t v d ps) : ∃ n : Nat, n < 256 ∧ v = .int .u8 (n : Int) := by
  obtain ⟨fuel, hf⟩ := h
  obtain ⟨z, hz, _, hw⟩ := DataW.trod_int ht hf
  obtain ⟨x, rfl⟩ := byte_of_wf hw
  refine ⟨x.toNat, x.toNat_lt, ?_⟩
  simp only [Value.okWide, ht] at hval
  cases v <;> simp_all [Value.cells, Cell.okWide, Cell.ok]
end
end Go.Proofs.YthaheekjmofgnaaDoor

namespace Go.Proofs.YthaheekjmofgnaaDoor
open Go.ChangeShapes Go.WideShapes Go.ChangeAt Go.RowKit Go.Deep

def laid3 : List (String × DataW Unit) := [("yashmak/field.fourPrimes", Rows.laid_yashmak_field_fourPrimes), ("yashmak/scalar.order", Rows.laid_yashmak_scalar_order), ("yashmak/curve.d", Rows.laid_yashmak_curve_d)]
theorem Tryd.gFour : Tryd.prog.globalNamed "yashmak/field.fourPrimes" = some 2 := by kernel_rfl
theorem Tryd.gOrder : Tryd.prog.globalNamed "yashmak/scalar.order" = some 1 := by kernel_rfl
theorem Tryd.gDee : Tryd.prog.globalNamed "yashmak/curve.d" = some 0 := by kernel_rfl
theorem Tryd.tFour : (Tryd.prog.globals[2]?).map (·.type) = some 24 := by kernel_rfl
theorem Tryd.tOrder : (Tryd.prog.globals[1]?).map (·.type) = some 32 := by kernel_rfl
theorem Tryd.tDee : (Tryd.prog.globals[0]?).map (·.type) = some 24 := by kernel_rfl
theorem Tryd.cellsSc : Tryd.prog.cellsOf 32 = 4 := by kernel_rfl
theorem four_datum : (Rows.laid_yashmak_field_fourPrimes : DataW Unit) = .agg (((lims FP4).map fun x : Nat => (x : Int)).map fun z => .lit (.int .u64 z)) := by kernel_rfl
theorem order_datum : (Rows.laid_yashmak_scalar_order : DataW Unit) = .agg (((lims LL).map fun x : Nat => (x : Int)).map fun z => .lit (.int .u64 z)) := by kernel_rfl
theorem dee_datum : (Rows.laid_yashmak_curve_d : DataW Unit) = .agg (((lims DEE).map fun x : Nat => (x : Int)).map fun z => .lit (.int .u64 z)) := by kernel_rfl
theorem of_laid {W : World} (h : laidMetH Tryd.prog laid3 W) : Crv.Laid W := by
  rw [MakeChecks.laidMetH_plain _ _ _ (by kernel_rfl)] at h
  obtain ⟨ps, ⟨g0, t0, cs0, f0, p0, q0, hg0, ht0, hv0, hd0, ⟨g1, t1, cs1, f1, p1, q1, hg1, ht1, hv1, hd1, ⟨g2, t2, cs2, f2, p2, q2, hg2, ht2, hv2, hd2, _, _⟩, _⟩, _⟩, _, _⟩ := h
  obtain rfl := Option.some.inj (Tryd.gFour.symm.trans hg0)
  obtain rfl := Option.some.inj (Tryd.gOrder.symm.trans hg1)
  obtain rfl := Option.some.inj (Tryd.gDee.symm.trans hg2)
  obtain rfl := Option.some.inj (Tryd.tFour.symm.trans ht0)
  obtain rfl := Option.some.inj (Tryd.tOrder.symm.trans ht1)
  obtain rfl := Option.some.inj (Tryd.tDee.symm.trans ht2)
  have e0 := var_four Tryd.underlying24 Tryd.underlying22 Tryd.cellsU64 Tryd.cellsFe hd0 four_datum
  have e1 := var_four Tryd.underlying32 Tryd.underlying22 Tryd.cellsU64 Tryd.cellsSc hd1 order_datum
  have e2 := var_four Tryd.underlying24 Tryd.underlying22 Tryd.cellsU64 Tryd.cellsFe hd2 dee_datum
  exact ⟨fun j hj => by rw [World.var?_cell hg1 hv1 j]; exact e1 j hj, fun j hj => by rw [World.var?_cell hg0 hv0 j]; exact e0 j hj, fun j hj => by rw [World.var?_cell hg2 hv2 j]; exact e2 j hj⟩

set_option maxRecDepth 100000 in
/-- The door's own heap meets the condition. -/
theorem door_met (os : Os) (args : Array Value) : laidMetH Tryd.prog laid3 ((World.doorLaid Tryd.prog 400 os).forCall (fun _ _ => 0) ⟨#[], args, []⟩).memory :=
  laidMetH_of_parts3 (fuel := 8) (laidMet_of_run' 8 (by kernel_rfl) (by kernel_rfl)) (by kernel_rfl) (by kernel_rfl)
end Go.Proofs.YthaheekjmofgnaaDoor
