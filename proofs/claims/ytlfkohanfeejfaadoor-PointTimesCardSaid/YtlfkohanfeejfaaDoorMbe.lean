/-
  The document's bytes of points: which points have a small order; the first point so many times, in bytes.
  A number stored into the middle of a block (a field of a struct).
  Arrays of thirty-two bytes compared, and read out of their block.
-/
import Derived.ChangeKeysEq
import Derived.Deep.MidRow
import Derived.Laws.CopyOwn
import Derived.Test.YtlfkohanfeejfaaDoorMad
import Derived.Test.YtlfkohanfeejfaaDoorMan
import Derived.Test.YtlfkohanfeejfaaDoorMar
import Derived.Test.YtlfkohanfeejfaaDoorMbd
namespace Go.Proofs.YtlfkohanfeejfaaDoor
open Go.RowKit
namespace Crv

theorem rencode_q (s : Nat × Nat) (w : World) (hs : ok s) : Calls Tryd.prog 11 #[.agg ((limsL [s.1, s.2]).map nv).toArray] w (GaveL w (enc (pt s).1)) := rEncode_any s.1 s.2 w hs.1 hs.2

set_option maxRecDepth 100000 in
set_option maxHeartbeats 4000000 in
theorem rsmall_q (s : Nat × Nat) (w : World) (hs : ok s) :
    Calls Tryd.prog 13 #[.agg ((limsL [s.1, s.2]).map nv).toArray] w fun e w' => e = .returned (.bool (decide (Pt.times 8 (pt s) = Pt.none))) ∧ Below w.heap.size w w' := by
  obtain ⟨p, hp⟩ : ∃ p, p = nums (pt s) := ⟨_, rfl⟩
  obtain ⟨q, hq⟩ : ∃ q, q = nums (Pt.times 8 (pt s)) := ⟨_, rfl⟩
  obtain ⟨z, hz⟩ : ∃ z, z = nums Pt.none := ⟨_, rfl⟩
  have L1 : Hid (∀ W, Calls Tryd.prog 35 #[.agg ((limsL [s.1, s.2]).map nv).toArray] W fun e w' => e = .returned (.agg ((limsL [p.1, p.2]).map nv).toArray) ∧ Below W.heap.size W w') := Lib.hid fun W => by
    rw [hp]
    exact (rLeast_pt s.1 s.2 W hs.1 hs.2).mono fun _ _ h => gaveQ_vals h
  have CL : Hid (∀ W, Calls Tryd.prog 39 #[.agg ((limsL [p.1, p.2]).map nv).toArray] W fun e w' => e = .returned (.agg ((limsL [q.1, q.2]).map nv).toArray) ∧ Below W.heap.size W w') := Lib.hid fun W => by
    have h := rclear_q p W (by rw [hp]; exact nums_ok _)
    rw [hp, pt_nums, ← hq, ← hp] at h
    exact h
  have ZE : Hid (∀ W, Calls Tryd.prog 32 #[] W fun e w' => e = .returned (.agg ((limsL [z.1, z.2]).map nv).toArray) ∧ Below W.heap.size W w') := Lib.hid fun W => by
    rw [hz]
    exact rzero_q W
  have EQ : ∀ W, (binOp .eql 26 (.agg ((limsL [q.1, q.2]).map nv).toArray) (.agg ((limsL [z.1, z.2]).map nv).toArray)).run Tryd.prog W = .ok (.bool (decide (Pt.times 8 (pt s) = Pt.none))) W := fun W => by
    rw [eql_p q z (by rw [hq]; exact nums_ok _) (by rw [hz]; exact nums_ok _) W, decide_eq_decide.2 (show q = z ↔ Pt.times 8 (pt s) = Pt.none from ⟨fun h => by
      rw [hq, hz] at h
      rw [← pt_nums (Pt.times 8 (pt s)), h, pt_nums], fun h => by rw [hq, hz, h]⟩)]
  have gf := fun x y c d W => run_guard_pt x y c d W
  have F0 : Bs w (w.heap.size + 1) [(w.heap.size, 26, ((limsL [s.1, s.2]).map nv).toArray)] (w.alloc (.cells ((limsL [s.1, s.2]).map nv).toArray 26)) := Bs.nil.alloc rfl
  clear hp hq hz hs
  generalize decide (Pt.times 8 (pt s) = Pt.none) = bl at *
  go_enter Tryd.func13, Tryd.ntmps13
  go_upto_region 1 with (fail)
  generalize w.alloc (.cells ((limsL [s.1, s.2]).map nv).toArray 26) = wv at *
  have hA : HoldsN wv 26 w.heap.size (limsL [s.1, s.2]) := F0.getN (by simp)
  have hb := F0.below
  go_wp2_with (first
    | (with_reducible refine wpList_load_pt rfl 26 (.tmp 1) rfl w.heap.size rfl (limsL [s.1, s.2]) 8 hA rfl Tryd.underlying26 Tryd.infoPt ?_)
    | (go_at_call 35
       with_reducible refine (L1.out _).mono ?_
       rintro e w2 ⟨rfl, hb2⟩
       have b2 := hb.trans (hb2.mono hb.size))
    | (go_at_call 39
       with_reducible refine (CL.out _).mono ?_
       rintro e w3 ⟨rfl, hb3⟩
       have b3 := b2.trans (hb3.mono b2.size))
    | (go_at_call 32
       with_reducible refine (ZE.out _).mono ?_
       rintro e w4 ⟨rfl, hb4⟩
       have b4 := b3.trans (hb4.mono b3.size))
    | fail)
  go_ret
  exact ⟨rfl, b4⟩

section
attribute [local go_sem ↓] load_s6
set_option maxRecDepth 100000 in
set_option maxHeartbeats 4000000 in
theorem rtimes_q (k : Nat) (w : World) (hk : k < big) :
    Calls Tryd.prog 15 #[.agg ((lims k).map nv).toArray] w (GaveL w (enc (Pt.times (toS k).val pbase).1)) := by
  obtain ⟨b, hb⟩ : ∃ b, b = nums pbase := ⟨_, rfl⟩
  obtain ⟨p, hp⟩ : ∃ p, p = nums (Pt.times (toS k).val pbase) := ⟨_, rfl⟩
  have BA : Hid (∀ W, Calls Tryd.prog 42 #[] W fun e w' => e = .returned (.agg ((limsL [b.1, b.2]).map nv).toArray) ∧ Below W.heap.size W w') := Lib.hid fun W => by
    rw [hb]
    exact rbase_q W
  have MU : Hid (∀ W, Calls Tryd.prog 41 #[.agg ((lims k).map nv).toArray, .agg ((limsL [b.1, b.2]).map nv).toArray] W fun e w' => e = .returned (.agg ((limsL [p.1, p.2]).map nv).toArray) ∧ Below W.heap.size W w') := Lib.hid fun W => by
    have h := rmul_q k b W hk (by rw [hb]; exact nums_ok _)
    rw [hb, pt_nums, ← hp, ← hb] at h
    exact h
  have EN : Hid (∀ W, Calls Tryd.prog 11 #[.agg ((limsL [p.1, p.2]).map nv).toArray] W fun e w' => e = .returned (.agg ((enc (Pt.times (toS k).val pbase).1).map bv).toArray) ∧ Below W.heap.size W w') := Lib.hid fun W => by
    have h := rencode_q p W (by rw [hp]; exact nums_ok _)
    rw [hp, pt_nums, ← hp] at h
    exact h
  have HN := Lib.hid (enc_length (Pt.times (toS k).val pbase).1)
  unfold GaveL
  clear hb hp hk
  generalize enc (Pt.times (toS k).val pbase).1 = res at *
  have F0 : Bs w (w.heap.size + 1 + 1) [(w.heap.size + 1, 27, ((List.replicate 32 (0 : UInt8)).map bv).toArray), (w.heap.size, 28, ((lims k).map nv).toArray)] ((w.alloc (.cells ((lims k).map nv).toArray 28)).alloc (.cells ((List.replicate 32 (0 : UInt8)).map bv).toArray 27)) := (Bs.nil.alloc rfl).alloc (World.size_alloc ..).symm
  go_enter Tryd.func15, Tryd.ntmps15
  go_upto_region 1 with (fail)
  refine wp_region_lex 4 (fun _ => false) (fun _ _ _ => True) (Bs w (w.heap.size + 1 + 1) [(w.heap.size + 1, 27, ((List.replicate 32 (0 : UInt8)).map bv).toArray), (w.heap.size, 28, ((lims k).map nv).toArray)]) (by kernel_rfl) (by kernel_rfl) (by with_unfolding_all exact F0.drew) Bs.stay (fun _ _ _ _ _ _ => trivial) lex_none ?_
  simp only [List.take_succ_cons, List.take_zero, List.drop_succ_cons, List.drop_zero]
  refine lexW_value (v := ?_) (by rfl) (by rfl) (fun W hW => ?_) ?_
  rotate_left
  · have l1 := run_ldS (hW.getN (g := w.heap.size) (l := lims k) (by repeat (first | exact List.mem_cons_self .. | refine List.mem_cons_of_mem _ ?_))); go_simp <;> with_reducible rfl
  simp only [Act.put, List.setIfInBounds_toArray, List.set_cons_zero, List.set_cons_succ]
  refine' lexW_call (by rfl) (by rfl) (fun W hW => ?_) (fun W hW => ?_) ?_
  rotate_left 3
  · go_simp <;> first | with_reducible rfl | exact ⟨rfl, rfl⟩
  · with_reducible exact BA.out W
  simp only [Act.put, List.setIfInBounds_toArray, List.set_cons_zero, List.set_cons_succ]
  refine' lexW_call (by rfl) (by rfl) (fun W hW => ?_) (fun W hW => ?_) ?_
  rotate_left 3
  · go_simp <;> first | with_reducible rfl | exact ⟨rfl, rfl⟩
  · with_reducible exact MU.out W
  simp only [Act.put, List.setIfInBounds_toArray, List.set_cons_zero, List.set_cons_succ]
  refine' lexW_call (by rfl) (by rfl) (fun W hW => ?_) (fun W hW => ?_) ?_
  rotate_left 3
  · go_simp <;> first | with_reducible rfl | exact ⟨rfl, rfl⟩
  · with_reducible exact EN.out W
  simp only [Act.put, List.setIfInBounds_toArray, List.set_cons_zero, List.set_cons_succ]
  refine lexW_nil (fun b8 W8 F8 E8 => ?_)
  obtain rfl := lexEnd_none E8
  have hR := F8.getB (g := w.heap.size + 1) (l := List.replicate 32 0) (List.mem_cons_self ..)
  go_wp2_with (with_reducible refine wpList_store_b rfl 27 (.tmp 2) (.tmp 6) rfl (w.heap.size + 1) res rfl rfl HN.out (List.replicate 32 0) hR Tryd.infoB32 (by simp) w.heap.size w F8.below (by omega) ?_; intro w9 Hg _ _ b9)
  exact bodyPost_ret (results_cell_row rfl _ _ (w.heap.size + 1) _ _ _ _ rfl Hg Tryd.underlying27 rfl (by rw [Tryd.infoB32]; simp [HN.out])) rfl ⟨rfl, b9⟩
end
end Crv
end Go.Proofs.YtlfkohanfeejfaaDoor

namespace Go.Proofs.YtlfkohanfeejfaaDoor
open Go.RowKit

theorem splice_cons (l : List Nat) (o x : Nat) (r : List Nat) (h : o + (x :: r).length ≤ l.length) : splice (l.set o x) (o + 1) r = splice l o (x :: r) := by
  have ho : o < l.length := by simp at h; omega
  unfold splice
  rw [List.set_eq_take_append_cons_drop, if_pos ho]
  have h1 : (l.take o).length = o := by rw [List.length_take]; omega
  have e1 : List.take (o + 1) (List.take o l ++ x :: List.drop (o + 1) l) = List.take o l ++ [x] := by
    rw [List.take_append, h1, show o + 1 - o = 1 by omega, List.take_of_length_le (by omega)]
    rfl
  have e2 : List.drop (o + 1 + r.length) (List.take o l ++ x :: List.drop (o + 1) l) = List.drop (o + (x :: r).length) l := by
    rw [List.drop_append, h1, show o + 1 + r.length - o = r.length + 1 by omega, List.drop_eq_nil_of_le (by omega), List.nil_append, List.drop_succ_cons, List.drop_drop, List.length_cons]
    congr 1
    omega
  rw [e1, e2, List.append_assoc]
  rfl
theorem holdsN_setCells {ty g : Nat} : ∀ (xs : List Nat) (o : Nat) (W : World) (l : List Nat), HoldsN W ty g l → o + xs.length ≤ l.length → HoldsN (W.setCells g o (xs.map nv)) ty g (splice l o xs)
  | [], o, W, l, h, _ => by simpa [World.setCells, splice] using h
  | x :: r, o, W, l, h, hl => by
    have := holdsN_setCells r (o + 1) (W.setCell ⟨g, o, none⟩ (nv x)) (l.set o x) (h.set o x) (by simp at hl ⊢; omega)
    rw [splice_cons l o x r hl] at this
    exact this
theorem setCells_other {g : Nat} : ∀ (vs : List Value) (o : Nat) (W : World) (k : Nat), k ≠ g → (W.setCells g o vs).heap[k]? = W.heap[k]?
  | [], _, _, _, _ => rfl
  | v :: r, o, W, k, h => by
    rw [World.setCells, setCells_other r (o + 1) _ k h]
    exact heap_setCell_other W ⟨g, o, none⟩ k v h
theorem setCells_size {g : Nat} : ∀ (vs : List Value) (o : Nat) (W : World), (W.setCells g o vs).heap.size = W.heap.size
  | [], _, _ => rfl
  | v :: r, o, W => by
    rw [World.setCells, setCells_size r (o + 1)]
    simp
theorem below_setCells {g D : Nat} {w0 : World} (hD : D ≤ g) : ∀ (vs : List Value) (o : Nat) (W : World), Below D w0 W → Below D w0 (W.setCells g o vs)
  | [], _, _, h => h
  | v :: r, o, W, h => by
    rw [World.setCells]
    exact below_setCells hD r (o + 1) _ (h.setCell (p := ⟨g, o, none⟩) hD v)
theorem there_of {W : World} {ty g : Nat} {l : List Nat} (h : HoldsN W ty g l) (o n : Nat) (hn : o + n ≤ l.length) : W.there g o n := fun j hj => by
  refine ⟨?_, h.frozen (o + j)⟩
  rw [h.cell (j := o + j) (by omega)]
  rfl
/-- 'p.X = x': a number into a field of a struct of numbers. -/
theorem wpList_store_field {P : Program} {ops : Array Oper} {rest : List Oper} {op : Oper} {a : Act} {w : World} {Q : Exit → Act → World → Prop} (hgd : op.guard = none) (ty : TypeId) (x y : Operand) (ho : op.op = .store ty x y)
    (g o : Nat) (xs : List Nat) (n : Nat) (hx : a.eval x = .pointer (some ⟨g, o, none⟩)) (hy : a.eval y = .agg (xs.map nv).toArray) (hn : xs.length = n) (t : TypeId) (l l' : List Nat) (hg : HoldsN w t g l) (hl : o + n ≤ l.length) (hl' : splice l o xs = l')
    (hi : (P.info? ty).map (·.size) = some n) (D : Nat) (w0 : World) (hb : Below D w0 w) (hD : D ≤ g)
    (h : ∀ w' : World, HoldsN w' t g l' → (∀ k, k ≠ g → w'.heap[k]? = w.heap[k]?) → w'.heap.size = w.heap.size → Below D w0 w' → wpList P ops Q rest (a.put op.dst undef) w') : wpList P ops Q (op :: rest) a w := by
  subst hn hl'
  refine wpList_store_mid hgd ty x y ho g o _ hx hy (by simpa using there_of hg o xs.length hl) (by rw [hi]; simp) (n_one xs) ?_
  exact h _ (holdsN_setCells xs o w l hg hl) (fun k hk => setCells_other _ o w k hk) (setCells_size _ o w) (below_setCells hD _ o w hb)
end Go.Proofs.YtlfkohanfeejfaaDoor

namespace Go.Proofs.YtlfkohanfeejfaaDoor
open Go.RowKit
namespace Byt
theorem Tryd.plainU8 : Tryd.prog.plainKey 5 = true := by kernel_rfl
theorem Tryd.cellsU8 : Tryd.prog.cellsOf 5 = 1 := by kernel_rfl
theorem Tryd.infoU8 : (Tryd.prog.info? 5).map (fun i => (i.zero, i.size, i.bytes)) = some (some (.int .u8 0), 1, 1) := by kernel_rfl
/-- Arrays of thirty-two bytes, compared. -/
theorem eq_bytes (a b : List UInt8) (ha : a.length = 32) (hb : b.length = 32) : (List.range 32).all (fun i => (a.map fun x : UInt8 => (x.toNat : Int)).getD i 0 == (b.map fun x : UInt8 => (x.toNat : Int)).getD i 0) = decide (a = b) := by
  rw [Bool.eq_iff_iff, List.all_eq_true, decide_eq_true_eq]
  constructor
  · intro h
    refine List.ext_getElem (by rw [ha, hb]) fun i h1 h2 => ?_
    have := h i (List.mem_range.2 (by omega))
    rw [List.getD_eq_getElem?_getD, List.getD_eq_getElem?_getD, List.getElem?_map, List.getElem?_map, List.getElem?_eq_getElem h1, List.getElem?_eq_getElem h2] at this
    simp only [Option.map_some, Option.getD_some, beq_iff_eq] at this
    exact UInt8.toNat_inj.1 (by omega)
  · rintro rfl i _
    simp
theorem run_eql_b (a b : List UInt8) (ha : a.length = 32) (hb : b.length = 32) (w : World) : (binOp .eql 27 (.agg (a.map bv).toArray) (.agg (b.map bv).toArray)).run Tryd.prog w = .ok (.bool (decide (a = b))) w := by
  obtain ⟨i, hi, _⟩ := info_parts Tryd.infoU8
  have em : ∀ l : List UInt8, l.map bv = (l.map fun x : UInt8 => (x.toNat : Int)).map (Value.int .u8) := fun l => by rw [List.map_map]; rfl
  rw [em, em]
  have h := run_equalIn_array (P := Tryd.prog) w 9999 ((a.map fun x : UInt8 => (x.toNat : Int)).map (Value.int .u8)).toArray ((b.map fun x : UInt8 => (x.toNat : Int)).map (Value.int .u8)).toArray Tryd.underlying27 hi
  rw [Tryd.cellsU8, eqItems_ints Tryd.underlying5 Tryd.plainU8 9998 _ _ _ (fun i hi => by simp only [List.length_map, ha, hb]; exact ⟨List.mem_range.1 hi, List.mem_range.1 hi⟩), eq_bytes a b ha hb] at h
  generalize ((a.map fun x : UInt8 => (x.toNat : Int)).map (Value.int .u8)).toArray = xs at *
  generalize ((b.map fun x : UInt8 => (x.toNat : Int)).map (Value.int .u8)).toArray = ys at *
  simp only [binOp]
  simp [Op.equal, Op.maxDepth, h]
theorem run_guard_b (x y : Operand) (a b : Array Value) (w : World) : (eqGuard .eql 27 x y (.agg a) (.agg b)).run Tryd.prog w = .ok () w := by
  simp [eqGuard]


/-- Bytes read out of their block, under a name that the walk does not open. -/
def loadBy (t : TypeId) (a : Addr) : Sem Value := loadVar t a
theorem load_by (a : Addr) : loadVar 27 a = loadBy 27 a := rfl
theorem run_loadBy {w : World} {g : Nat} {l : List UInt8} (hg : HoldsB w 27 g l) (hl : l.length = 32) : (loadBy 27 ⟨g, 0, none⟩).run Tryd.prog w = .ok (.agg (l.map bv).toArray) w :=
  run_loadVar_row w g 27 27 _ (0, 0) _ hg Tryd.underlying27 rfl (by rw [Tryd.infoB32]; simp [hl])
end Byt
end Go.Proofs.YtlfkohanfeejfaaDoor
