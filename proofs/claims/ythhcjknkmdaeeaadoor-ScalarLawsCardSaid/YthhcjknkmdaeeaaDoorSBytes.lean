/-
  The program's numbers modulo L: the number that thirty-two bytes are; a number's bytes; which bytes are a number's.
-/
import Derived.Test.YthhcjknkmdaeeaaDoorSOf
import Derived.Laws.CopyOwn
import Derived.ChangeKeysEq
namespace Go.Proofs.YthhcjknkmdaeeaaDoor
open Go.RowKit
namespace Sca

theorem Tryd.size8 : (Tryd.prog.info? 5).map (·.size) = some 1 := by kernel_rfl
theorem splice_cp (l : List UInt8) (h : l.length = 32) : splice ((List.replicate 64 (0 : UInt8)).map bv) 0 (l.map bv) = (cpL l 32).map bv := by
  unfold splice cpL
  rw [List.take_of_length_le (show l.length ≤ 32 by omega), List.map_append, List.length_map, h, ← List.map_drop, List.drop_replicate, List.take_zero, List.nil_append]
structure Fr (w : World) (l : List UInt8) (W : World) : Prop where
  a : HoldsB W 26 w.heap.size l
  c : HoldsN W 24 (w.heap.size + 1) (lims 0)
  x : HoldsB W 25 (w.heap.size + 1 + 1) (List.replicate 64 0)
  d : Below w.heap.size w W
theorem Fr.stay {w : World} {l : List UInt8} : ∀ W W', Fr w l W → Below W.heap.size W W' → Fr w l W' := fun _ _ h hb => ⟨h.a.keep hb h.a.lt, h.c.keep hb h.c.lt, h.x.keep hb h.x.lt, h.d.trans (hb.mono h.d.size)⟩

set_option maxRecDepth 100000 in
set_option maxHeartbeats 2000000 in
theorem From_any (l : List UInt8) (w : World) (hl : l.length = 32) (L0 : Laid w) :
    Calls Tryd.prog 16 #[.agg (l.map bv).toArray] w (GaveF w (toS (leNum l)).val) := by
  have hsz := L0.size
  obtain ⟨hA, hC, hb, hsz2⟩ := sfrom_start w l _ #[.int .u64 0, .int .u64 0, .int .u64 0, .int .u64 0] rfl (by kernel_rfl)
  have LS : Hid (∀ W, Below w.heap.size w W → Calls Tryd.prog 14 #[.agg ((cpL l 32).map bv).toArray] W fun e w' => e = .returned (.agg ((lims (toS (leNum l)).val).map nv).toArray) ∧ Below W.heap.size W w') := Lib.hid fun W hbW => by
    have := Of_any (cpL l 32) W (cpL_length l (by omega) (by omega)) (L0.keep hbW hsz)
    rwa [cpL_full l hl] at this
  have XL := Lib.hid (cpL_length l (k := 32) (by omega) (by omega))
  have SP := Lib.hid (splice_cp l hl)
  generalize (toS (leNum l)).val = r at *
  have F0 : Fr w l (((w.alloc (.cells (l.map bv).toArray 26)).alloc (.cells #[.int .u64 0, .int .u64 0, .int .u64 0, .int .u64 0] 24)).alloc (.cells zb64 25)) := ⟨hA.alloc _, hC.alloc _, holdsB_new _ _ _ _ _ hsz2.symm rfl, hb.alloc (by omega) _⟩
  have Hl := Lib.hid hl
  clear hl hA hC hb hsz2 L0 hsz
  go_enter Tryd.func16, Tryd.ntmps16
  go_upto_region 2 with (fail)
  refine wp_region_lex 2 (fun _ => false) (fun _ _ _ => True) (Fr w l) (by kernel_rfl) (by kernel_rfl) (Fr.stay _ _ (by with_unfolding_all exact F0) (Below.refl _ _).drew) Fr.stay (fun _ _ _ _ _ _ => trivial) lex_none ?_
  simp only [List.take_succ_cons, List.take_zero, List.drop_succ_cons, List.drop_zero]
  refine lexW_value (v := ?_) (by rfl) (by rfl) (fun W hW => ?_) ?_
  rotate_left
  · go_simp <;> with_reducible rfl
  simp only [Act.put, List.setIfInBounds_toArray, List.set_cons_zero, List.set_cons_succ]
  refine lexW_value (v := ?_) (by rfl) (by rfl) (fun W hW => ?_) ?_
  rotate_left
  · go_simp <;> with_reducible rfl
  simp only [Act.put, List.setIfInBounds_toArray, List.set_cons_zero, List.set_cons_succ]
  refine lexW_nil (fun b W hW hE => ?_)
  obtain rfl := lexEnd_none hE
  have hla : (l.map bv).length = 32 := by rw [List.length_map, Hl.out]
  refine wpList_copy_splice rfl (.tmp 4) (.tmp 5) _ _ rfl 5 Tryd.underlying50 Tryd.size8 (some ⟨w.heap.size + 1 + 1, 0, none⟩) (some ⟨w.heap.size, 0, none⟩) 64 64 32 32 rfl rfl (w.heap.size + 1 + 1) 0 ((List.replicate 64 (0 : UInt8)).map bv) 25 (by exact hW.x) (l.map bv) (by rw [hla]; rfl) (fun _ => ⟨rfl, ⟨w.heap.size, 0, none⟩, rfl, fun j v hv => ?_⟩) (by rw [hla]; simp) (fun v hv => by obtain ⟨x, _, rfl⟩ := List.mem_map.1 hv; rfl) (w.heap.size + 1 + 1) W (Below.refl _ _) (Nat.le_refl _) ?_
  · have hj : j < l.length := by
      rcases Nat.lt_or_ge j l.length with h | h
      · exact h
      · rw [List.getElem?_eq_none (by rw [List.length_map]; exact h)] at hv; cases hv
    have hc := hW.a.cell hj
    rw [List.getElem?_map, List.getElem?_eq_getElem hj] at hv
    obtain rfl := Option.some.inj hv
    have e : (⟨w.heap.size, 0, none⟩ : Addr).add j = ⟨w.heap.size, j, none⟩ := by
      unfold Addr.add
      rcases Nat.eq_zero_or_pos j with h0 | h0
      · subst h0; simp
      · simp
        omega
    rw [e, hc]
    rfl
  · intro w3 hX0 hb3
    have hX : HoldsB w3 25 (w.heap.size + 1 + 1) (cpL l 32) := by
      have := hX0.out
      rw [SP.out] at this
      exact this
    have hC : HoldsN w3 24 (w.heap.size + 1) (lims 0) := hW.c.keep hb3 (Nat.lt_succ_self _)
    have hb : Below w.heap.size w w3 := hW.d.trans (hb3.mono (by omega))
    clear hX0 hW hE F0 SP
    generalize cpL l 32 = x at *
    go_wp2_with (first
      | (with_reducible refine wpList_load_bn 64 rfl 25 (.tmp 3) rfl (w.heap.size + 1 + 1) rfl x hX XL.out Tryd.underlying25 Tryd.infoB64 ?_)
      | (go_at_call 14
         with_reducible refine (LS.out _ hb).mono ?_
         rintro e w5 ⟨rfl, hb5⟩
         have hC5 := hC.keep hb5 hC.lt
         have b5 := hb.trans (hb5.mono hb.size))
      | (with_reducible refine wpList_store_n rfl 24 (.tmp 2) (.tmp 8) rfl (w.heap.size + 1) (lims r) 4 rfl rfl rfl (lims 0) hC5 Tryd.infoSc rfl w.heap.size w b5 (by omega) ?_; intro w7 Hg7 _ _ hb7)
      | fail)
    exact bodyPost_ret (results_cell_row rfl _ _ _ _ _ _ _ rfl Hg7 Tryd.underlying24 rfl (by rw [Tryd.infoSc]; rfl)) rfl ⟨rfl, hb7⟩

set_option maxRecDepth 100000 in
set_option maxHeartbeats 2000000 in
theorem Bytes_any (m : Nat) (w : World) (hm : m < big) (L0 : Laid w) :
    Calls Tryd.prog 18 #[fev m] w fun e w' => e = .returned (.agg ((leBytes (toS m).val 32).map bv).toArray) ∧ Below w.heap.size w w' := by
  have hsz := L0.size
  obtain ⟨hA, hC, hb⟩ := sbytes_start w m _ zb rfl rfl
  obtain ⟨a, ha⟩ : ∃ a, a = (toS m).val := ⟨_, rfl⟩
  have LM : Hid (∀ W, HoldsN W 24 w.heap.size (lims m) → Below w.heap.size w W → Calls Tryd.prog 24 #[.slice (some ⟨w.heap.size, 0, none⟩) 4 4] W fun e w' => e = .returned (.agg ((lims a).map nv).toArray) ∧ Below W.heap.size W w') := Lib.hid fun W hW hbW => by
    have h := below_any (lims m) 4 w.heap.size 24 W rfl (by omega) (lims_small m) hW (L0.keep hbW hsz)
    rw [numL_lims hm] at h
    rw [ha]; exact h
  rw [fev_eq, ← ha]
  clear ha L0 hsz
  go_enter Tryd.func18, Tryd.ntmps18
  go_upto_region 1 with (fail)
  have hA' : HoldsN ((w.alloc (.cells ((lims m).map nv).toArray 24)).alloc (.cells zb 26)) 24 w.heap.size (lims m) := hA
  go_wp2_with (first
    | (go_at_call 24
       (refine (LM.out _ (by with_unfolding_all exact hA) (by with_unfolding_all exact hb)).mono ?_)
       rintro e w3 ⟨rfl, hb3⟩
       have hA3 : HoldsN w3 24 w.heap.size (lims m) := hA.keep (by with_unfolding_all exact hb3) hA.lt
       have hC3 : HoldsB w3 26 (w.heap.size + 1) (List.replicate 32 0) := hC.keep (by with_unfolding_all exact hb3) hC.lt
       have b3 : Below w.heap.size w w3 := hb.trans (hb3.mono hb.size))
    | (with_reducible refine wpList_store_n rfl 24 (.tmp 1) (.tmp 6) rfl w.heap.size (lims a) 4 rfl rfl rfl (lims m) hA3 Tryd.infoSc rfl w.heap.size w b3 (Nat.le_refl _) ?_
       intro w4 hA4 o4 s4 b4
       clear s4
       have hC4 := hC3.oth o4 (by omega)
       have l4 := hC4.lt
       have z5 : HoldsB (w4.alloc (.cells zb 26)) 26 w4.heap.size (List.replicate 32 0) := holdsB_new w4 _ _ _ _ rfl rfl
       have b5 := b4.alloc b4.size (.cells zb 26)
       have hA5 := hA4.alloc (.cells zb 26)
       have hC5 := hC4.alloc (.cells zb 26))
    | fail)
  rw [← bytL_zero a] at z5
  clear hA hA' hC hb hA3 hC3 b3 hb3 hA4 hC4 b4 o4
  go_loopw [4, 7] (fun _ v wr => ∃ k : Nat, k ≤ 32 ∧ v = .int .i64 (k : Int) ∧ HoldsN wr 24 w.heap.size (lims a) ∧ HoldsB wr 26 (w.heap.size + 1) (List.replicate 32 0) ∧ HoldsB wr 26 w4.heap.size (bytL a k) ∧ Below w.heap.size w wr)
    (fun _ v _ => 32 - (intOf v).toNat)
  case atStart => exact ⟨0, Nat.zero_le _, rfl, by with_unfolding_all exact hA5, by with_unfolding_all exact hC5, by with_unfolding_all exact z5, by with_unfolding_all exact b5⟩
  case round =>
    clear hA5 hC5 z5 b5
    obtain ⟨k, hk, rfl, hA, hC, hD, hb⟩ := hrel
    by_cases hlt : k < 32
    · have hlt2 : (k : Int) < 32 := by omega
      have ca := hA.cell (j := k / 8) (by rw [lims_length]; omega)
      rw [lims_get _ (by omega)] at ca
      have hf := hD.frozen k
      have co := hD.cell (j := k) (by rw [bytL_length]; exact hlt)
      have hset := Lib.hid (bytL_set a k)
      have hbl := byte_limb a k
      have eq4 : (k : Int).tdiv 8 = ((k / 8 : Nat) : Int) := by rw [Int.tdiv_eq_ediv_of_nonneg (by omega)]; omega
      have em4 : (k : Int).tmod 8 = ((k % 8 : Nat) : Int) := by rw [Int.tmod_eq_emod_of_nonneg (by omega)]; omega
      have lq : ((k / 8 : Nat) : Int) < 4 := by omega
      have hr4 : k % 8 < 8 := by omega
      generalize limb a (k / 8) = x at *
      generalize k / 8 = qq at *
      generalize k % 8 = rr at *
      have lr : (rr : Int) < 8 := by omega
      have wr1 : IntKind.i64.wrap (8 * (rr : Int)) = 8 * rr := by simp only [IntKind.wrap, IntKind.bits, IntKind.signed]; simp; omega
      have wr2 : IntKind.u64.wrap (8 * (rr : Int)) = 8 * rr := by rw [IntKind.wrap_u64]; omega
      have lr3 : 8 * (rr : Int) < 64 := by omega
      have hv : (x : Int) / 2 ^ (8 * rr) % 256 = ((UInt8.ofNat (a / 256 ^ k)).toNat : Int) := by
        rw [show (2 : Int) ^ (8 * rr) = ((2 ^ (8 * rr) : Nat) : Int) from (Int.natCast_pow 2 _).symm, ← Int.natCast_ediv, UInt8.toNat_ofNat']
        exact (Int.natCast_emod _ 256).symm.trans (congrArg _ hbl)
      have Hv := Lib.hid hv
      clear hv hbl
      generalize UInt8.ofNat (a / 256 ^ k) = d at *
      go_wp2
      go_roundw
      case rel => exact ⟨k + 1, by omega, by go_num, hA.setOther _ _ (by simp; omega), hC.setOther _ _ (by simp; omega), by rw [Hv.out, ← hset.out]; exact hD.set k d, hb.setCell (by simp; omega) _⟩
      case measure => simp [intOf]; omega
    · rw [show (k : Int) = 32 by omega]
      obtain rfl : k = 32 := by omega
      rw [bytL_full] at hD
      go_wp2_with (first
        | (with_reducible refine wpList_load_b rfl 26 (.tmp 3) rfl w4.heap.size rfl (leBytes a 32) hD (leBytes_length _ _) Tryd.underlying26 Tryd.infoB32 ?_)
        | (with_reducible refine wpList_store_b rfl 26 (.tmp 2) (.tmp 22) rfl (w.heap.size + 1) (leBytes a 32) rfl rfl (leBytes_length _ _) _ hC Tryd.infoB32 (by simp) w.heap.size w hb (by omega) ?_; intro w7 Hg _ _ hb7))
      exact bodyPost_ret (results_cell_row rfl _ _ (w.heap.size + 1) _ _ _ _ rfl Hg Tryd.underlying26 rfl (by rw [Tryd.infoB32]; simp [leBytes_length])) rfl ⟨rfl, hb7⟩

theorem Tryd.cellsU8 : Tryd.prog.cellsOf 5 = 1 := by kernel_rfl
theorem Tryd.infoU8 : (Tryd.prog.info? 5).map (fun i => (i.zero, i.size, i.bytes)) = some (some (.int .u8 0), 1, 1) := by kernel_rfl
/-- Arrays of thirty-two bytes, compared. -/
theorem eq_bytes (a b : List UInt8) (ha : a.length = 32) (hb : b.length = 32) : (List.range 32).all (fun i => (a.map fun x : UInt8 => (x.toNat : Int)).getD i 0 == (b.map fun x : UInt8 => (x.toNat : Int)).getD i 0) = decide (a = b) := by
  rw [Bool.eq_iff_iff, List.all_eq_true, decide_eq_true_eq]
  constructor
  · intro h
    refine List.ext_getElem (by rw [ha, hb]) fun i h1 h2 => ?_
    have := h i (List.mem_range.2 (by omega))
    rw [List.getD_eq_getElem?_getD, List.getD_eq_getElem?_getD, List.getElem?_map, List.getElem?_map, List.getElem?_eq_getElem h1, List.getElem?_eq_getElem h2] at this
    simp only [Option.map_some, Option.getD_some, beq_iff_eq] at this
    exact UInt8.toNat_inj.1 (by omega)
  · rintro rfl i _
    simp
theorem run_eql_b (a b : List UInt8) (ha : a.length = 32) (hb : b.length = 32) (w : World) : (binOp .eql 26 (.agg (a.map bv).toArray) (.agg (b.map bv).toArray)).run Tryd.prog w = .ok (.bool (decide (a = b))) w := by
  obtain ⟨i, hi, _⟩ := info_parts Tryd.infoU8
  have em : ∀ l : List UInt8, l.map bv = (l.map fun x : UInt8 => (x.toNat : Int)).map (Value.int .u8) := fun l => by rw [List.map_map]; rfl
  rw [em, em]
  have h := run_equalIn_array (P := Tryd.prog) w 9999 ((a.map fun x : UInt8 => (x.toNat : Int)).map (Value.int .u8)).toArray ((b.map fun x : UInt8 => (x.toNat : Int)).map (Value.int .u8)).toArray Tryd.underlying26 hi
  rw [Tryd.cellsU8, eqItems_ints Tryd.underlying5 Tryd.plainU8 9998 _ _ _ (fun i hi => by simp only [List.length_map, ha, hb]; exact ⟨List.mem_range.1 hi, List.mem_range.1 hi⟩), eq_bytes a b ha hb] at h
  generalize ((a.map fun x : UInt8 => (x.toNat : Int)).map (Value.int .u8)).toArray = xs at *
  generalize ((b.map fun x : UInt8 => (x.toNat : Int)).map (Value.int .u8)).toArray = ys at *
  simp only [binOp]
  simp [Op.equal, Op.maxDepth, h]
theorem run_guard_b (x y : Operand) (a b : Array Value) (w : World) : (eqGuard .eql 26 x y (.agg a) (.agg b)).run Tryd.prog w = .ok () w := by
  simp [eqGuard]


/-- Bytes read out of their block, under a name that the walk does not open. -/
def loadBy (t : TypeId) (a : Addr) : Sem Value := loadVar t a
theorem load_by (a : Addr) : loadVar 26 a = loadBy 26 a := rfl
theorem run_loadBy {w : World} {g : Nat} {l : List UInt8} (hg : HoldsB w 26 g l) (hl : l.length = 32) : (loadBy 26 ⟨g, 0, none⟩).run Tryd.prog w = .ok (.agg (l.map bv).toArray) w :=
  run_loadVar_row w g 26 26 _ (0, 0) _ hg Tryd.underlying26 rfl (by rw [Tryd.infoB32]; simp [hl])
theorem leBytes_leNum (l : List UInt8) : leBytes (leNum l) l.length = l := by
  refine List.ext_getElem (leBytes_length _ _) fun i h1 h2 => ?_
  simp only [leBytes, List.getElem_map, List.getElem_range]
  refine UInt8.toNat_inj.1 ?_
  rw [UInt8.toNat_ofNat']
  exact leNum_at l i h2
/-- Bytes below L are those of their number, and no others are. -/
theorem back_iff (l : List UInt8) (hl : l.length = 32) : leBytes (toS (leNum l)).val 32 = l ↔ leNum l < LL := by
  constructor
  · intro h
    have e : (toS (leNum l)).val = leNum l := by
      have h2 := congrArg leNum h
      rw [leNum_leBytes, Nat.mod_eq_of_lt] at h2
      · exact h2
      · exact Nat.lt_trans (toS (leNum l)).isLt (by decide)
    rw [← e]
    exact (toS (leNum l)).isLt
  · intro h
    rw [toS_val, Nat.mod_eq_of_lt h, ← hl]
    exact leBytes_leNum l
/-- The blocks of a check. -/
structure Ck (w : World) (l : List UInt8) (W : World) : Prop where
  a : HoldsB W 26 w.heap.size l
  d : Below w.heap.size w W
theorem Ck.stay {w : World} {l : List UInt8} : ∀ W W', Ck w l W → Below W.heap.size W W' → Ck w l W' := fun _ _ h hb => ⟨h.a.keep hb h.a.lt, h.d.trans (hb.mono h.d.size)⟩

section
attribute [local go_sem ↓] load_by
set_option maxRecDepth 100000 in
set_option maxHeartbeats 2000000 in
theorem Check_any (l : List UInt8) (w : World) (hl : l.length = 32) (L0 : Laid w) :
    Calls Tryd.prog 20 #[.agg (l.map bv).toArray] w fun e w' => e = .returned (.bool (decide (leNum l < LL))) ∧ Below w.heap.size w w' := by
  have hsz := L0.size
  have FR : Hid (∀ W, Below w.heap.size w W → Calls Tryd.prog 16 #[.agg (l.map bv).toArray] W fun e w' => e = .returned (.agg ((lims (toS (leNum l)).val).map nv).toArray) ∧ Below W.heap.size W w') := Lib.hid fun W hbW => From_any l W hl (L0.keep hbW hsz)
  have BY : Hid (∀ W, Below w.heap.size w W → Calls Tryd.prog 18 #[.agg ((lims (toS (leNum l)).val).map nv).toArray] W fun e w' => e = .returned (.agg ((leBytes (toS (leNum l)).val 32).map bv).toArray) ∧ Below W.heap.size W w') := Lib.hid fun W hbW => by
    have h := Bytes_any (toS (leNum l)).val W (Sn.lt_big _) (L0.keep hbW hsz)
    rw [toS_of] at h
    exact h
  have EQ : ∀ W, (binOp .eql 26 (.agg ((leBytes (toS (leNum l)).val 32).map bv).toArray) (.agg (l.map bv).toArray)).run Tryd.prog W = .ok (.bool (decide (leNum l < LL))) W := fun W => by
    rw [run_eql_b _ _ (leBytes_length _ _) hl]
    congr 3
    exact propext (back_iff l hl)
  have GU := fun W => run_guard_b (.tmp 5) (.tmp 6) ((leBytes (toS (leNum l)).val 32).map bv).toArray (l.map bv).toArray W
  have F0 : Ck w l (w.alloc (.cells (l.map bv).toArray 26)) := ⟨holdsB_new _ _ _ _ _ rfl rfl, (Below.refl _ w).alloc (Nat.le_refl _) _⟩
  have Hl := Lib.hid hl
  clear hl hsz L0
  generalize decide (leNum l < LL) = bl at *
  generalize (toS (leNum l)).val = n at *
  generalize leBytes n 32 = u at *
  go_enter Tryd.func20, Tryd.ntmps20
  go_upto_region 1 with (fail)
  refine wp_region_lex 5 (fun _ => false) (fun _ _ _ => True) (Ck w l) (by kernel_rfl) (by kernel_rfl) (Ck.stay _ _ (by with_unfolding_all exact F0) (Below.refl _ _).drew) Ck.stay (fun _ _ _ _ _ _ => trivial) lex_none ?_
  simp only [List.take_succ_cons, List.take_zero, List.drop_succ_cons, List.drop_zero]
  refine lexW_value (v := ?_) (by rfl) (by rfl) (fun W hW => ?_) ?_
  rotate_left
  · have l1 := run_loadBy hW.a Hl.out; go_simp <;> with_reducible rfl
  simp only [Act.put, List.setIfInBounds_toArray, List.set_cons_zero, List.set_cons_succ]
  refine' lexW_call (by rfl) (by rfl) (fun W hW => ?_) (fun W hW => ?_) ?_
  rotate_left 3
  · go_simp <;> first | with_reducible rfl | exact ⟨rfl, rfl⟩
  · with_reducible exact FR.out W hW.d
  simp only [Act.put, List.setIfInBounds_toArray, List.set_cons_zero, List.set_cons_succ]
  refine' lexW_call (by rfl) (by rfl) (fun W hW => ?_) (fun W hW => ?_) ?_
  rotate_left 3
  · go_simp <;> first | with_reducible rfl | exact ⟨rfl, rfl⟩
  · with_reducible exact BY.out W hW.d
  simp only [Act.put, List.setIfInBounds_toArray, List.set_cons_zero, List.set_cons_succ]
  refine lexW_value (v := ?_) (by rfl) (by rfl) (fun W hW => ?_) ?_
  rotate_left
  · have l1 := run_loadBy hW.a Hl.out; go_simp <;> with_reducible rfl
  simp only [Act.put, List.setIfInBounds_toArray, List.set_cons_zero, List.set_cons_succ]
  refine lexW_value (v := ?_) (by rfl) (by rfl) (fun W hW => ?_) ?_
  rotate_left
  · skip; go_simp <;> with_reducible rfl
  simp only [Act.put, List.setIfInBounds_toArray, List.set_cons_zero, List.set_cons_succ]
  refine lexW_nil (fun b W hW hE => ?_)
  obtain rfl := lexEnd_none hE
  go_wp2
  go_ret
  exact ⟨rfl, hW.d⟩
end

end Sca
end Go.Proofs.YthhcjknkmdaeeaaDoor
