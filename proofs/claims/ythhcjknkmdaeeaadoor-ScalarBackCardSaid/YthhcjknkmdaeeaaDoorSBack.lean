/-
  ScalarBack: bytes below L are those of their number, those of a number are below L, and its; sixty-four bytes are the lower ones, and 2^256 times the upper ones. Whatever the number, and the bytes, are.
-/
import Derived.Test.YthhcjknkmdaeeaaDoorSAwake
import Derived.Test.YthhcjknkmdaeeaaDoorBs
import Derived.Deep.DeepCutAuto
namespace Go.Proofs.YthhcjknkmdaeeaaDoor
open Go.RowKit

theorem leBytes_leNum (l : List UInt8) : leBytes (leNum l) l.length = l := by
  refine List.ext_getElem (leBytes_length _ _) fun i h1 h2 => ?_
  simp only [leBytes, List.getElem_map, List.getElem_range]
  refine UInt8.toNat_inj.1 ?_
  rw [UInt8.toNat_ofNat']
  exact leNum_at l i h2
/-- Bytes below L are those of their number, and no others are. -/
theorem back_iff (l : List UInt8) (hl : l.length = 32) : leBytes (toS (leNum l)).val 32 = l ↔ leNum l < LL := by
  constructor
  · intro h
    have e : (toS (leNum l)).val = leNum l := by
      have h2 := congrArg leNum h
      rw [leNum_leBytes, Nat.mod_eq_of_lt] at h2
      · exact h2
      · exact Nat.lt_trans (toS (leNum l)).isLt (by decide)
    rw [← e]
    exact (toS (leNum l)).isLt
  · intro h
    rw [toS_val, Nat.mod_eq_of_lt h, ← hl]
    exact leBytes_leNum l
theorem num_bytes (x : Sn) : leNum (leBytes x.val 32) = x.val := by
  rw [leNum_leBytes, Nat.mod_eq_of_lt]
  exact Nat.lt_trans x.isLt (by decide)
/-- The first k bytes; the others of 32 are 0. -/
def cp32 (l : List UInt8) (k : Nat) : List UInt8 := l.take k ++ List.replicate (32 - k) 0
theorem cp32_length (l : List UInt8) {k : Nat} (h : l.length = 32) (h2 : k ≤ 32) : (cp32 l k).length = 32 := by simp [cp32]; omega
theorem cp32_set (l : List UInt8) {k : Nat} (h : l.length = 32) (h2 : k < 32) : (cp32 l k).set k (l[k]'(by omega)) = cp32 l (k + 1) := by
  unfold cp32
  rw [List.set_append_right _ _ (by rw [List.length_take]; omega), List.length_take, Nat.min_eq_left (by omega), Nat.sub_self,
    show 32 - k = (32 - (k + 1)) + 1 by omega, List.replicate_succ, List.set_cons_zero, List.take_succ_eq_append_getElem (by omega), List.append_assoc]
  rfl
theorem cp32_full (l : List UInt8) (h : l.length = 32) : cp32 l 32 = l := by
  unfold cp32
  rw [List.take_of_length_le (by omega)]
  simp
/-- Two numbers of 32 bytes as one of 64, while the bytes are laid. -/
def cp2 (l m : List UInt8) (i j : Nat) : List UInt8 := cp32 l i ++ cp32 m j
theorem cp2_length {l m : List UInt8} {i j : Nat} (hl : l.length = 32) (hm : m.length = 32) (hi : i ≤ 32) (hj : j ≤ 32) : (cp2 l m i j).length = 64 := by
  unfold cp2; rw [List.length_append, cp32_length l hl hi, cp32_length m hm hj]
theorem cp2_zero (l m : List UInt8) : cp2 l m 0 0 = List.replicate 64 0 := rfl
theorem cp2_low {l m : List UInt8} {k j : Nat} (hl : l.length = 32) (h : k < 32) : (cp2 l m k j).set k (l[k]'(by omega)) = cp2 l m (k + 1) j := by
  unfold cp2
  rw [List.set_append_left _ _ (by rw [cp32_length l hl (by omega)]; exact h), cp32_set l hl h]
theorem cp2_high {l m : List UInt8} {k i : Nat} (hl : l.length = 32) (hm : m.length = 32) (hi : i ≤ 32) (h : k < 32) : (cp2 l m i k).set (32 + k) (m[k]'(by omega)) = cp2 l m i (k + 1) := by
  unfold cp2
  rw [List.set_append_right _ _ (by rw [cp32_length l hl hi]; omega), cp32_length l hl hi, Nat.add_sub_cancel_left, cp32_set m hm h]
theorem cp2_full {l m : List UInt8} (hl : l.length = 32) (hm : m.length = 32) : leNum (cp2 l m 32 32) = leNum l + 256 ^ 32 * leNum m := by
  unfold cp2
  rw [cp32_full l hl, cp32_full m hm, leNum_append, hl]
/-- 2^256. -/
def pw64 : List UInt8 := (List.replicate 64 0).set 32 1
theorem num_pw : leNum pw64 = 256 ^ 32 := by decide +kernel
theorem len_pw : pw64.length = 64 := by decide

/-- A block of a number's, made behind D. -/
def MadeSc (D : Nat) (_ : Nat) (v : Value) (W : World) : Prop := ∃ g, v = .pointer (some ⟨g, 0, none⟩) ∧ D ≤ g ∧ HoldsN W 24 g (lims 0)
theorem MadeSc.stay {D : Nat} : ∀ j v w w', MadeSc D j v w → Below w.heap.size w w' → MadeSc D j v w' := fun _ _ _ _ ⟨g, hv, hg, hh⟩ hb => ⟨g, hv, hg, hh.keep hb hh.lt⟩
theorem run_alloc_sc (f : Operand → Value) (o : Oper) (ho : o.op = .alloc 24) (w : World) :
    (execOp f o).run Tryd.prog w = .ok (.value (.pointer (some ⟨w.heap.size, 0, none⟩))) (w.alloc (.cells #[.int .u64 0, .int .u64 0, .int .u64 0, .int .u64 0] 24)) := by
  obtain ⟨dst, op, type, pos, after, guard⟩ := o
  obtain rfl : op = .alloc 24 := ho
  go_simp
theorem made_sc {S : World → Prop} {l : List Oper} {j D : Nat} (hS : ∀ w, S w → D ≤ w.heap.size) (hj : (l[j]?).map (·.op) = some (.alloc 24)) :
    ∀ k o, (fun k => k == j : Nat → Bool) k = true → l[k]? = some o → ∀ f w, S w → ∃ v w', (execOp f o).run Tryd.prog w = .ok (.value v) w' ∧ MadeSc D k v w' ∧ Below w.heap.size w w' := fun k o hk ho f w hw => by
  obtain rfl : k = j := by simpa using hk
  rw [ho] at hj
  refine ⟨_, _, run_alloc_sc f o (Option.some.inj hj) w, ⟨_, rfl, hS w hw, ?_⟩, (Below.refl _ w).alloc (Nat.le_refl _) _⟩
  exact holdsN_new w _ _ _ _ rfl (by kernel_rfl)
theorem sb_start (w : World) (a : Nat) (l m : List UInt8) : Bs w (w.heap.size + 1 + 1 + 1) [(w.heap.size + 1 + 1, 26, (m.map bv).toArray), (w.heap.size + 1, 26, (l.map bv).toArray), (w.heap.size, 24, ((lims a).map nv).toArray)] (((w.alloc (.cells ((lims a).map nv).toArray 24)).alloc (.cells (l.map bv).toArray 26)).alloc (.cells (m.map bv).toArray 26)) := by
  have e1 : (w.alloc (.cells ((lims a).map nv).toArray 24)).heap.size = w.heap.size + 1 := World.size_alloc ..
  have e2 : ((w.alloc (.cells ((lims a).map nv).toArray 24)).alloc (.cells (l.map bv).toArray 26)).heap.size = w.heap.size + 1 + 1 := by rw [World.size_alloc, e1]
  exact ((Bs.nil.alloc rfl).alloc e1.symm).alloc e2.symm

section
attribute [local go_sem ↓] load_sc load_by load_bq

set_option maxRecDepth 100000 in
set_option maxHeartbeats 4000000 in
theorem ScalarBack_any (a : Nat) (l m : List UInt8) (w : World) (ha : a < big) (hl : l.length = 32) (hm : m.length = 32) (L0 : Laid w) :
    Calls Tryd.prog 5 #[fev a, .agg (l.map bv).toArray, .agg (m.map bv).toArray] w fun e w' => e = .returned (.bool true) ∧ Below w.heap.size w w' := by
  have hsz0 := L0.size
  have LK : Hid (∀ W, Below w.heap.size w W → Laid W) := Lib.hid fun W hb => L0.keep hb hsz0
  have AW : Hid (∀ W, Laid W → Calls Tryd.prog 7 #[] W fun e w' => e = .returned (.bool true) ∧ Below W.heap.size W w') := Lib.hid fun W L => awake_any W L
  obtain ⟨fa, hfa⟩ : ∃ f, f = toS a := ⟨_, rfl⟩
  obtain ⟨x, hx⟩ : ∃ x, x = leBytes fa.val 32 := ⟨_, rfl⟩
  obtain ⟨y, hy⟩ : ∃ y, y = toS (leNum l) := ⟨_, rfl⟩
  obtain ⟨z, hz⟩ : ∃ z, z = toS (leNum m) := ⟨_, rfl⟩
  obtain ⟨p, hp⟩ : ∃ p, p = toS (256 ^ 32) := ⟨_, rfl⟩
  obtain ⟨q, hq⟩ : ∃ zz : Sn, zz = p * z := ⟨_, rfl⟩
  obtain ⟨s, hs⟩ : ∃ zz : Sn, zz = y + q := ⟨_, rfl⟩
  obtain ⟨i, hi⟩ : ∃ zz : Sn, zz = fa := ⟨_, rfl⟩
  obtain ⟨u, hu⟩ : ∃ u, u = leBytes y.val 32 := ⟨_, rfl⟩
  obtain ⟨ck, hck⟩ : ∃ ck, ck = decide (leNum l < LL) := ⟨_, rfl⟩
  have HX : Hid (x.length = 32) := Lib.hid (by rw [hx]; exact leBytes_length _ _)
  have HU : Hid (u.length = 32) := Lib.hid (by rw [hu]; exact leBytes_length _ _)
  have HL := Lib.hid hl
  have HM := Lib.hid hm
  have heq : decide (u = l) = ck := by
    rw [hu, hy, hck]
    exact decide_eq_decide.2 (back_iff l hl)
  have K1 : Hid (∀ W, Laid W → Calls Tryd.prog 18 #[.agg ((lims a).map nv).toArray] W fun e w' => e = .returned (.agg (x.map bv).toArray) ∧ Below W.heap.size W w') := Lib.hid fun W L => by
    rw [hx, hfa]
    exact Bytes_any a W ha L
  have K2 : Hid (∀ W, Laid W → Calls Tryd.prog 16 #[.agg (l.map bv).toArray] W fun e w' => e = .returned (.agg ((lims y.val).map nv).toArray) ∧ Below W.heap.size W w') := Lib.hid fun W L => by
    rw [hy]
    exact From_any l W hl L
  have K3 : Hid (∀ W, Laid W → Calls Tryd.prog 14 #[.agg (pw64.map bv).toArray] W fun e w' => e = .returned (.agg ((lims p.val).map nv).toArray) ∧ Below W.heap.size W w') := Lib.hid fun W L => by
    have h := Of_any pw64 W len_pw L
    rw [num_pw, ← hp] at h
    exact h
  have K4 : Hid (∀ W, Laid W → Calls Tryd.prog 16 #[.agg (m.map bv).toArray] W fun e w' => e = .returned (.agg ((lims z.val).map nv).toArray) ∧ Below W.heap.size W w') := Lib.hid fun W L => by
    rw [hz]
    exact From_any m W hm L
  have K5 : Hid (∀ W, Laid W → Calls Tryd.prog 10 #[.agg ((lims p.val).map nv).toArray, .agg ((lims z.val).map nv).toArray] W fun e w' => e = .returned (.agg ((lims q.val).map nv).toArray) ∧ Below W.heap.size W w') := Lib.hid fun W L => by
    have h := Mul_any p.val z.val W (Sn.lt_big _) (Sn.lt_big _) L
    rw [toS_of, toS_of, ← hq] at h
    exact h
  have K6 : Hid (∀ W, Laid W → Calls Tryd.prog 8 #[.agg ((lims y.val).map nv).toArray, .agg ((lims q.val).map nv).toArray] W fun e w' => e = .returned (.agg ((lims s.val).map nv).toArray) ∧ Below W.heap.size W w') := Lib.hid fun W L => by
    have h := Add_any y.val q.val W (Sn.lt_big _) (Sn.lt_big _) L
    rw [toS_of, toS_of, ← hs] at h
    exact h
  have K7 : Hid (∀ W, Laid W → Calls Tryd.prog 20 #[.agg (x.map bv).toArray] W fun e w' => e = .returned (.bool true) ∧ Below W.heap.size W w') := Lib.hid fun W L => by
    have h := Check_any x W HX.out L
    rw [hx, num_bytes, decide_eq_true fa.isLt, ← hx] at h
    exact h
  have K8 : Hid (∀ W, Laid W → Calls Tryd.prog 16 #[.agg (x.map bv).toArray] W fun e w' => e = .returned (.agg ((lims i.val).map nv).toArray) ∧ Below W.heap.size W w') := Lib.hid fun W L => by
    have h := From_any x W HX.out L
    rw [hx, num_bytes, toS_of, ← hx, ← hi] at h
    exact h
  have K9 : Hid (∀ W, Laid W → Calls Tryd.prog 8 #[.agg ((lims a).map nv).toArray, .agg #[.int .u64 0, .int .u64 0, .int .u64 0, .int .u64 0]] W fun e w' => e = .returned (.agg ((lims i.val).map nv).toArray) ∧ Below W.heap.size W w') := Lib.hid fun W L => by
    have h := Add_any a 0 W ha (by decide) L
    simp only [toS_zero', ← hfa] at h
    rw [show fa + 0 = i by grind, ← lit_e0] at h
    exact h
  have M1 : Hid (∀ W, Laid W → Calls Tryd.prog 18 #[.agg ((lims y.val).map nv).toArray] W fun e w' => e = .returned (.agg (u.map bv).toArray) ∧ Below W.heap.size W w') := Lib.hid fun W L => by
    have h := Bytes_any y.val W (Sn.lt_big _) L
    rw [toS_of, ← hu] at h
    exact h
  have M2 : Hid (∀ W, Laid W → Calls Tryd.prog 20 #[.agg (l.map bv).toArray] W fun e w' => e = .returned (.bool ck) ∧ Below W.heap.size W w') := Lib.hid fun W L => by
    rw [hck]
    exact Check_any l W hl L
  have M3 : Hid (∀ W, Laid W → Calls Tryd.prog 14 #[.agg ((cp2 l m 32 32).map bv).toArray] W fun e w' => e = .returned (.agg ((lims s.val).map nv).toArray) ∧ Below W.heap.size W w') := Lib.hid fun W L => by
    have h := Of_any (cp2 l m 32 32) W (cp2_length hl hm (Nat.le_refl _) (Nat.le_refl _)) L
    rw [cp2_full hl hm, toS_add, toS_mul, ← hy, ← hz, ← hp, ← hq, ← hs] at h
    exact h
  have qs := fun x W => eql_same x W
  have gf := fun x y c d W => run_guard_sc x y c d W
  have qb : ∀ W, (binOp .eql 26 (.agg (u.map bv).toArray) (.agg (l.map bv).toArray)).run Tryd.prog W = .ok (.bool ck) W := fun W => by
    have h := run_eql_b u l HU.out HL.out W
    rw [heq] at h
    exact h
  have gb := fun x y c d W => run_guard_b x y c d W
  clear hx hy hz hp hq hs hi hu hck heq hfa ha hl hm L0 hsz0
  have F0 := sb_start w a l m
  rw [fev_eq]
  go_enter Tryd.func5, Tryd.ntmps5
  go_upto_region 1 with (fail)
  generalize ((w.alloc (.cells ((lims a).map nv).toArray 24)).alloc (.cells (l.map bv).toArray 26)).alloc (.cells (m.map bv).toArray 26) = wv at *
  go_upto_region 2 with (first
    | (go_at_call 7
       with_reducible refine (AW.out _ (LK.out _ F0.below)).mono ?_
       rintro e w1 ⟨rfl, hb1⟩
       have F1 := Bs.stay _ _ F0 hb1)
    | fail)
  clear F0 hb1
  have hA := F1.getN (g := w.heap.size) (l := lims a) (by repeat (first | exact List.mem_cons_self .. | refine List.mem_cons_of_mem _ ?_))
  go_upto_region 3 with (first
    | (with_reducible refine wpList_load_n rfl 24 (.tmp 3) rfl w.heap.size rfl (lims a) 4 hA rfl Tryd.underlying24 Tryd.infoSc ?_)
    | (go_at_call 18
       with_reducible refine (K1.out _ (LK.out _ F1.below)).mono ?_
       rintro e w2 ⟨rfl, hb2⟩
       have F2 := Bs.stay _ _ F1 hb2
       have F2a := Bs.stay _ _ F2 ((Below.refl _ w2).alloc (Nat.le_refl _) (.cells zb 26))
       have z2 : HoldsB (w2.alloc (.cells zb 26)) 26 w2.heap.size (List.replicate 32 0) := holdsB_new _ _ _ _ _ rfl rfl)
    | (with_reducible refine wpList_store_b rfl 26 (.tmp 8) (.tmp 16) rfl w2.heap.size x rfl rfl HX.out (List.replicate 32 0) (by with_unfolding_all exact z2) Tryd.infoB32 (by simp) w.heap.size w (by with_unfolding_all exact F2a.below) F2.below.size ?_
       intro w3 H3 o3 s3 b3
       have F3 := Bs.add (by with_unfolding_all exact F2a) F2.len H3 o3 b3
       clear s3)
    | fail)
  have hg2 := F2.len
  clear hA F2a z2 o3 H3 b3 hb2 F1 F2
  generalize w2.heap.size = g8 at *
  have hB := F3.getB (g := w.heap.size + 1) (l := l) (by repeat (first | exact List.mem_cons_self .. | refine List.mem_cons_of_mem _ ?_))
  go_upto_region 4 with (first
    | (with_reducible refine wpList_load_b rfl 26 (.tmp 4) rfl (w.heap.size + 1) rfl l hB HL.out Tryd.underlying26 Tryd.infoB32 ?_)
    | (go_at_call 16
       with_reducible refine (K2.out _ (LK.out _ F3.below)).mono ?_
       rintro e w4 ⟨rfl, hb4⟩
       have F4 := Bs.stay _ _ F3 hb4
       have F4a := Bs.stay _ _ F4 ((Below.refl _ w4).alloc (Nat.le_refl _) (.cells #[.int .u64 0, .int .u64 0, .int .u64 0, .int .u64 0] 24))
       have z4 := zero_new w4)
    | (with_reducible refine wpList_store_n rfl 24 (.tmp 9) (.tmp 18) rfl w4.heap.size (lims y.val) 4 rfl rfl rfl (lims 0) (by with_unfolding_all exact z4) Tryd.infoSc rfl w.heap.size w (by with_unfolding_all exact F4a.below) F4.below.size ?_
       intro w5 H5 o5 s5 b5
       have F5 := Bs.add (by with_unfolding_all exact F4a) F4.len H5 o5 b5
       clear s5)
    | fail)
  have hg4 := F4.len
  clear hB F4a z4 o5 H5 b5 hb4 F3 F4
  generalize w4.heap.size = g9 at *
  have F5a := Bs.stay _ _ F5 ((Below.refl _ w5).alloc (Nat.le_refl _) (.cells zb64 25))
  have z5 : HoldsB (w5.alloc (.cells zb64 25)) 25 w5.heap.size (List.replicate 64 0) := holdsB_new _ _ _ _ _ rfl rfl
  go_upto_region 5 with (first
    | (with_reducible refine wpList_buildTo rfl 25 #[] rfl (some 19) rfl zb64 (by with_unfolding_all exact Tryd.builtB64) ?_)
    | (with_reducible refine wpList_store_bn 64 rfl 25 (.tmp 10) (.tmp 19) rfl w5.heap.size (List.replicate 64 0) (by with_unfolding_all exact rfl) (by with_unfolding_all exact rfl) (by simp) (List.replicate 64 0) (by with_unfolding_all exact z5) Tryd.infoB64 (by simp) w.heap.size w (by with_unfolding_all exact F5a.below) F5.below.size ?_
       intro w6 H6 o6 s6 b6
       have F6 := Bs.add (by with_unfolding_all exact F5a) F5.len H6 o6 b6
       clear s6)
    | fail)
  have hg5 := F5.len
  clear F5a z5 o6 H6 b6 F5
  generalize w5.heap.size = g10 at *
  have F6a := Bs.stay _ _ F6 ((Below.refl _ w6).alloc (Nat.le_refl _) (.cells zb64 25))
  have z6 : HoldsB (w6.alloc (.cells zb64 25)) 25 w6.heap.size (List.replicate 64 0) := holdsB_new _ _ _ _ _ rfl rfl
  go_upto_region 6 with (first
    | (with_reducible refine wpList_buildTo rfl 25 #[] rfl (some 20) rfl zb64 (by with_unfolding_all exact Tryd.builtB64) ?_)
    | (with_reducible refine wpList_store_bn 64 rfl 25 (.tmp 11) (.tmp 20) rfl w6.heap.size (List.replicate 64 0) (by with_unfolding_all exact rfl) (by with_unfolding_all exact rfl) (by simp) (List.replicate 64 0) (by with_unfolding_all exact z6) Tryd.infoB64 (by simp) w.heap.size w (by with_unfolding_all exact F6a.below) F6.below.size ?_
       intro w7 H7 o7 s7 b7
       have F7 := Bs.add (by with_unfolding_all exact F6a) F6.len H7 o7 b7
       clear s7)
    | fail)
  have hg6 := F6.len
  clear F6a z6 o7 H7 b7 F6
  generalize w6.heap.size = g11 at *
  have cP := (F7.getB (g := g11) (l := List.replicate 64 0) (by repeat (first | exact List.mem_cons_self .. | refine List.mem_cons_of_mem _ ?_))).cell (j := 32) (by simp)
  have fP := (F7.getB (g := g11) (l := List.replicate 64 0) (by repeat (first | exact List.mem_cons_self .. | refine List.mem_cons_of_mem _ ?_))).frozen 32
  have F8 : Bs w (g11 + 1) [(g11, 25, (pw64.map bv).toArray), (g10, 25, ((cp2 l m 0 0).map bv).toArray), (g9, 24, ((lims y.val).map nv).toArray), (g8, 26, (x.map bv).toArray), (w.heap.size + 1 + 1, 26, (m.map bv).toArray), (w.heap.size + 1, 26, (l.map bv).toArray), (w.heap.size, 24, ((lims a).map nv).toArray)] (w7.setCell ⟨g11, 32, none⟩ (.int .u8 1)) := F7.byte (by simp; omega) (by omega) 32 1
  have F9 := F8.swap
  go_upto_region 7 with (fail)
  clear F7 cP fP F8
  generalize w7.setCell ⟨g11, 32, none⟩ (.int .u8 1) = w8 at *
  go_wp2
  go_loopw [12] (fun v wr => ∃ k : Nat, k ≤ 32 ∧ v = .int .i64 (k : Int) ∧ Bs w (g11 + 1) [(g10, 25, ((cp2 l m (k) (k)).map bv).toArray), (g11, 25, (pw64.map bv).toArray), (g9, 24, ((lims y.val).map nv).toArray), (g8, 26, (x.map bv).toArray), (w.heap.size + 1 + 1, 26, (m.map bv).toArray), (w.heap.size + 1, 26, (l.map bv).toArray), (w.heap.size, 24, ((lims a).map nv).toArray)] wr)
    (fun v _ => 32 - (intOf v).toNat)
  case atStart => exact ⟨0, Nat.zero_le _, rfl, F9⟩
  case round =>
    clear F9
    obtain ⟨k, hk, rfl, F⟩ := hrel
    by_cases hltk : k < 32
    · have hltk2 : (k : Int) < 32 := by omega
      have hltk3 : (k : Int) < 64 := by omega
      have cB := (F.getB (g := w.heap.size + 1) (l := l) (by repeat (first | exact List.mem_cons_self .. | refine List.mem_cons_of_mem _ ?_))).cell (j := k) (by rw [HL.out]; exact hltk)
      have cX := (F.getB (g := g10) (l := cp2 l m k k) (by repeat (first | exact List.mem_cons_self .. | refine List.mem_cons_of_mem _ ?_))).cell (j := k) (by rw [cp2_length HL.out HM.out hk hk]; omega)
      have fX := (F.getB (g := g10) (l := cp2 l m k k) (by repeat (first | exact List.mem_cons_self .. | refine List.mem_cons_of_mem _ ?_))).frozen k
      have G1 := F.byte (by simp; omega) (by omega) k (l[k]'(by rw [HL.out]; exact hltk))
      rw [cp2_low HL.out hltk] at G1
      generalize l[k]'(by rw [HL.out]; exact hltk) = d at *
      go_upto_region 11 with (fail)
      clear cB cX fX F
      generalize wr.setCell ⟨g10, k, none⟩ (.int .u8 (d.toNat : Int)) = w10 at *
      obtain ⟨kk, hkk⟩ : ∃ kk, kk = 32 + k := ⟨_, rfl⟩
      have e32 : (32 : Int) + (k : Int) = (kk : Int) := by omega
      have wkk : IntKind.i64.wrap (kk : Int) = (kk : Int) := by simp only [IntKind.wrap, IntKind.bits, IntKind.signed]; simp; omega
      have lkk : (kk : Int) < 64 := by omega
      have cC := (G1.getB (g := w.heap.size + 1 + 1) (l := m) (by repeat (first | exact List.mem_cons_self .. | refine List.mem_cons_of_mem _ ?_))).cell (j := k) (by rw [HM.out]; exact hltk)
      obtain ⟨d3, cY⟩ : ∃ d3 : UInt8, w10.cell? ⟨g10, kk, none⟩ = some (.int .u8 (d3.toNat : Int)) := ⟨_, (G1.getB (g := g10) (l := cp2 l m (k + 1) k) (by repeat (first | exact List.mem_cons_self .. | refine List.mem_cons_of_mem _ ?_))).cell (j := kk) (by rw [cp2_length HL.out HM.out hltk hk]; omega)⟩
      have fY := (G1.getB (g := g10) (l := cp2 l m (k + 1) k) (by repeat (first | exact List.mem_cons_self .. | refine List.mem_cons_of_mem _ ?_))).frozen kk
      have G2 := G1.byte (by simp; omega) (by omega) kk (m[k]'(by rw [HM.out]; exact hltk))
      rw [hkk, cp2_high HL.out HM.out hltk hltk, ← hkk] at G2
      generalize m[k]'(by rw [HM.out]; exact hltk) = d2 at *
      have Hkk := Lib.hid hkk
      clear hkk
      go_wp2
      go_roundw
      case rel => exact ⟨k + 1, by omega, by go_num, G2⟩
      case measure => simp [intOf]; omega
    · rw [show (k : Int) = 32 by omega]
      obtain rfl : k = 32 := by omega
      have HP := Lib.hid len_pw
      have HA := Lib.hid (cp2_length HL.out HM.out (Nat.le_refl 32) (Nat.le_refl 32))
      generalize pw64 = pw at *
      generalize cp2 l m 32 32 = al at *
      go_upto_region 12 with (fail)
      go_cut [13] (fun vp wx => ∃ g, vp = .pointer (some ⟨g, 0, none⟩) ∧ Bs w (g + 1) [(g, 24, ((lims s.val).map nv).toArray), (g10, 25, (al.map bv).toArray), (g11, 25, (pw.map bv).toArray), (g9, 24, ((lims y.val).map nv).toArray), (g8, 26, (x.map bv).toArray), (w.heap.size + 1 + 1, 26, (m.map bv).toArray), (w.heap.size + 1, 26, (l.map bv).toArray), (w.heap.size, 24, ((lims a).map nv).toArray)] wx)
      case first =>
        refine wp_region_lex 8 (fun k => k == 7) (MadeSc (g11 + 1)) (Bs w (g11 + 1) [(g10, 25, (al.map bv).toArray), (g11, 25, (pw.map bv).toArray), (g9, 24, ((lims y.val).map nv).toArray), (g8, 26, (x.map bv).toArray), (w.heap.size + 1 + 1, 26, (m.map bv).toArray), (w.heap.size + 1, 26, (l.map bv).toArray), (w.heap.size, 24, ((lims a).map nv).toArray)]) (by kernel_rfl) (by kernel_rfl) F.drew Bs.stay MadeSc.stay (made_sc Bs.size rfl) ?_
        simp only [List.take_succ_cons, List.take_zero, List.drop_succ_cons, List.drop_zero]
        refine lexW_value (v := ?_) (by rfl) (by rfl) (fun W hW => ?_) ?_
        rotate_left
        · have l1 := run_loadSc (hW.getN (g := g9) (l := lims y.val) (by repeat (first | exact List.mem_cons_self .. | refine List.mem_cons_of_mem _ ?_))); go_simp <;> with_reducible rfl
        simp only [Act.put, List.setIfInBounds_toArray, List.set_cons_zero, List.set_cons_succ]
        refine lexW_value (v := ?_) (by rfl) (by rfl) (fun W hW => ?_) ?_
        rotate_left
        · have l1 := run_loadBq (hW.getB (g := g11) (l := pw) (by repeat (first | exact List.mem_cons_self .. | refine List.mem_cons_of_mem _ ?_))) HP.out; go_simp <;> with_reducible rfl
        simp only [Act.put, List.setIfInBounds_toArray, List.set_cons_zero, List.set_cons_succ]
        refine' lexW_call (by rfl) (by rfl) (fun W hW => ?_) (fun W hW => ?_) ?_
        rotate_left 3
        · go_simp <;> first | with_reducible rfl | exact ⟨rfl, rfl⟩
        · with_reducible exact K3.out W (LK.out _ hW.below)
        simp only [Act.put, List.setIfInBounds_toArray, List.set_cons_zero, List.set_cons_succ]
        refine lexW_value (v := ?_) (by rfl) (by rfl) (fun W hW => ?_) ?_
        rotate_left
        · have l1 := run_loadBy (hW.getB (g := w.heap.size + 1 + 1) (l := m) (by repeat (first | exact List.mem_cons_self .. | refine List.mem_cons_of_mem _ ?_))) HM.out; go_simp <;> with_reducible rfl
        simp only [Act.put, List.setIfInBounds_toArray, List.set_cons_zero, List.set_cons_succ]
        refine' lexW_call (by rfl) (by rfl) (fun W hW => ?_) (fun W hW => ?_) ?_
        rotate_left 3
        · go_simp <;> first | with_reducible rfl | exact ⟨rfl, rfl⟩
        · with_reducible exact K4.out W (LK.out _ hW.below)
        simp only [Act.put, List.setIfInBounds_toArray, List.set_cons_zero, List.set_cons_succ]
        refine' lexW_call (by rfl) (by rfl) (fun W hW => ?_) (fun W hW => ?_) ?_
        rotate_left 3
        · go_simp <;> first | with_reducible rfl | exact ⟨rfl, rfl⟩
        · with_reducible exact K5.out W (LK.out _ hW.below)
        simp only [Act.put, List.setIfInBounds_toArray, List.set_cons_zero, List.set_cons_succ]
        refine' lexW_call (by rfl) (by rfl) (fun W hW => ?_) (fun W hW => ?_) ?_
        rotate_left 3
        · go_simp <;> first | with_reducible rfl | exact ⟨rfl, rfl⟩
        · with_reducible exact K6.out W (LK.out _ hW.below)
        simp only [Act.put, List.setIfInBounds_toArray, List.set_cons_zero, List.set_cons_succ]
        refine lexW_free (by rfl) ?_
        refine lexW_nil (fun b8 W8 F8 E8 => ?_)
        obtain ⟨_, ⟨g, rfl, hg, hZ⟩, rfl⟩ := lexEnd_one (j := 7) (d := 13) (by kernel_rfl) E8
        have hp8 := F8.pos
        simp only [Act.put, List.setIfInBounds_toArray, List.set_cons_zero, List.set_cons_succ]
        go_wp2_with (with_reducible refine wpList_store_n rfl 24 (.tmp 13) (.tmp 43) rfl g (lims s.val) 4 rfl rfl rfl (lims 0) hZ Tryd.infoSc rfl w.heap.size w F8.below (by omega) ?_; intro w9 H9 o9 _ b9)
        go_meet
        exact ⟨g, rfl, F8.add hg H9 o9 b9⟩
      case rest =>
        obtain ⟨g13, rfl, F13⟩ := hcut
        clear F
        go_upto_region 13 with (fail)
        refine wp_region_lex 28 (fun _ => false) (fun _ _ _ => True) (Bs w (g13 + 1) [(g13, 24, ((lims s.val).map nv).toArray), (g10, 25, (al.map bv).toArray), (g11, 25, (pw.map bv).toArray), (g9, 24, ((lims y.val).map nv).toArray), (g8, 26, (x.map bv).toArray), (w.heap.size + 1 + 1, 26, (m.map bv).toArray), (w.heap.size + 1, 26, (l.map bv).toArray), (w.heap.size, 24, ((lims a).map nv).toArray)]) (by kernel_rfl) (by kernel_rfl) F13.drew Bs.stay (fun _ _ _ _ _ _ => trivial) lex_none ?_
        simp only [List.take_succ_cons, List.take_zero, List.drop_succ_cons, List.drop_zero]
        refine lexW_value (v := ?_) (by rfl) (by rfl) (fun W hW => ?_) ?_
        rotate_left
        · skip; go_simp <;> with_reducible rfl
        simp only [Act.put, List.setIfInBounds_toArray, List.set_cons_zero, List.set_cons_succ]
        refine lexW_value (v := ?_) (by rfl) (by rfl) (fun W hW => ?_) ?_
        rotate_left
        · skip; go_simp <;> with_reducible rfl
        simp only [Act.put, List.setIfInBounds_toArray, List.set_cons_zero, List.set_cons_succ]
        refine lexW_value (v := ?_) (by rfl) (by rfl) (fun W hW => ?_) ?_
        rotate_left
        · have l1 := run_loadBy (hW.getB (g := g8) (l := x) (by repeat (first | exact List.mem_cons_self .. | refine List.mem_cons_of_mem _ ?_))) HX.out; go_simp <;> with_reducible rfl
        simp only [Act.put, List.setIfInBounds_toArray, List.set_cons_zero, List.set_cons_succ]
        refine' lexW_call (by rfl) (by rfl) (fun W hW => ?_) (fun W hW => ?_) ?_
        rotate_left 3
        · go_simp <;> first | with_reducible rfl | exact ⟨rfl, rfl⟩
        · with_reducible exact K7.out W (LK.out _ hW.below)
        simp only [Act.put, List.setIfInBounds_toArray, List.set_cons_zero, List.set_cons_succ]
        refine lexW_value (v := ?_) (by rfl) (by rfl) (fun W hW => ?_) ?_
        rotate_left
        · skip; go_simp <;> with_reducible rfl
        simp only [Act.put, List.setIfInBounds_toArray, List.set_cons_zero, List.set_cons_succ]
        refine lexW_value (v := ?_) (by rfl) (by rfl) (fun W hW => ?_) ?_
        rotate_left
        · skip; go_simp <;> with_reducible rfl
        simp only [Act.put, List.setIfInBounds_toArray, List.set_cons_zero, List.set_cons_succ]
        refine lexW_value (v := ?_) (by rfl) (by rfl) (fun W hW => ?_) ?_
        rotate_left
        · have l1 := run_loadBy (hW.getB (g := g8) (l := x) (by repeat (first | exact List.mem_cons_self .. | refine List.mem_cons_of_mem _ ?_))) HX.out; go_simp <;> with_reducible rfl
        simp only [Act.put, List.setIfInBounds_toArray, List.set_cons_zero, List.set_cons_succ]
        refine' lexW_call (by rfl) (by rfl) (fun W hW => ?_) (fun W hW => ?_) ?_
        rotate_left 3
        · go_simp <;> first | with_reducible rfl | exact ⟨rfl, rfl⟩
        · with_reducible exact K8.out W (LK.out _ hW.below)
        simp only [Act.put, List.setIfInBounds_toArray, List.set_cons_zero, List.set_cons_succ]
        refine lexW_value (v := ?_) (by rfl) (by rfl) (fun W hW => ?_) ?_
        rotate_left
        · have l1 := run_loadSc (hW.getN (g := w.heap.size) (l := lims a) (by repeat (first | exact List.mem_cons_self .. | refine List.mem_cons_of_mem _ ?_))); go_simp <;> with_reducible rfl
        simp only [Act.put, List.setIfInBounds_toArray, List.set_cons_zero, List.set_cons_succ]
        refine lexW_value (v := ?_) (by rfl) (by rfl) (fun W hW => ?_) ?_
        rotate_left
        · skip; go_simp <;> with_reducible rfl
        simp only [Act.put, List.setIfInBounds_toArray, List.set_cons_zero, List.set_cons_succ]
        refine' lexW_call (by rfl) (by rfl) (fun W hW => ?_) (fun W hW => ?_) ?_
        rotate_left 3
        · go_simp <;> first | with_reducible rfl | exact ⟨rfl, rfl⟩
        · with_reducible exact K9.out W (LK.out _ hW.below)
        simp only [Act.put, List.setIfInBounds_toArray, List.set_cons_zero, List.set_cons_succ]
        refine lexW_value (v := ?_) (by rfl) (by rfl) (fun W hW => ?_) ?_
        rotate_left
        · skip; go_simp <;> with_reducible rfl
        simp only [Act.put, List.setIfInBounds_toArray, List.set_cons_zero, List.set_cons_succ]
        refine lexW_value (v := ?_) (by rfl) (by rfl) (fun W hW => ?_) ?_
        rotate_left
        · skip; go_simp <;> with_reducible rfl
        simp only [Act.put, List.setIfInBounds_toArray, List.set_cons_zero, List.set_cons_succ]
        refine lexW_value (v := ?_) (by rfl) (by rfl) (fun W hW => ?_) ?_
        rotate_left
        · skip; go_simp <;> with_reducible rfl
        simp only [Act.put, List.setIfInBounds_toArray, List.set_cons_zero, List.set_cons_succ]
        refine lexW_value (v := ?_) (by rfl) (by rfl) (fun W hW => ?_) ?_
        rotate_left
        · have l1 := run_loadSc (hW.getN (g := g9) (l := lims y.val) (by repeat (first | exact List.mem_cons_self .. | refine List.mem_cons_of_mem _ ?_))); go_simp <;> with_reducible rfl
        simp only [Act.put, List.setIfInBounds_toArray, List.set_cons_zero, List.set_cons_succ]
        refine' lexW_call (by rfl) (by rfl) (fun W hW => ?_) (fun W hW => ?_) ?_
        rotate_left 3
        · go_simp <;> first | with_reducible rfl | exact ⟨rfl, rfl⟩
        · with_reducible exact M1.out W (LK.out _ hW.below)
        simp only [Act.put, List.setIfInBounds_toArray, List.set_cons_zero, List.set_cons_succ]
        refine lexW_value (v := ?_) (by rfl) (by rfl) (fun W hW => ?_) ?_
        rotate_left
        · have l1 := run_loadBy (hW.getB (g := w.heap.size + 1) (l := l) (by repeat (first | exact List.mem_cons_self .. | refine List.mem_cons_of_mem _ ?_))) HL.out; go_simp <;> with_reducible rfl
        simp only [Act.put, List.setIfInBounds_toArray, List.set_cons_zero, List.set_cons_succ]
        refine lexW_value (v := ?_) (by rfl) (by rfl) (fun W hW => ?_) ?_
        rotate_left
        · skip; go_simp <;> with_reducible rfl
        simp only [Act.put, List.setIfInBounds_toArray, List.set_cons_zero, List.set_cons_succ]
        refine lexW_value (v := ?_) (by rfl) (by rfl) (fun W hW => ?_) ?_
        rotate_left
        · have l1 := run_loadBy (hW.getB (g := w.heap.size + 1) (l := l) (by repeat (first | exact List.mem_cons_self .. | refine List.mem_cons_of_mem _ ?_))) HL.out; go_simp <;> with_reducible rfl
        simp only [Act.put, List.setIfInBounds_toArray, List.set_cons_zero, List.set_cons_succ]
        refine' lexW_call (by rfl) (by rfl) (fun W hW => ?_) (fun W hW => ?_) ?_
        rotate_left 3
        · go_simp <;> first | with_reducible rfl | exact ⟨rfl, rfl⟩
        · with_reducible exact M2.out W (LK.out _ hW.below)
        simp only [Act.put, List.setIfInBounds_toArray, List.set_cons_zero, List.set_cons_succ]
        refine lexW_value (v := ?_) (by rfl) (by rfl) (fun W hW => ?_) ?_
        rotate_left
        · skip; go_simp <;> with_reducible rfl
        simp only [Act.put, List.setIfInBounds_toArray, List.set_cons_zero, List.set_cons_succ]
        refine lexW_value (v := ?_) (by rfl) (by rfl) (fun W hW => ?_) ?_
        rotate_left
        · skip; go_simp <;> with_reducible rfl
        simp only [Act.put, List.setIfInBounds_toArray, List.set_cons_zero, List.set_cons_succ]
        refine lexW_value (v := ?_) (by rfl) (by rfl) (fun W hW => ?_) ?_
        rotate_left
        · skip; go_simp <;> with_reducible rfl
        simp only [Act.put, List.setIfInBounds_toArray, List.set_cons_zero, List.set_cons_succ]
        refine lexW_value (v := ?_) (by rfl) (by rfl) (fun W hW => ?_) ?_
        rotate_left
        · have l1 := run_loadBq (hW.getB (g := g10) (l := al) (by repeat (first | exact List.mem_cons_self .. | refine List.mem_cons_of_mem _ ?_))) HA.out; go_simp <;> with_reducible rfl
        simp only [Act.put, List.setIfInBounds_toArray, List.set_cons_zero, List.set_cons_succ]
        refine' lexW_call (by rfl) (by rfl) (fun W hW => ?_) (fun W hW => ?_) ?_
        rotate_left 3
        · go_simp <;> first | with_reducible rfl | exact ⟨rfl, rfl⟩
        · with_reducible exact M3.out W (LK.out _ hW.below)
        simp only [Act.put, List.setIfInBounds_toArray, List.set_cons_zero, List.set_cons_succ]
        refine lexW_value (v := ?_) (by rfl) (by rfl) (fun W hW => ?_) ?_
        rotate_left
        · have l1 := run_loadSc (hW.getN (g := g13) (l := lims s.val) (by repeat (first | exact List.mem_cons_self .. | refine List.mem_cons_of_mem _ ?_))); go_simp <;> with_reducible rfl
        simp only [Act.put, List.setIfInBounds_toArray, List.set_cons_zero, List.set_cons_succ]
        refine lexW_value (v := ?_) (by rfl) (by rfl) (fun W hW => ?_) ?_
        rotate_left
        · skip; go_simp <;> with_reducible rfl
        simp only [Act.put, List.setIfInBounds_toArray, List.set_cons_zero, List.set_cons_succ]
        refine lexW_value (v := ?_) (by rfl) (by rfl) (fun W hW => ?_) ?_
        rotate_left
        · skip; go_simp <;> with_reducible rfl
        simp only [Act.put, List.setIfInBounds_toArray, List.set_cons_zero, List.set_cons_succ]
        refine lexW_nil (fun b14 W14 F14 E14 => ?_)
        obtain rfl := lexEnd_none E14
        go_wp2
        go_ret
        exact ⟨rfl, F14.below⟩
end
end Go.Proofs.YthhcjknkmdaeeaaDoor
