/-
  The program's numbers modulo P: what a number is multiplied by to be 1.
  The document's numbers modulo P: whether two are one; whether one is odd.
  Arrays of thirty-two bytes, in the program's table of types.
  The document's numbers modulo P: the number that bytes are; a number's bytes.
  The program's numbers modulo P: the number that bytes are; a number's bytes; a small number; which are one; which are odd.
  The document's numbers modulo P: a root of a quotient, its first steps.
  The program's numbers modulo P: a small number; which are one; which are odd.
  math/bits.Add64, Sub64, Mul64, and what the program makes of them: a product, and both other numbers, added.
  The document's numbers modulo L: sums.
  The document's numbers modulo L: what is below 0, differences.
  The document's numbers modulo L: products.
  The document's numbers modulo L: the number that 64 bytes are, that 32 bytes are.
  The document's numbers modulo L: the number that 32 bytes are; a number's bytes.
  The document's numbers modulo L: is the number that 32 bytes are below L?
-/
import Derived.Deep.CutBlock
import Derived.Deep.DeepCutAuto
import Derived.Laws.Externs
import Derived.Shelf.Bits.Mul64
import Derived.Test.YthaheekjmofgnaaDoorMag
import Derived.Test.YthaheekjmofgnaaDoorMah
import Derived.Test.YthaheekjmofgnaaDoorMai
import Derived.Test.YthaheekjmofgnaaDoorMal
import Derived.Test.YthaheekjmofgnaaDoorMao
import Derived.Test.YthaheekjmofgnaaDoorMaq
namespace Go.Proofs.YthaheekjmofgnaaDoor
open Go.RowKit

theorem inv_pow (a : F) : fpow (fpow a (2 ^ 250 - 1)) (2 ^ 5) * (fpow a (2 ^ 3) * (fpow a (2 ^ 1) * a)) = finv a := by
  rw [← fpow_mul, ← fpow_succ, ← fpow_add, ← fpow_add]
  unfold finv
  congr 1

section
attribute [local go_sem ↓] load_fe

set_option maxRecDepth 100000 in
set_option maxHeartbeats 1000000 in
theorem Inv_any (m : Nat) (w : World) (hm : m < big) :
    Calls Tryd.prog 61 #[fev m] w (GaveF w (finv (toF m)).val) := by
  obtain ⟨hA, hC, hb, hsz⟩ := fe_start2 w m 0 _ #[.int .u64 0, .int .u64 0, .int .u64 0, .int .u64 0] rfl (by kernel_rfl)
  obtain ⟨s3, h3⟩ : ∃ s, s = sqd m 3 := ⟨_, rfl⟩
  obtain ⟨s1, h1⟩ : ∃ s, s = sqd m 1 := ⟨_, rfl⟩
  have C3 : Hid (∀ W, Calls Tryd.prog 72 #[.agg ((lims m).map nv).toArray, .int .i64 3] W fun e w' => e = .returned (.agg ((lims s3).map nv).toArray) ∧ Below W.heap.size W w') := Lib.hid fun W => by rw [h3]; exact squared_any m 3 W hm (by omega)
  have C1 : Hid (∀ W, Calls Tryd.prog 72 #[.agg ((lims m).map nv).toArray, .int .i64 1] W fun e w' => e = .returned (.agg ((lims s1).map nv).toArray) ∧ Below W.heap.size W w') := Lib.hid fun W => by rw [h1]; exact squared_any m 1 W hm (by omega)
  obtain ⟨p, hp⟩ : ∃ p, p = toF s1 * toF m := ⟨_, rfl⟩
  obtain ⟨q, hq⟩ : ∃ q, q = toF s3 * p := ⟨_, rfl⟩
  have M1 : Hid (∀ W, Calls Tryd.prog 30 #[.agg ((lims s1).map nv).toArray, .agg ((lims m).map nv).toArray] W fun e w' => e = .returned (.agg ((lims p.val).map nv).toArray) ∧ Below W.heap.size W w') := Lib.hid fun W => by rw [hp]; exact Mul_any s1 m W (by rw [h1]; exact sqd_lt hm _) hm
  have M2 : Hid (∀ W, Calls Tryd.prog 30 #[.agg ((lims s3).map nv).toArray, .agg ((lims p.val).map nv).toArray] W fun e w' => e = .returned (.agg ((lims q.val).map nv).toArray) ∧ Below W.heap.size W w') := Lib.hid fun W => by
    have := Mul_any s3 p.val W (by rw [h3]; exact sqd_lt hm _) (F.lt_big _)
    rw [toF_of, ← hq] at this
    exact this
  obtain ⟨o, ho⟩ : ∃ o, o = onesv m 250 := ⟨_, rfl⟩
  obtain ⟨s5, h5⟩ : ∃ s, s = sqd o 5 := ⟨_, rfl⟩
  obtain ⟨r, hr⟩ : ∃ r, r = finv (toF m) := ⟨_, rfl⟩
  have hob : o < big := by rw [ho]; exact onesv_lt hm _
  have CO : Hid (∀ W, Calls Tryd.prog 73 #[.agg ((lims m).map nv).toArray, .int .i64 250] W fun e w' => e = .returned (.agg ((lims o).map nv).toArray) ∧ Below W.heap.size W w') := Lib.hid fun W => by rw [ho]; exact ones_any m hm 250 W (by omega) (by omega)
  have C5 : Hid (∀ W, Calls Tryd.prog 72 #[.agg ((lims o).map nv).toArray, .int .i64 5] W fun e w' => e = .returned (.agg ((lims s5).map nv).toArray) ∧ Below W.heap.size W w') := Lib.hid fun W => by rw [h5]; exact squared_any o 5 W hob (by omega)
  have M5 : Hid (∀ W, Calls Tryd.prog 30 #[.agg ((lims s5).map nv).toArray, .agg ((lims q.val).map nv).toArray] W fun e w' => e = .returned (.agg ((lims r.val).map nv).toArray) ∧ Below W.heap.size W w') := Lib.hid fun W => by
    have := Mul_any s5 q.val W (by rw [h5]; exact sqd_lt hob _) (F.lt_big _)
    have e : toF s5 * q = r := by
      rw [h5, toF_sqd, ho, toF_onesv, hq, hp, h3, h1, toF_sqd, toF_sqd, hr, inv_pow]
    rw [toF_of, e] at this
    exact this
  rw [← hr]
  clear h3 h1 hp hq ho h5 hr hob
  rw [fev_eq]
  have F0 : Fe1 w m _ := ⟨hA, hC, hb⟩
  clear hA hC hb hsz
  go_enter Tryd.func61, Tryd.ntmps61
  go_upto_region 1 with (fail)
  generalize (w.alloc (.cells ((lims m).map nv).toArray 24)).alloc (.cells #[.int .u64 0, .int .u64 0, .int .u64 0, .int .u64 0] 24) = wv at *
  go_cut [3] (fun vp wx => InBlock (w.heap.size + 2) q.val (Fe1 w m) vp wx)
  case first =>
    refine wp_region_lex 8 (fun k => k == 7) (MadeFe (w.heap.size + 2)) (Fe1 w m) (by kernel_rfl) (by kernel_rfl) (Fe1.stay _ _ F0 (Below.refl _ wv).drew) Fe1.stay MadeFe.stay (made_fe Fe1.size rfl) ?_
    simp only [List.take_succ_cons, List.take_zero, List.drop_succ_cons, List.drop_zero]
    refine lexW_value (v := ?_) (by rfl) (by rfl) (fun W hW => ?_) ?_
    rotate_left
    · have l1 := run_loadFe hW.a; go_simp <;> with_reducible rfl
    simp only [Act.put, List.setIfInBounds_toArray, List.set_cons_zero, List.set_cons_succ]
    refine' lexW_call (by rfl) (by rfl) (fun W hW => ?_) (fun W hW => ?_) ?_
    rotate_left 3
    · go_simp <;> first | with_reducible rfl | exact ⟨rfl, rfl⟩
    · with_reducible exact C3.out W
    simp only [Act.put, List.setIfInBounds_toArray, List.set_cons_zero, List.set_cons_succ]
    refine lexW_value (v := ?_) (by rfl) (by rfl) (fun W hW => ?_) ?_
    rotate_left
    · have l1 := run_loadFe hW.a; go_simp <;> with_reducible rfl
    simp only [Act.put, List.setIfInBounds_toArray, List.set_cons_zero, List.set_cons_succ]
    refine' lexW_call (by rfl) (by rfl) (fun W hW => ?_) (fun W hW => ?_) ?_
    rotate_left 3
    · go_simp <;> first | with_reducible rfl | exact ⟨rfl, rfl⟩
    · with_reducible exact C1.out W
    simp only [Act.put, List.setIfInBounds_toArray, List.set_cons_zero, List.set_cons_succ]
    refine lexW_value (v := ?_) (by rfl) (by rfl) (fun W hW => ?_) ?_
    rotate_left
    · have l1 := run_loadFe hW.a; go_simp <;> with_reducible rfl
    simp only [Act.put, List.setIfInBounds_toArray, List.set_cons_zero, List.set_cons_succ]
    refine' lexW_call (by rfl) (by rfl) (fun W hW => ?_) (fun W hW => ?_) ?_
    rotate_left 3
    · go_simp <;> first | with_reducible rfl | exact ⟨rfl, rfl⟩
    · with_reducible exact M1.out W
    simp only [Act.put, List.setIfInBounds_toArray, List.set_cons_zero, List.set_cons_succ]
    refine' lexW_call (by rfl) (by rfl) (fun W hW => ?_) (fun W hW => ?_) ?_
    rotate_left 3
    · go_simp <;> first | with_reducible rfl | exact ⟨rfl, rfl⟩
    · with_reducible exact M2.out W
    simp only [Act.put, List.setIfInBounds_toArray, List.set_cons_zero, List.set_cons_succ]
    refine lexW_free (by rfl) ?_
    refine lexW_nil (fun b W hW hE => ?_)
    obtain ⟨_, ⟨g, rfl, hg, hZ⟩, rfl⟩ := lexEnd_one (j := 7) (d := 3) (by kernel_rfl) hE
    simp only [Act.put, List.setIfInBounds_toArray, List.set_cons_zero, List.set_cons_succ]
    go_wp2_with (with_reducible refine wpList_store_n rfl 24 (.tmp 3) (.tmp 10) rfl g (lims q.val) 4 rfl rfl rfl (lims 0) hZ Tryd.infoFe rfl w.heap.size w hW.d (by omega) ?_; intro w7 Hg o7 _ hb7)
    go_meet
    exact ⟨g, rfl, hg, Hg, hW.oth o7 hb7 hg⟩
  case rest =>
    obtain ⟨g, rfl, hg, HQ, F1⟩ := hcut
    have F7 : Fe2 w m g q.val wc := ⟨F1, HQ⟩
    go_upto_region 2 with (fail)
    refine wp_region_lex 5 (fun _ => false) (MadeFe 0) (Fe2 w m g q.val) (by kernel_rfl) (by kernel_rfl) (Fe2.stay _ _ F7 (Below.refl _ wc).drew) Fe2.stay MadeFe.stay lex_none ?_
    simp only [List.take_succ_cons, List.take_zero, List.drop_succ_cons, List.drop_zero]
    refine lexW_value (v := ?_) (by rfl) (by rfl) (fun W hW => ?_) ?_
    rotate_left
    · have l1 := run_loadFe hW.f.a; go_simp <;> with_reducible rfl
    simp only [Act.put, List.setIfInBounds_toArray, List.set_cons_zero, List.set_cons_succ]
    refine' lexW_call (by rfl) (by rfl) (fun W hW => ?_) (fun W hW => ?_) ?_
    rotate_left 3
    · go_simp <;> first | with_reducible rfl | exact ⟨rfl, rfl⟩
    · with_reducible exact CO.out W
    simp only [Act.put, List.setIfInBounds_toArray, List.set_cons_zero, List.set_cons_succ]
    refine' lexW_call (by rfl) (by rfl) (fun W hW => ?_) (fun W hW => ?_) ?_
    rotate_left 3
    · go_simp <;> first | with_reducible rfl | exact ⟨rfl, rfl⟩
    · with_reducible exact C5.out W
    simp only [Act.put, List.setIfInBounds_toArray, List.set_cons_zero, List.set_cons_succ]
    refine lexW_value (v := ?_) (by rfl) (by rfl) (fun W hW => ?_) ?_
    rotate_left
    · have l1 := run_loadFe hW.h; go_simp <;> with_reducible rfl
    simp only [Act.put, List.setIfInBounds_toArray, List.set_cons_zero, List.set_cons_succ]
    refine' lexW_call (by rfl) (by rfl) (fun W hW => ?_) (fun W hW => ?_) ?_
    rotate_left 3
    · go_simp <;> first | with_reducible rfl | exact ⟨rfl, rfl⟩
    · with_reducible exact M5.out W
    simp only [Act.put, List.setIfInBounds_toArray, List.set_cons_zero, List.set_cons_succ]
    refine lexW_nil (fun b W hW hE => ?_)
    obtain rfl := lexEnd_none hE
    go_wp2_with (with_reducible refine wpList_store_n rfl 24 (.tmp 2) (.tmp 15) rfl (w.heap.size + 1) (lims r.val) 4 rfl rfl rfl (lims 0) hW.f.c Tryd.infoFe rfl w.heap.size w hW.f.d (by omega) ?_; intro w8 Hg _ _ hb8)
    exact bodyPost_ret (results_cell_row rfl _ _ _ _ _ _ _ rfl Hg Tryd.underlying24 rfl (by rw [Tryd.infoFe]; rfl)) rfl ⟨rfl, hb8⟩
end
end Go.Proofs.YthaheekjmofgnaaDoor

namespace Go.Proofs.YthaheekjmofgnaaDoor
open Go.RowKit

section
attribute [local go_sem ↓] load_fe
end

theorem odd_val (a : F) : decide (limb a.val 0 % 2 = 1) = fodd a := by
  unfold fodd limb
  rw [Nat.pow_zero, Nat.div_one]
  congr 1
  have : a.val % 18446744073709551616 % 2 = a.val % 2 := by omega
  rw [this]

end Go.Proofs.YthaheekjmofgnaaDoor

namespace Go.Proofs.YthaheekjmofgnaaDoor
open Go.RowKit
theorem Tryd.infoB32 : (Tryd.prog.info? 52).map (·.size) = some 32 := by kernel_rfl
theorem Tryd.builtB32 : Tryd.prog.built 52 [] = some zb := by kernel_rfl
end Go.Proofs.YthaheekjmofgnaaDoor

namespace Go.Proofs.YthaheekjmofgnaaDoor
open Go.RowKit

theorem of_start (w : World) (l : List UInt8) (c1 c2 c3 : Array Value) (h1 : c1 = (l.map bv).toArray) (h2 : c2 = ((lims 0).map nv).toArray) (h3 : c3 = ((lims 0).map nv).toArray) :
    HoldsB (((w.alloc (.cells c1 52)).alloc (.cells c2 24)).alloc (.cells c3 24)) 52 w.heap.size l ∧ HoldsN (((w.alloc (.cells c1 52)).alloc (.cells c2 24)).alloc (.cells c3 24)) 24 (w.heap.size + 1) (lims 0) ∧
    HoldsN (((w.alloc (.cells c1 52)).alloc (.cells c2 24)).alloc (.cells c3 24)) 24 (w.heap.size + 2) (lims 0) ∧ Below w.heap.size w (((w.alloc (.cells c1 52)).alloc (.cells c2 24)).alloc (.cells c3 24)) := by
  have e1 : (w.alloc (.cells c1 52)).heap.size = w.heap.size + 1 := World.size_alloc ..
  have e2 : ((w.alloc (.cells c1 52)).alloc (.cells c2 24)).heap.size = w.heap.size + 2 := by rw [World.size_alloc, e1]
  exact ⟨((holdsB_new w _ _ c1 l rfl h1).alloc _).alloc _, (holdsN_new _ _ _ c2 _ e1.symm h2).alloc _, holdsN_new _ _ _ c3 _ e2.symm h3, (((Below.refl _ w).alloc (Nat.le_refl _) _).alloc (by omega) _).alloc (by omega) _⟩

theorem bytes_start (w : World) (m : Nat) (c1 c2 : Array Value) (h1 : c1 = ((lims m).map nv).toArray) (h2 : c2 = zb) :
    HoldsN ((w.alloc (.cells c1 24)).alloc (.cells c2 52)) 24 w.heap.size (lims m) ∧ HoldsB ((w.alloc (.cells c1 24)).alloc (.cells c2 52)) 52 (w.heap.size + 1) (List.replicate 32 0) ∧ Below w.heap.size w ((w.alloc (.cells c1 24)).alloc (.cells c2 52)) := by
  obtain ⟨a, b, e⟩ := fe_start w m c1 h1
  exact ⟨a.alloc _, holdsB_new _ _ _ _ _ e.symm h2, b.alloc (by omega) _⟩

end Go.Proofs.YthaheekjmofgnaaDoor

namespace Go.Proofs.YthaheekjmofgnaaDoor
open Go.RowKit

theorem Tryd.plainU8 : Tryd.prog.plainKey 5 = true := by kernel_rfl
theorem Tryd.cellsU8 : Tryd.prog.cellsOf 5 = 1 := by kernel_rfl
theorem Tryd.infoU8 : (Tryd.prog.info? 5).map (fun i => (i.zero, i.size, i.bytes)) = some (some (.int .u8 0), 1, 1) := by kernel_rfl
theorem run_index_b (l : List UInt8) (k : Nat) (w : World) (hk : k < l.length) (hl : l.length = 32) : (Instr.index 52 (.agg (l.map bv).toArray) (.int .i64 (k : Int))).run Tryd.prog w = .ok (.int .u8 (l[k].toNat : Int)) w := by
  have h2 : k < 32 := by omega
  have h3 : l[k]? = some l[k] := List.getElem?_eq_getElem hk
  simp [Instr.index, run_underlying Tryd.underlying52, asIntOf, go_sem, h2, h3, bv]

end Go.Proofs.YthaheekjmofgnaaDoor

namespace Go.Proofs.YthaheekjmofgnaaDoor
open Go.RowKit

section
attribute [local go_sem ↓] load_fe

/-- The blocks that a root's call begins with. -/
structure RB (w : World) (m n : Nat) (W : World) : Prop where
  a : HoldsN W 24 w.heap.size (lims m)
  b : HoldsN W 24 (w.heap.size + 1) (lims n)
  c : HoldsN W 24 (w.heap.size + 2) (lims 0)
  d : Below w.heap.size w W
theorem RB.size {w W : World} {m n : Nat} (h : RB w m n W) : w.heap.size + 3 ≤ W.heap.size := h.c.lt
theorem RB.drew {w W : World} {m n : Nat} (h : RB w m n W) : RB w m n W.drew := ⟨h.a, h.b, h.c, h.d.drew⟩
theorem RB.alloc {w W : World} {m n : Nat} (h : RB w m n W) (o : Obj) : RB w m n (W.alloc o) := ⟨h.a.alloc o, h.b.alloc o, h.c.alloc o, h.d.alloc h.d.size o⟩
theorem RB.keep {w W W' : World} {m n : Nat} (h : RB w m n W) (hb : Below W.heap.size W W') : RB w m n W' := ⟨h.a.keep hb h.a.lt, h.b.keep hb h.b.lt, h.c.keep hb h.c.lt, h.d.trans (hb.mono h.d.size)⟩
theorem RB.oth {w W W' : World} {m n g : Nat} (h : RB w m n W) (ho : ∀ k, k ≠ g → W'.heap[k]? = W.heap[k]?) (hb : Below w.heap.size w W') (hg : w.heap.size + 3 ≤ g) : RB w m n W' := ⟨h.a.oth ho (by omega), h.b.oth ho (by omega), h.c.oth ho (by omega), hb⟩

/-- What the first region leaves: the quotient, in a block of its own. -/
def Quot (w : World) (m n q : Nat) (vp : Value) (wx : World) : Prop := ∃ g, vp = .pointer (some ⟨g, 0, none⟩) ∧ w.heap.size + 3 ≤ g ∧ HoldsN wx 24 g (lims q) ∧ RB w m n wx

theorem zero_new (W : World) : HoldsN (W.alloc (.cells #[.int .u64 0, .int .u64 0, .int .u64 0, .int .u64 0] 24)) 24 W.heap.size (lims 0) := holdsN_new W _ _ _ _ rfl (by kernel_rfl)

theorem results_cell_slot {P : Program} {fn : Func} {p q : Tmp} {ty : TypeId} (h : fn.results = #[.cell p ty, .tmp q]) (tmps : Array Value) (w : World) (g : Nat) (t : TypeId) (cs : Array Value) (fr : Nat × Nat) (d : TypeDesc)
    (hp : tmps.getD p undef = .pointer (some ⟨g, 0, none⟩)) (hg : w.heap[g]? = some (.cells cs t fr))
    (hu : P.underlying ty = some d) (hd : (match d with | .struct _ | .array _ _ => true | _ => false) = true) (hi : (P.info? ty).map (·.size) = some cs.size) :
    (results fn tmps).run P w = .ok (.tuple #[.agg cs, tmps.getD q undef]) w := by
  have hp' : tmps[p]?.getD undef = .pointer (some ⟨g, 0, none⟩) := by simpa using hp
  simp [results, h, hp', asAddr, run_loadVar_row w g t ty cs fr d hg hu hd hi]

/-- What is tried in turn. -/
def xs (x i : F) : Nat → F
  | 0 => x
  | k + 1 => xs x i k * i
def failed (x i u v : F) (k : Nat) : Prop := (1 ≤ k → v * (x * x) ≠ u) ∧ (2 ≤ k → v * ((x * i) * (x * i)) ≠ u)
theorem rootAt_hit {x i u v : F} : ∀ {k : Nat}, k < 2 → failed x i u v k → v * (xs x i k * xs x i k) = u → rootAt i x u v = (even (xs x i k), true)
  | 0, _, _, h => by unfold rootAt; exact if_pos h
  | 1, _, hf, h => by unfold rootAt; rw [if_neg (hf.1 (Nat.le_refl _))]; exact if_pos h
theorem rootAt_miss {x i u v : F} (h : failed x i u v 2) : rootAt i x u v = (0, false) := by
  unfold rootAt; rw [if_neg (h.1 (by omega)), if_neg (h.2 (Nat.le_refl _))]
theorem failed_zero (x i u v : F) : failed x i u v 0 := ⟨fun h => by omega, fun h => by omega⟩
theorem failed_succ {x i u v : F} : ∀ {k : Nat}, k < 2 → failed x i u v k → v * (xs x i k * xs x i k) ≠ u → failed x i u v (k + 1)
  | 0, _, _, h => ⟨fun _ => h, fun h => by omega⟩
  | 1, _, hf, h => ⟨fun _ => hf.1 (Nat.le_refl _), fun _ => h⟩

end
end Go.Proofs.YthaheekjmofgnaaDoor

namespace Go.Proofs.YthaheekjmofgnaaDoor
open Go.RowKit

theorem RB.stay {w : World} {m n : Nat} : ∀ W W', RB w m n W → Below W.heap.size W W' → RB w m n W' := fun _ _ h hb => h.keep hb
theorem below_zero (m : Nat) (w : World) (hm : m < big) :
    Calls Tryd.prog 53 #[.agg ((lims m).map nv).toArray, .int .u64 0] w fun e w' => e = .returned (.agg ((lims (toF m).val).map nv).toArray) ∧ Below w.heap.size w w' := by
  have := below_any m 0 w hm (by omega)
  rw [Nat.zero_mul, Nat.add_zero] at this
  exact this
theorem small_fev {n : Nat} (hn : n < 18446744073709551616) : Value.agg #[.int .u64 (n : Int), .int .u64 0, .int .u64 0, .int .u64 0] = fev n := by
  have h0 : limb n 0 = n := by unfold limb; omega
  have h1 : limb n 1 = 0 := by unfold limb; omega
  have h2 : limb n 2 = 0 := limb_of_lt (by have : (18446744073709551616 : Nat) ^ 2 = 340282366920938463463374607431768211456 := by decide
                                           omega)
  have h3 : limb n 3 = 0 := limb_of_lt (by have : (18446744073709551616 : Nat) ^ 3 = 6277101735386680763835789423207666416102355444464034512896 := by decide
                                           omega)
  unfold fev
  rw [h0, h1, h2, h3]
  rfl

set_option maxRecDepth 100000 in
set_option maxHeartbeats 1000000 in
theorem Small_any (n : Nat) (w : World) (hn : n < 18446744073709551616) :
    Calls Tryd.prog 33 #[.int .u64 (n : Int)] w (GaveF w n) := by
  obtain ⟨hA, hb, hsz⟩ := fe_start w 0 #[.int .u64 0, .int .u64 0, .int .u64 0, .int .u64 0] (by kernel_rfl)
  have hv : Value.agg #[.int .u64 (n : Int), .int .u64 0, .int .u64 0, .int .u64 0] = .agg ((lims n).map nv).toArray := small_fev hn
  have HV := Lib.hid hv
  clear hv
  go_enter Tryd.func33, Tryd.ntmps33
  go_wp2_with (first
    | (with_reducible refine wpList_store_n rfl 24 (.tmp 2) (.tmp 4) rfl w.heap.size (lims n) 4 rfl (by with_unfolding_all exact HV.out) rfl (lims 0) (by with_unfolding_all exact hA) Tryd.infoFe rfl w.heap.size w (by with_unfolding_all exact hb) (Nat.le_refl _) ?_; intro w7 Hg _ _ hb7)
    | fail)
  exact bodyPost_ret (results_cell_row rfl _ _ _ _ _ _ _ rfl Hg Tryd.underlying24 rfl (by rw [Tryd.infoFe]; rfl)) rfl ⟨rfl, hb7⟩

/-- The blocks of a call of two numbers. -/
structure FeAB (w : World) (m n : Nat) (W : World) : Prop where
  a : HoldsN W 24 w.heap.size (lims m)
  b : HoldsN W 24 (w.heap.size + 1) (lims n)
  d : Below w.heap.size w W
theorem FeAB.stay {w : World} {m n : Nat} : ∀ W W', FeAB w m n W → Below W.heap.size W W' → FeAB w m n W' := fun _ _ h hb => ⟨h.a.keep hb h.a.lt, h.b.keep hb h.b.lt, h.d.trans (hb.mono h.d.size)⟩

section
attribute [local go_sem ↓] load_fe

set_option maxRecDepth 100000 in
set_option maxHeartbeats 1000000 in
theorem Same_any (m n : Nat) (w : World) (hm : m < big) (hn : n < big) :
    Calls Tryd.prog 26 #[fev m, fev n] w fun e w' => e = .returned (.bool (decide (toF m = toF n))) ∧ Below w.heap.size w w' := by
  obtain ⟨hA, hB, hb, hsz⟩ := fe_start2 w m n _ _ rfl rfl
  have F0 : FeAB w m n _ := ⟨hA, hB, hb⟩
  clear hA hB hb hsz
  have LM : Hid (∀ W, Calls Tryd.prog 53 #[.agg ((lims m).map nv).toArray, .int .u64 0] W fun e w' => e = .returned (.agg ((lims (toF m).val).map nv).toArray) ∧ Below W.heap.size W w') := Lib.hid fun W => below_zero m W hm
  have LN : Hid (∀ W, Calls Tryd.prog 53 #[.agg ((lims n).map nv).toArray, .int .u64 0] W fun e w' => e = .returned (.agg ((lims (toF n).val).map nv).toArray) ∧ Below W.heap.size W w') := Lib.hid fun W => below_zero n W hn
  rw [fev_eq, fev_eq]
  generalize toF m = a at *
  generalize toF n = b at *
  have q1 := fun W => run_eql_F a b W
  have q2 := fun x y c d W => run_guard_fe x y c d W
  generalize decide (a = b) = res at *
  go_enter Tryd.func26, Tryd.ntmps26
  go_upto_region 1 with (fail)
  generalize (w.alloc (.cells ((lims m).map nv).toArray 24)).alloc (.cells ((lims n).map nv).toArray 24) = wv at *
  refine wp_region_lex 5 (fun _ => false) (MadeFe 0) (FeAB w m n) (by kernel_rfl) (by kernel_rfl) (FeAB.stay _ _ F0 (Below.refl _ wv).drew) FeAB.stay MadeFe.stay lex_none ?_
  simp only [List.take_succ_cons, List.take_zero, List.drop_succ_cons, List.drop_zero]
  refine lexW_value (v := ?_) (by rfl) (by rfl) (fun W hW => ?_) ?_
  rotate_left
  · have l1 := run_loadFe hW.a; go_simp <;> with_reducible rfl
  simp only [Act.put, List.setIfInBounds_toArray, List.set_cons_zero, List.set_cons_succ]
  refine' lexW_call (by rfl) (by rfl) (fun W hW => ?_) (fun W hW => ?_) ?_
  rotate_left 3
  · go_simp <;> first | with_reducible rfl | exact ⟨rfl, rfl⟩
  · with_reducible exact LM.out W
  simp only [Act.put, List.setIfInBounds_toArray, List.set_cons_zero, List.set_cons_succ]
  refine lexW_value (v := ?_) (by rfl) (by rfl) (fun W hW => ?_) ?_
  rotate_left
  · have l1 := run_loadFe hW.b; go_simp <;> with_reducible rfl
  simp only [Act.put, List.setIfInBounds_toArray, List.set_cons_zero, List.set_cons_succ]
  refine' lexW_call (by rfl) (by rfl) (fun W hW => ?_) (fun W hW => ?_) ?_
  rotate_left 3
  · go_simp <;> first | with_reducible rfl | exact ⟨rfl, rfl⟩
  · with_reducible exact LN.out W
  simp only [Act.put, List.setIfInBounds_toArray, List.set_cons_zero, List.set_cons_succ]
  refine lexW_value (v := ?_) (by rfl) (by rfl) (fun W hW => ?_) ?_
  rotate_left
  · skip; go_simp <;> with_reducible rfl
  simp only [Act.put, List.setIfInBounds_toArray, List.set_cons_zero, List.set_cons_succ]
  refine lexW_nil (fun b W hW hE => ?_)
  obtain rfl := lexEnd_none hE
  go_wp2
  go_ret
  exact ⟨rfl, hW.d⟩
end

end Go.Proofs.YthaheekjmofgnaaDoor

namespace Go.Proofs.YthaheekjmofgnaaDoor

open Go.RowKit
namespace Sca

theorem run_Add64 (x y c : Nat) (hc : c ≤ 1) (w : World) :
    (callFunc 50 #[.int .u64 (x : Int), .int .u64 (y : Int), .int .u64 (c : Int)]).run Tryd.prog w =
      .ok (.value (.tuple #[.int .u64 (((x + y + c) % 18446744073709551616 : Nat) : Int), .int .u64 (((x + y + c) / 18446744073709551616 : Nat) : Int)])) w := by
  rw [run_callFunc_extern Tryd.func50 (by kernel_rfl) (by kernel_rfl) (by kernel_rfl) (e := add64Entry) (by kernel_rfl), run_add64 x y c (by omega) (by omega) (by omega) (by omega)]
  simp only [Result.andThen]
  congr 5 <;> omega
/-- The model's entry for math/bits.Sub64. -/
def subEntry : Array Value → Sem Value := fun args => do
  let (x, y, b) ← Extern.MathBitsCarry.three "Sub64" args
  pure (Extern.MathBitsCarry.pair ((x + Extern.MathBitsCarry.m64 - y - b) % Extern.MathBitsCarry.m64) (if x < y + b then 1 else 0))
theorem run_subEntry (x y b : Nat) (hb : b ≤ 1) (w : World) :
    (subEntry #[.int .u64 x, .int .u64 y, .int .u64 b]).run Tryd.prog w =
      .ok (.tuple #[.int .u64 (((x + 18446744073709551616 - y - b) % 18446744073709551616 : Nat) : Int), .int .u64 ((if x < y + b then 1 else 0 : Nat) : Int)]) w := by
  have : b = 0 ∨ b = 1 := by omega
  rcases this with rfl | rfl <;> rfl
theorem run_Sub64 (x y b : Nat) (hb : b ≤ 1) (w : World) :
    (callFunc 57 #[.int .u64 (x : Int), .int .u64 (y : Int), .int .u64 (b : Int)]).run Tryd.prog w =
      .ok (.value (.tuple #[.int .u64 (((x + 18446744073709551616 - y - b) % 18446744073709551616 : Nat) : Int), .int .u64 ((if x < y + b then 1 else 0 : Nat) : Int)])) w := by
  rw [run_callFunc_extern Tryd.func57 (by kernel_rfl) (by kernel_rfl) (by kernel_rfl) (e := subEntry) (by kernel_rfl), run_subEntry x y b hb]
  rfl

set_option maxRecDepth 100000 in
set_option maxHeartbeats 1000000 in
theorem Mul64_any (x y : Nat) (hx : x < 18446744073709551616) (hy : y < 18446744073709551616) (w : World) :
    Calls Tryd.prog 69 #[.int .u64 (x : Int), .int .u64 (y : Int)] w fun e w' => e = .returned (.tuple #[.int .u64 ((x * y / 18446744073709551616 : Nat) : Int), .int .u64 ((x * y % 18446744073709551616 : Nat) : Int)]) ∧ w' = w := by
  obtain ⟨bd, bt, bw, hhi⟩ := Lib.mul64_hi x y hx hy
  have ba := Lib.half_mul_le (a := x / 4294967296) (b := y / 4294967296) (by omega) (by omega)
  have bb := Lib.half_mul_le (a := x / 4294967296) (b := y % 4294967296) (by omega) (by omega)
  have bc := Lib.half_mul_le (a := x % 4294967296) (b := y / 4294967296) (by omega) (by omega)
  have ba' : x / 4294967296 * (y / 4294967296) < 18446744073709551616 := by omega
  have bb' : x / 4294967296 * (y % 4294967296) < 18446744073709551616 := by omega
  have bc' : x % 4294967296 * (y / 4294967296) < 18446744073709551616 := by omega
  have bh1 : x / 4294967296 * (y / 4294967296) + (x / 4294967296 * (y % 4294967296) + x % 4294967296 * (y % 4294967296) / 4294967296) / 4294967296 < 18446744073709551616 := by omega
  have bh : x / 4294967296 * (y / 4294967296) + (x / 4294967296 * (y % 4294967296) + x % 4294967296 * (y % 4294967296) / 4294967296) / 4294967296 + ((x / 4294967296 * (y % 4294967296) + x % 4294967296 * (y % 4294967296) / 4294967296) % 4294967296 + x % 4294967296 * (y / 4294967296)) / 4294967296 < 18446744073709551616 := by omega
  go_enter Tryd.func69, Tryd.ntmps69
  go_wp2
  simp only [Mul64.maskN x hx, Mul64.maskN y hy, Mul64.divN, Mul64.mulN, Mul64.addN, Mul64.wrapN _ bd, Mul64.wrapN _ bb', Mul64.wrapN _ bt, Mul64.maskN _ bt, Mul64.wrapN _ bc', Mul64.wrapN _ bw, Mul64.wrapN _ ba', Mul64.wrapN _ bh1, Mul64.wrapN _ bh, Mul64.wrapM (x * y)]
  rw [hhi]
  go_ret2
  exact ⟨rfl, rfl⟩

theorem ret_two {a b c d : Int} (h1 : a = c) (h2 : b = d) : Ending.returned (.tuple #[.int .u64 a, .int .u64 b]) = .returned (.tuple #[.int .u64 c, .int .u64 d]) := by rw [h1, h2]

theorem times_le {x y : Nat} (hx : x < 18446744073709551616) (hy : y < 18446744073709551616) : x * y ≤ 340282366920938463426481119284349108225 := (Nat.mul_le_mul (Nat.le_of_lt_succ hx : x ≤ 18446744073709551615) (Nat.le_of_lt_succ hy : y ≤ 18446744073709551615) :)

set_option maxRecDepth 100000 in
set_option maxHeartbeats 1000000 in
theorem timesPlus_any (x y c d : Nat) (hx : x < 18446744073709551616) (hy : y < 18446744073709551616) (hc : c < 18446744073709551616) (hd : d < 18446744073709551616) (w : World) :
    Calls Tryd.prog 52 #[.int .u64 (x : Int), .int .u64 (y : Int), .int .u64 (c : Int), .int .u64 (d : Int)] w fun e w' => e = .returned (.tuple #[.int .u64 (((x * y + c + d) % 18446744073709551616 : Nat) : Int), .int .u64 (((x * y + c + d) / 18446744073709551616 : Nat) : Int)]) ∧ w' = w := by
  have MM : Hid (∀ W, Calls Tryd.prog 69 #[.int .u64 (x : Int), .int .u64 (y : Int)] W fun e w' => e = .returned (.tuple #[.int .u64 ((x * y / 18446744073709551616 : Nat) : Int), .int .u64 ((x * y % 18446744073709551616 : Nat) : Int)]) ∧ w' = W) := Lib.hid fun W => Mul64_any x y hx hy W
  have hm := times_le hx hy
  generalize x * y = m at *
  have e1 := Lib.hid (run_Add64 (m % 18446744073709551616) c 0 (by omega))
  obtain ⟨s, hs⟩ : ∃ s, s = (m % 18446744073709551616 + c + 0) % 18446744073709551616 := ⟨_, rfl⟩
  obtain ⟨k, hk⟩ : ∃ k, k = (m % 18446744073709551616 + c + 0) / 18446744073709551616 := ⟨_, rfl⟩
  obtain ⟨hi, hhi⟩ : ∃ hi, hi = m / 18446744073709551616 := ⟨_, rfl⟩
  obtain ⟨lo, hlo⟩ : ∃ lo, lo = m % 18446744073709551616 := ⟨_, rfl⟩
  have e2 := Lib.hid (run_Add64 s d 0 (by omega))
  obtain ⟨s2, hs2⟩ : ∃ s2, s2 = (s + d + 0) % 18446744073709551616 := ⟨_, rfl⟩
  obtain ⟨k2, hk2⟩ : ∃ k2, k2 = (s + d + 0) / 18446744073709551616 := ⟨_, rfl⟩
  rw [← hs, ← hk] at e1
  rw [← hs2, ← hk2] at e2
  rw [← hlo] at e1
  rw [← hlo, ← hhi] at MM
  have r1 : Hid (((m + c + d) % 18446744073709551616 : Nat) = s2) := Lib.hid (by omega)
  have r2 : Hid (((m + c + d) / 18446744073709551616 : Nat) = hi + k + k2) := Lib.hid (by omega)
  have w1 : IntKind.u64.wrap ((hi : Int) + (k : Int)) = ((hi + k : Nat) : Int) := by rw [IntKind.wrap_u64]; omega
  have w2 : IntKind.u64.wrap (((hi + k : Nat) : Int) + (k2 : Int)) = ((hi + k + k2 : Nat) : Int) := by rw [IntKind.wrap_u64]; omega
  rw [r1.out, r2.out]
  have W1 := Lib.hid w1
  have W2 := Lib.hid w2
  have A1 : ∀ W, (callFunc 50 #[.int .u64 (lo : Int), .int .u64 (c : Int), .int .u64 0]).run Tryd.prog W = .ok (.value (.tuple #[.int .u64 (s : Int), .int .u64 (k : Int)])) W := e1.out
  have A2 : ∀ W, (callFunc 50 #[.int .u64 (s : Int), .int .u64 (d : Int), .int .u64 0]).run Tryd.prog W = .ok (.value (.tuple #[.int .u64 (s2 : Int), .int .u64 (k2 : Int)])) W := e2.out
  clear hs hk hhi hlo hs2 hk2 r1 r2 w1 w2 hm hx hy hc hd e1 e2
  go_enter Tryd.func52, Tryd.ntmps52
  go_wp2_with (first
    | (go_at_call 69
       refine (MM.out _).mono ?_
       rintro e w2 ⟨rfl, rfl⟩)
    | fail)
  rw [W1.out, W2.out]
  go_ret2
  exact ⟨rfl, rfl⟩
end Sca
end Go.Proofs.YthaheekjmofgnaaDoor

namespace Go.Proofs.YthaheekjmofgnaaDoor
open Go.RowKit

theorem Sn.sum_lt (a b : Sn) : a.val + b.val < big := by
  have h1 := a.isLt
  have h2 := b.isLt
  have h3 : LL + LL < big := by decide
  omega
theorem Sn.of_sum (a b : Sn) : (toS (a.val + b.val)).val = (a + b).val := by rw [toS_add, toS_of, toS_of]

end Go.Proofs.YthaheekjmofgnaaDoor

namespace Go.Proofs.YthaheekjmofgnaaDoor
open Go.RowKit

/-- A number read out of its block, under a name that the walk does not open. -/
def loadSc (t : TypeId) (a : Addr) : Sem Value := loadVar t a
theorem load_sc (a : Addr) : loadVar 32 a = loadSc 32 a := rfl
theorem run_loadSc {w : World} {g n : Nat} (hg : HoldsN w 32 g (lims n)) : (loadSc 32 ⟨g, 0, none⟩).run Tryd.prog w = .ok (.agg ((lims n).map nv).toArray) w :=
  run_loadVar_row w g 32 32 _ (0, 0) _ hg Tryd.underlying32 rfl (by rw [Tryd.infoSc]; rfl)

section
attribute [local go_sem ↓] load_sc

theorem sneg_val (a : Sn) : (toS (LL - a.val)).val = (-a).val := by
  rw [Sn.val_neg]; rfl
theorem LL_sub_lt (a : Sn) : LL - a.val < big := Nat.lt_of_le_of_lt (Nat.sub_le _ _) (by decide)

end
end Go.Proofs.YthaheekjmofgnaaDoor

namespace Go.Proofs.YthaheekjmofgnaaDoor
open Go.RowKit

/-- A bit out of its limb. -/
theorem sbit_limb (n j : Nat) : limb n (j / 64) / 2 ^ (j % 64) % 2 = n / 2 ^ j % 2 := by
  have hr : j % 64 < 64 := Nat.mod_lt _ (by omega)
  have e : (2 : Nat) ^ j = 18446744073709551616 ^ (j / 64) * 2 ^ (j % 64) := by
    rw [show (18446744073709551616 : Nat) = 2 ^ 64 by decide, ← Nat.pow_mul, ← Nat.pow_add, Nat.div_add_mod]
  unfold limb
  rw [e, ← Nat.div_div_eq_div_mul]
  generalize n / 18446744073709551616 ^ (j / 64) = x
  generalize j % 64 = r at *
  have eW : (18446744073709551616 : Nat) = 2 ^ r * (2 * 2 ^ (63 - r)) := by
    rw [← Nat.pow_succ', ← Nat.pow_add, show r + (63 - r).succ = 64 by omega]
  have hx : x = x % 18446744073709551616 + 2 ^ r * (2 * (2 ^ (63 - r) * (x / 18446744073709551616))) := by
    have h := Nat.mod_add_div x 18446744073709551616
    rw [← Nat.mul_assoc 2, ← Nat.mul_assoc (2 ^ r), ← eW]
    exact h.symm
  conv => rhs; rw [hx, Nat.add_mul_div_left _ _ (Nat.pow_pos (by omega)), Nat.add_mul_mod_self_left]


def sm (a : Sn) (x : Nat) : Sn := a * toS x
theorem Sn.twice (a : Sn) (x : Nat) : a * toS (x + x) = a * toS x + a * toS x := by rw [toS_add]; grind
theorem Sn.once (a : Sn) (x : Nat) : a * toS (x + x + 1) = a * toS x + a * toS x + a := by rw [toS_add, toS_add, show toS 1 = 1 from rfl]; grind
theorem sm_zero (a : Sn) : sm a 0 = 0 := by unfold sm; rw [show toS 0 = 0 from rfl]; grind
theorem sm_bit (a : Sn) (e j : Nat) : sm a (e / 2 ^ j) = if e / 2 ^ j % 2 = 1 then sm a (e / 2 ^ (j + 1)) + sm a (e / 2 ^ (j + 1)) + a else sm a (e / 2 ^ (j + 1)) + sm a (e / 2 ^ (j + 1)) := by
  have h : e / 2 ^ (j + 1) = e / 2 ^ j / 2 := by rw [Nat.pow_succ, Nat.div_div_eq_div_mul]
  rw [h]
  generalize e / 2 ^ j = x
  unfold sm
  split
  · next h1 =>
    rw [← Sn.once]
    congr 2
    omega
  · next h1 =>
    rw [← Sn.twice]
    congr 2
    omega
theorem zero_sval : lims 0 = lims (0 : Sn).val := rfl

end Go.Proofs.YthaheekjmofgnaaDoor

namespace Go.Proofs.YthaheekjmofgnaaDoor
open Go.RowKit

theorem leNum_drop (l : List UInt8) (k : Nat) (h : k ≤ l.length) : leNum l / 256 ^ k = leNum (l.drop k) := by
  have e : leNum l = leNum (l.take k) + 256 ^ k * leNum (l.drop k) := by
    conv => lhs; rw [← List.take_append_drop k l, leNum_append, List.length_take, Nat.min_eq_left h]
  have hlt := leNum_lt (l.take k)
  rw [List.length_take, Nat.min_eq_left h] at hlt
  rw [e, Nat.add_mul_div_left _ _ (Nat.pow_pos (by omega)), Nat.div_eq_of_lt hlt, Nat.zero_add]
theorem leNum_at (l : List UInt8) (k : Nat) (h : k < l.length) : leNum l / 256 ^ k % 256 = l[k].toNat := by
  rw [leNum_drop l k (by omega), List.drop_eq_getElem_cons h]
  have := l[k].toNat_lt
  simp only [leNum]
  omega
/-- A bit out of its byte. -/
theorem byte_bit (l : List UInt8) (j : Nat) (h : j / 8 < l.length) : l[j / 8].toNat / 2 ^ (j % 8) % 2 = leNum l / 2 ^ j % 2 := by
  have hr : j % 8 < 8 := Nat.mod_lt _ (by omega)
  have e : (2 : Nat) ^ j = 256 ^ (j / 8) * 2 ^ (j % 8) := by
    rw [show (256 : Nat) = 2 ^ 8 by decide, ← Nat.pow_mul, ← Nat.pow_add, Nat.div_add_mod]
  rw [← leNum_at l (j / 8) h, e, ← Nat.div_div_eq_div_mul]
  generalize leNum l / 256 ^ (j / 8) = x
  generalize j % 8 = r at *
  have eW : (256 : Nat) = 2 ^ r * (2 * 2 ^ (7 - r)) := by
    rw [← Nat.pow_succ', ← Nat.pow_add, show r + (7 - r).succ = 8 by omega]
  have hx : x = x % 256 + 2 ^ r * (2 * (2 ^ (7 - r) * (x / 256))) := by
    have h := Nat.mod_add_div x 256
    rw [← Nat.mul_assoc 2, ← Nat.mul_assoc (2 ^ r), ← eW]
    exact h.symm
  conv => rhs; rw [hx, Nat.add_mul_div_left _ _ (Nat.pow_pos (by omega)), Nat.add_mul_mod_self_left]

end Go.Proofs.YthaheekjmofgnaaDoor

namespace Go.Proofs.YthaheekjmofgnaaDoor
open Go.RowKit

theorem leNum_zeros : ∀ k, leNum (List.replicate k 0) = 0
  | 0 => rfl
  | k + 1 => by simp [List.replicate_succ, leNum, leNum_zeros k]
theorem leNum_padded (l : List UInt8) (k : Nat) : leNum (l ++ List.replicate k 0) = leNum l := by
  rw [leNum_append, leNum_zeros, Nat.mul_zero, Nat.add_zero]
/-- The first k of l's bytes; the others of 64 are 0. -/
def cpL (l : List UInt8) (k : Nat) : List UInt8 := l.take k ++ List.replicate (64 - k) 0
theorem cpL_length (l : List UInt8) {k : Nat} (h : k ≤ l.length) (h2 : k ≤ 64) : (cpL l k).length = 64 := by simp [cpL]; omega
theorem cpL_zero (l : List UInt8) : cpL l 0 = List.replicate 64 0 := rfl
theorem cpL_set (l : List UInt8) {k : Nat} (h : k < l.length) (h2 : k < 64) : (cpL l k).set k l[k] = cpL l (k + 1) := by
  unfold cpL
  rw [List.set_append_right _ _ (by rw [List.length_take]; omega), List.length_take, Nat.min_eq_left (by omega), Nat.sub_self,
    show 64 - k = (64 - (k + 1)) + 1 by omega, List.replicate_succ, List.set_cons_zero, List.take_succ_eq_append_getElem h, List.append_assoc]
  rfl
theorem cpL_full (l : List UInt8) (h : l.length = 32) : leNum (cpL l 32) = leNum l := by
  unfold cpL
  rw [List.take_of_length_le (by omega), leNum_padded]

def zb64 : Array Value := ((List.replicate 64 (0 : UInt8)).map bv).toArray
theorem sfrom_start (w : World) (l : List UInt8) (c1 c2 : Array Value) (h1 : c1 = (l.map bv).toArray) (h2 : c2 = ((lims 0).map nv).toArray) :
    HoldsB ((w.alloc (.cells c1 52)).alloc (.cells c2 32)) 52 w.heap.size l ∧ HoldsN ((w.alloc (.cells c1 52)).alloc (.cells c2 32)) 32 (w.heap.size + 1) (lims 0) ∧
    Below w.heap.size w ((w.alloc (.cells c1 52)).alloc (.cells c2 32)) ∧ ((w.alloc (.cells c1 52)).alloc (.cells c2 32)).heap.size = w.heap.size + 2 := by
  have e1 : (w.alloc (.cells c1 52)).heap.size = w.heap.size + 1 := World.size_alloc ..
  exact ⟨(holdsB_new w _ _ c1 l rfl h1).alloc _, holdsN_new _ _ _ c2 _ e1.symm h2, ((Below.refl _ w).alloc (Nat.le_refl _) _).alloc (by omega) _, by rw [World.size_alloc, e1]⟩

theorem sbytes_start (w : World) (m : Nat) (c1 c2 : Array Value) (h1 : c1 = ((lims m).map nv).toArray) (h2 : c2 = zb) :
    HoldsN ((w.alloc (.cells c1 32)).alloc (.cells c2 52)) 32 w.heap.size (lims m) ∧ HoldsB ((w.alloc (.cells c1 32)).alloc (.cells c2 52)) 52 (w.heap.size + 1) (List.replicate 32 0) ∧ Below w.heap.size w ((w.alloc (.cells c1 32)).alloc (.cells c2 52)) := by
  obtain ⟨a, b, e⟩ := sc_start w m c1 h1
  exact ⟨a.alloc _, holdsB_new _ _ _ _ _ e.symm h2, b.alloc (by omega) _⟩

end Go.Proofs.YthaheekjmofgnaaDoor

namespace Go.Proofs.YthaheekjmofgnaaDoor
open Go.RowKit

/-- The block of a number. -/
structure Sc1 (w : World) (n : Nat) (W : World) : Prop where
  a : HoldsN W 32 (w.heap.size + 1) (lims n)
  d : Below w.heap.size w W
theorem Sc1.stay {w : World} {n : Nat} : ∀ W W', Sc1 w n W → Below W.heap.size W W' → Sc1 w n W' := fun _ _ h hb => ⟨h.a.keep hb h.a.lt, h.d.trans (hb.mono h.d.size)⟩

section
attribute [local go_sem ↓] load_sc

end
end Go.Proofs.YthaheekjmofgnaaDoor
