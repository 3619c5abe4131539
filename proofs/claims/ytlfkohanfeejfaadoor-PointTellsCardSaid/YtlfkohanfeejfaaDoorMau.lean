/-
  The program's numbers modulo P: a small number; which are one; which are odd.
  math/bits.Add64, Sub64, Mul64, and what the program makes of them: a product, and both other numbers, added.
  The document's numbers modulo L: sums.
  The document's numbers modulo L: what is below 0, differences.
  The document's numbers modulo L: products.
  The document's numbers modulo L: the number that 64 bytes are, that 32 bytes are.
  The document's numbers modulo L: the number that 32 bytes are; a number's bytes.
  The document's numbers modulo L: is the number that 32 bytes are below L?
  The program's numbers modulo L: differences and sums modulo 2^256; so many times what L is over 2^252.
-/
import Derived.Deep.DeepCutAuto
import Derived.Laws.Externs
import Derived.Shelf.Bits.Mul64
import Derived.Test.YtlfkohanfeejfaaDoorMah
import Derived.Test.YtlfkohanfeejfaaDoorMai
import Derived.Test.YtlfkohanfeejfaaDoorMal
import Derived.Test.YtlfkohanfeejfaaDoorMao
import Derived.Test.YtlfkohanfeejfaaDoorMar
import Derived.Test.YtlfkohanfeejfaaDoorMas
import Derived.Test.YtlfkohanfeejfaaDoorMat
namespace Go.Proofs.YtlfkohanfeejfaaDoor
open Go.RowKit

theorem RB.stay {w : World} {m n : Nat} : ∀ W W', RB w m n W → Below W.heap.size W W' → RB w m n W' := fun _ _ h hb => h.keep hb
theorem below_zero (m : Nat) (w : World) (hm : m < big) :
    Calls Tryd.prog 56 #[.agg ((lims m).map nv).toArray, .int .u64 0] w fun e w' => e = .returned (.agg ((lims (toF m).val).map nv).toArray) ∧ Below w.heap.size w w' := by
  have := below_any m 0 w hm (by omega)
  rw [Nat.zero_mul, Nat.add_zero] at this
  exact this
theorem small_fev {n : Nat} (hn : n < 18446744073709551616) : Value.agg #[.int .u64 (n : Int), .int .u64 0, .int .u64 0, .int .u64 0] = fev n := by
  have h0 : limb n 0 = n := by unfold limb; omega
  have h1 : limb n 1 = 0 := by unfold limb; omega
  have h2 : limb n 2 = 0 := limb_of_lt (by have : (18446744073709551616 : Nat) ^ 2 = 340282366920938463463374607431768211456 := by decide
                                           omega)
  have h3 : limb n 3 = 0 := limb_of_lt (by have : (18446744073709551616 : Nat) ^ 3 = 6277101735386680763835789423207666416102355444464034512896 := by decide
                                           omega)
  unfold fev
  rw [h0, h1, h2, h3]
  rfl

set_option maxRecDepth 100000 in
set_option maxHeartbeats 1000000 in
theorem Small_any (n : Nat) (w : World) (hn : n < 18446744073709551616) :
    Calls Tryd.prog 47 #[.int .u64 (n : Int)] w (GaveF w n) := by
  obtain ⟨hA, hb, hsz⟩ := fe_start w 0 #[.int .u64 0, .int .u64 0, .int .u64 0, .int .u64 0] (by kernel_rfl)
  have hv : Value.agg #[.int .u64 (n : Int), .int .u64 0, .int .u64 0, .int .u64 0] = .agg ((lims n).map nv).toArray := small_fev hn
  have HV := Lib.hid hv
  clear hv
  go_enter Tryd.func47, Tryd.ntmps47
  go_wp2_with (first
    | (with_reducible refine wpList_store_n rfl 24 (.tmp 2) (.tmp 4) rfl w.heap.size (lims n) 4 rfl (by with_unfolding_all exact HV.out) rfl (lims 0) (by with_unfolding_all exact hA) Tryd.infoFe rfl w.heap.size w (by with_unfolding_all exact hb) (Nat.le_refl _) ?_; intro w7 Hg _ _ hb7)
    | fail)
  exact bodyPost_ret (results_cell_row rfl _ _ _ _ _ _ _ rfl Hg Tryd.underlying24 rfl (by rw [Tryd.infoFe]; rfl)) rfl ⟨rfl, hb7⟩

/-- The blocks of a call of two numbers. -/
structure FeAB (w : World) (m n : Nat) (W : World) : Prop where
  a : HoldsN W 24 w.heap.size (lims m)
  b : HoldsN W 24 (w.heap.size + 1) (lims n)
  d : Below w.heap.size w W
theorem FeAB.stay {w : World} {m n : Nat} : ∀ W W', FeAB w m n W → Below W.heap.size W W' → FeAB w m n W' := fun _ _ h hb => ⟨h.a.keep hb h.a.lt, h.b.keep hb h.b.lt, h.d.trans (hb.mono h.d.size)⟩

section
attribute [local go_sem ↓] load_fe

set_option maxRecDepth 100000 in
set_option maxHeartbeats 1000000 in
theorem Same_any (m n : Nat) (w : World) (hm : m < big) (hn : n < big) :
    Calls Tryd.prog 44 #[fev m, fev n] w fun e w' => e = .returned (.bool (decide (toF m = toF n))) ∧ Below w.heap.size w w' := by
  obtain ⟨hA, hB, hb, hsz⟩ := fe_start2 w m n _ _ rfl rfl
  have F0 : FeAB w m n _ := ⟨hA, hB, hb⟩
  clear hA hB hb hsz
  have LM : Hid (∀ W, Calls Tryd.prog 56 #[.agg ((lims m).map nv).toArray, .int .u64 0] W fun e w' => e = .returned (.agg ((lims (toF m).val).map nv).toArray) ∧ Below W.heap.size W w') := Lib.hid fun W => below_zero m W hm
  have LN : Hid (∀ W, Calls Tryd.prog 56 #[.agg ((lims n).map nv).toArray, .int .u64 0] W fun e w' => e = .returned (.agg ((lims (toF n).val).map nv).toArray) ∧ Below W.heap.size W w') := Lib.hid fun W => below_zero n W hn
  rw [fev_eq, fev_eq]
  generalize toF m = a at *
  generalize toF n = b at *
  have q1 := fun W => run_eql_F a b W
  have q2 := fun x y c d W => run_guard_fe x y c d W
  generalize decide (a = b) = res at *
  go_enter Tryd.func44, Tryd.ntmps44
  go_upto_region 1 with (fail)
  generalize (w.alloc (.cells ((lims m).map nv).toArray 24)).alloc (.cells ((lims n).map nv).toArray 24) = wv at *
  refine wp_region_lex 5 (fun _ => false) (MadeFe 0) (FeAB w m n) (by kernel_rfl) (by kernel_rfl) (FeAB.stay _ _ F0 (Below.refl _ wv).drew) FeAB.stay MadeFe.stay lex_none ?_
  simp only [List.take_succ_cons, List.take_zero, List.drop_succ_cons, List.drop_zero]
  refine lexW_value (v := ?_) (by rfl) (by rfl) (fun W hW => ?_) ?_
  rotate_left
  · have l1 := run_loadFe hW.a; go_simp <;> with_reducible rfl
  simp only [Act.put, List.setIfInBounds_toArray, List.set_cons_zero, List.set_cons_succ]
  refine' lexW_call (by rfl) (by rfl) (fun W hW => ?_) (fun W hW => ?_) ?_
  rotate_left 3
  · go_simp <;> first | with_reducible rfl | exact ⟨rfl, rfl⟩
  · with_reducible exact LM.out W
  simp only [Act.put, List.setIfInBounds_toArray, List.set_cons_zero, List.set_cons_succ]
  refine lexW_value (v := ?_) (by rfl) (by rfl) (fun W hW => ?_) ?_
  rotate_left
  · have l1 := run_loadFe hW.b; go_simp <;> with_reducible rfl
  simp only [Act.put, List.setIfInBounds_toArray, List.set_cons_zero, List.set_cons_succ]
  refine' lexW_call (by rfl) (by rfl) (fun W hW => ?_) (fun W hW => ?_) ?_
  rotate_left 3
  · go_simp <;> first | with_reducible rfl | exact ⟨rfl, rfl⟩
  · with_reducible exact LN.out W
  simp only [Act.put, List.setIfInBounds_toArray, List.set_cons_zero, List.set_cons_succ]
  refine lexW_value (v := ?_) (by rfl) (by rfl) (fun W hW => ?_) ?_
  rotate_left
  · skip; go_simp <;> with_reducible rfl
  simp only [Act.put, List.setIfInBounds_toArray, List.set_cons_zero, List.set_cons_succ]
  refine lexW_nil (fun b W hW hE => ?_)
  obtain rfl := lexEnd_none hE
  go_wp2
  go_ret
  exact ⟨rfl, hW.d⟩
end

set_option maxRecDepth 100000 in
set_option maxHeartbeats 1000000 in
theorem Odd_any (m : Nat) (w : World) (hm : m < big) :
    Calls Tryd.prog 34 #[fev m] w fun e w' => e = .returned (.bool (fodd (toF m))) ∧ Below w.heap.size w w' := by
  obtain ⟨hA, hb, hsz⟩ := fe_start w m _ rfl
  have LM : Hid (∀ W, Calls Tryd.prog 56 #[.agg ((lims m).map nv).toArray, .int .u64 0] W fun e w' => e = .returned (.agg ((lims (toF m).val).map nv).toArray) ∧ Below W.heap.size W w') := Lib.hid fun W => below_zero m W hm
  rw [fev_eq]
  generalize toF m = a at *
  have hodd := Lib.hid (odd_val a)
  have ix : ∀ W, (Instr.index 24 (.agg ((lims a.val).map nv).toArray) (.int .i64 0)).run Tryd.prog W = .ok (.int .u64 (limb a.val 0 : Int)) W := fun W => run_index_fe a.val 0 W (by omega)
  generalize limb a.val 0 = x at *
  go_enter Tryd.func34, Tryd.ntmps34
  go_upto_region 1 with (fail)
  generalize w.alloc (.cells ((lims m).map nv).toArray 24) = wv at *
  have hm2 : (x : Int).tmod 2 = ((x % 2 : Nat) : Int) := by rw [Int.tmod_eq_emod_of_nonneg (Int.natCast_nonneg _)]; rfl
  go_wp2_with (first
    | (with_reducible refine wpList_load_n rfl 24 (.tmp 1) rfl w.heap.size rfl (lims m) 4 hA rfl Tryd.underlying24 Tryd.infoFe ?_)
    | (go_at_call 56
       with_reducible refine (LM.out _).mono ?_
       rintro e w3 ⟨rfl, hb3⟩
       have b3 := hb.trans (hb3.mono hb.size))
    | fail)
  go_ret
  refine ⟨?_, b3⟩
  rw [← hodd.out]
  have hx : x % 2 < 2 := Nat.mod_lt _ (by omega)
  by_cases h : x % 2 = 1
  · rw [decide_eq_true h]
    simp []
    omega
  · rw [decide_eq_false h]
    simp []
    omega
end Go.Proofs.YtlfkohanfeejfaaDoor

namespace Go.Proofs.YtlfkohanfeejfaaDoor

open Go.RowKit
namespace Sca

theorem run_Add64 (x y c : Nat) (hc : c ≤ 1) (w : World) :
    (callFunc 50 #[.int .u64 (x : Int), .int .u64 (y : Int), .int .u64 (c : Int)]).run Tryd.prog w =
      .ok (.value (.tuple #[.int .u64 (((x + y + c) % 18446744073709551616 : Nat) : Int), .int .u64 (((x + y + c) / 18446744073709551616 : Nat) : Int)])) w := by
  rw [run_callFunc_extern Tryd.func50 (by kernel_rfl) (by kernel_rfl) (by kernel_rfl) (e := add64Entry) (by kernel_rfl), run_add64 x y c (by omega) (by omega) (by omega) (by omega)]
  simp only [Result.andThen]
  congr 5 <;> omega
/-- The model's entry for math/bits.Sub64. -/
def subEntry : Array Value → Sem Value := fun args => do
  let (x, y, b) ← Extern.MathBitsCarry.three "Sub64" args
  pure (Extern.MathBitsCarry.pair ((x + Extern.MathBitsCarry.m64 - y - b) % Extern.MathBitsCarry.m64) (if x < y + b then 1 else 0))
theorem run_subEntry (x y b : Nat) (hb : b ≤ 1) (w : World) :
    (subEntry #[.int .u64 x, .int .u64 y, .int .u64 b]).run Tryd.prog w =
      .ok (.tuple #[.int .u64 (((x + 18446744073709551616 - y - b) % 18446744073709551616 : Nat) : Int), .int .u64 ((if x < y + b then 1 else 0 : Nat) : Int)]) w := by
  have : b = 0 ∨ b = 1 := by omega
  rcases this with rfl | rfl <;> rfl
theorem run_Sub64 (x y b : Nat) (hb : b ≤ 1) (w : World) :
    (callFunc 72 #[.int .u64 (x : Int), .int .u64 (y : Int), .int .u64 (b : Int)]).run Tryd.prog w =
      .ok (.value (.tuple #[.int .u64 (((x + 18446744073709551616 - y - b) % 18446744073709551616 : Nat) : Int), .int .u64 ((if x < y + b then 1 else 0 : Nat) : Int)])) w := by
  rw [run_callFunc_extern Tryd.func72 (by kernel_rfl) (by kernel_rfl) (by kernel_rfl) (e := subEntry) (by kernel_rfl), run_subEntry x y b hb]
  rfl

set_option maxRecDepth 100000 in
set_option maxHeartbeats 1000000 in
theorem Mul64_any (x y : Nat) (hx : x < 18446744073709551616) (hy : y < 18446744073709551616) (w : World) :
    Calls Tryd.prog 82 #[.int .u64 (x : Int), .int .u64 (y : Int)] w fun e w' => e = .returned (.tuple #[.int .u64 ((x * y / 18446744073709551616 : Nat) : Int), .int .u64 ((x * y % 18446744073709551616 : Nat) : Int)]) ∧ w' = w := by
  obtain ⟨bd, bt, bw, hhi⟩ := Lib.mul64_hi x y hx hy
  have ba := Lib.half_mul_le (a := x / 4294967296) (b := y / 4294967296) (by omega) (by omega)
  have bb := Lib.half_mul_le (a := x / 4294967296) (b := y % 4294967296) (by omega) (by omega)
  have bc := Lib.half_mul_le (a := x % 4294967296) (b := y / 4294967296) (by omega) (by omega)
  have ba' : x / 4294967296 * (y / 4294967296) < 18446744073709551616 := by omega
  have bb' : x / 4294967296 * (y % 4294967296) < 18446744073709551616 := by omega
  have bc' : x % 4294967296 * (y / 4294967296) < 18446744073709551616 := by omega
  have bh1 : x / 4294967296 * (y / 4294967296) + (x / 4294967296 * (y % 4294967296) + x % 4294967296 * (y % 4294967296) / 4294967296) / 4294967296 < 18446744073709551616 := by omega
  have bh : x / 4294967296 * (y / 4294967296) + (x / 4294967296 * (y % 4294967296) + x % 4294967296 * (y % 4294967296) / 4294967296) / 4294967296 + ((x / 4294967296 * (y % 4294967296) + x % 4294967296 * (y % 4294967296) / 4294967296) % 4294967296 + x % 4294967296 * (y / 4294967296)) / 4294967296 < 18446744073709551616 := by omega
  go_enter Tryd.func82, Tryd.ntmps82
  go_wp2
  simp only [Mul64.maskN x hx, Mul64.maskN y hy, Mul64.divN, Mul64.mulN, Mul64.addN, Mul64.wrapN _ bd, Mul64.wrapN _ bb', Mul64.wrapN _ bt, Mul64.maskN _ bt, Mul64.wrapN _ bc', Mul64.wrapN _ bw, Mul64.wrapN _ ba', Mul64.wrapN _ bh1, Mul64.wrapN _ bh, Mul64.wrapM (x * y)]
  rw [hhi]
  go_ret2
  exact ⟨rfl, rfl⟩

theorem ret_two {a b c d : Int} (h1 : a = c) (h2 : b = d) : Ending.returned (.tuple #[.int .u64 a, .int .u64 b]) = .returned (.tuple #[.int .u64 c, .int .u64 d]) := by rw [h1, h2]

theorem times_le {x y : Nat} (hx : x < 18446744073709551616) (hy : y < 18446744073709551616) : x * y ≤ 340282366920938463426481119284349108225 := (Nat.mul_le_mul (Nat.le_of_lt_succ hx : x ≤ 18446744073709551615) (Nat.le_of_lt_succ hy : y ≤ 18446744073709551615) :)

set_option maxRecDepth 100000 in
set_option maxHeartbeats 1000000 in
theorem timesPlus_any (x y c d : Nat) (hx : x < 18446744073709551616) (hy : y < 18446744073709551616) (hc : c < 18446744073709551616) (hd : d < 18446744073709551616) (w : World) :
    Calls Tryd.prog 89 #[.int .u64 (x : Int), .int .u64 (y : Int), .int .u64 (c : Int), .int .u64 (d : Int)] w fun e w' => e = .returned (.tuple #[.int .u64 (((x * y + c + d) % 18446744073709551616 : Nat) : Int), .int .u64 (((x * y + c + d) / 18446744073709551616 : Nat) : Int)]) ∧ w' = w := by
  have MM : Hid (∀ W, Calls Tryd.prog 82 #[.int .u64 (x : Int), .int .u64 (y : Int)] W fun e w' => e = .returned (.tuple #[.int .u64 ((x * y / 18446744073709551616 : Nat) : Int), .int .u64 ((x * y % 18446744073709551616 : Nat) : Int)]) ∧ w' = W) := Lib.hid fun W => Mul64_any x y hx hy W
  have hm := times_le hx hy
  generalize x * y = m at *
  have e1 := Lib.hid (run_Add64 (m % 18446744073709551616) c 0 (by omega))
  obtain ⟨s, hs⟩ : ∃ s, s = (m % 18446744073709551616 + c + 0) % 18446744073709551616 := ⟨_, rfl⟩
  obtain ⟨k, hk⟩ : ∃ k, k = (m % 18446744073709551616 + c + 0) / 18446744073709551616 := ⟨_, rfl⟩
  obtain ⟨hi, hhi⟩ : ∃ hi, hi = m / 18446744073709551616 := ⟨_, rfl⟩
  obtain ⟨lo, hlo⟩ : ∃ lo, lo = m % 18446744073709551616 := ⟨_, rfl⟩
  have e2 := Lib.hid (run_Add64 s d 0 (by omega))
  obtain ⟨s2, hs2⟩ : ∃ s2, s2 = (s + d + 0) % 18446744073709551616 := ⟨_, rfl⟩
  obtain ⟨k2, hk2⟩ : ∃ k2, k2 = (s + d + 0) / 18446744073709551616 := ⟨_, rfl⟩
  rw [← hs, ← hk] at e1
  rw [← hs2, ← hk2] at e2
  rw [← hlo] at e1
  rw [← hlo, ← hhi] at MM
  have r1 : Hid (((m + c + d) % 18446744073709551616 : Nat) = s2) := Lib.hid (by omega)
  have r2 : Hid (((m + c + d) / 18446744073709551616 : Nat) = hi + k + k2) := Lib.hid (by omega)
  have w1 : IntKind.u64.wrap ((hi : Int) + (k : Int)) = ((hi + k : Nat) : Int) := by rw [IntKind.wrap_u64]; omega
  have w2 : IntKind.u64.wrap (((hi + k : Nat) : Int) + (k2 : Int)) = ((hi + k + k2 : Nat) : Int) := by rw [IntKind.wrap_u64]; omega
  rw [r1.out, r2.out]
  have W1 := Lib.hid w1
  have W2 := Lib.hid w2
  have A1 : ∀ W, (callFunc 50 #[.int .u64 (lo : Int), .int .u64 (c : Int), .int .u64 0]).run Tryd.prog W = .ok (.value (.tuple #[.int .u64 (s : Int), .int .u64 (k : Int)])) W := e1.out
  have A2 : ∀ W, (callFunc 50 #[.int .u64 (s : Int), .int .u64 (d : Int), .int .u64 0]).run Tryd.prog W = .ok (.value (.tuple #[.int .u64 (s2 : Int), .int .u64 (k2 : Int)])) W := e2.out
  clear hs hk hhi hlo hs2 hk2 r1 r2 w1 w2 hm hx hy hc hd e1 e2
  go_enter Tryd.func89, Tryd.ntmps89
  go_wp2_with (first
    | (go_at_call 82
       refine (MM.out _).mono ?_
       rintro e w2 ⟨rfl, rfl⟩)
    | fail)
  rw [W1.out, W2.out]
  go_ret2
  exact ⟨rfl, rfl⟩
end Sca
end Go.Proofs.YtlfkohanfeejfaaDoor

namespace Go.Proofs.YtlfkohanfeejfaaDoor
open Go.RowKit

theorem Sn.sum_lt (a b : Sn) : a.val + b.val < big := by
  have h1 := a.isLt
  have h2 := b.isLt
  have h3 : LL + LL < big := by decide
  omega
theorem Sn.of_sum (a b : Sn) : (toS (a.val + b.val)).val = (a + b).val := by rw [toS_add, toS_of, toS_of]

end Go.Proofs.YtlfkohanfeejfaaDoor

namespace Go.Proofs.YtlfkohanfeejfaaDoor
open Go.RowKit

/-- A number read out of its block, under a name that the walk does not open. -/
def loadSc (t : TypeId) (a : Addr) : Sem Value := loadVar t a
theorem load_sc (a : Addr) : loadVar 28 a = loadSc 28 a := rfl
theorem run_loadSc {w : World} {g n : Nat} (hg : HoldsN w 28 g (lims n)) : (loadSc 28 ⟨g, 0, none⟩).run Tryd.prog w = .ok (.agg ((lims n).map nv).toArray) w :=
  run_loadVar_row w g 28 28 _ (0, 0) _ hg Tryd.underlying28 rfl (by rw [Tryd.infoSc]; rfl)

section
attribute [local go_sem ↓] load_sc

theorem sneg_val (a : Sn) : (toS (LL - a.val)).val = (-a).val := by
  rw [Sn.val_neg]; rfl
theorem LL_sub_lt (a : Sn) : LL - a.val < big := Nat.lt_of_le_of_lt (Nat.sub_le _ _) (by decide)

end
end Go.Proofs.YtlfkohanfeejfaaDoor

namespace Go.Proofs.YtlfkohanfeejfaaDoor
open Go.RowKit

/-- A bit out of its limb. -/
theorem sbit_limb (n j : Nat) : limb n (j / 64) / 2 ^ (j % 64) % 2 = n / 2 ^ j % 2 := by
  have hr : j % 64 < 64 := Nat.mod_lt _ (by omega)
  have e : (2 : Nat) ^ j = 18446744073709551616 ^ (j / 64) * 2 ^ (j % 64) := by
    rw [show (18446744073709551616 : Nat) = 2 ^ 64 by decide, ← Nat.pow_mul, ← Nat.pow_add, Nat.div_add_mod]
  unfold limb
  rw [e, ← Nat.div_div_eq_div_mul]
  generalize n / 18446744073709551616 ^ (j / 64) = x
  generalize j % 64 = r at *
  have eW : (18446744073709551616 : Nat) = 2 ^ r * (2 * 2 ^ (63 - r)) := by
    rw [← Nat.pow_succ', ← Nat.pow_add, show r + (63 - r).succ = 64 by omega]
  have hx : x = x % 18446744073709551616 + 2 ^ r * (2 * (2 ^ (63 - r) * (x / 18446744073709551616))) := by
    have h := Nat.mod_add_div x 18446744073709551616
    rw [← Nat.mul_assoc 2, ← Nat.mul_assoc (2 ^ r), ← eW]
    exact h.symm
  conv => rhs; rw [hx, Nat.add_mul_div_left _ _ (Nat.pow_pos (by omega)), Nat.add_mul_mod_self_left]


def sm (a : Sn) (x : Nat) : Sn := a * toS x
theorem Sn.twice (a : Sn) (x : Nat) : a * toS (x + x) = a * toS x + a * toS x := by rw [toS_add]; grind
theorem Sn.once (a : Sn) (x : Nat) : a * toS (x + x + 1) = a * toS x + a * toS x + a := by rw [toS_add, toS_add, show toS 1 = 1 from rfl]; grind
theorem sm_zero (a : Sn) : sm a 0 = 0 := by unfold sm; rw [show toS 0 = 0 from rfl]; grind
theorem sm_bit (a : Sn) (e j : Nat) : sm a (e / 2 ^ j) = if e / 2 ^ j % 2 = 1 then sm a (e / 2 ^ (j + 1)) + sm a (e / 2 ^ (j + 1)) + a else sm a (e / 2 ^ (j + 1)) + sm a (e / 2 ^ (j + 1)) := by
  have h : e / 2 ^ (j + 1) = e / 2 ^ j / 2 := by rw [Nat.pow_succ, Nat.div_div_eq_div_mul]
  rw [h]
  generalize e / 2 ^ j = x
  unfold sm
  split
  · next h1 =>
    rw [← Sn.once]
    congr 2
    omega
  · next h1 =>
    rw [← Sn.twice]
    congr 2
    omega
theorem zero_sval : lims 0 = lims (0 : Sn).val := rfl

end Go.Proofs.YtlfkohanfeejfaaDoor

namespace Go.Proofs.YtlfkohanfeejfaaDoor
open Go.RowKit

theorem leNum_drop (l : List UInt8) (k : Nat) (h : k ≤ l.length) : leNum l / 256 ^ k = leNum (l.drop k) := by
  have e : leNum l = leNum (l.take k) + 256 ^ k * leNum (l.drop k) := by
    conv => lhs; rw [← List.take_append_drop k l, leNum_append, List.length_take, Nat.min_eq_left h]
  have hlt := leNum_lt (l.take k)
  rw [List.length_take, Nat.min_eq_left h] at hlt
  rw [e, Nat.add_mul_div_left _ _ (Nat.pow_pos (by omega)), Nat.div_eq_of_lt hlt, Nat.zero_add]
theorem leNum_at (l : List UInt8) (k : Nat) (h : k < l.length) : leNum l / 256 ^ k % 256 = l[k].toNat := by
  rw [leNum_drop l k (by omega), List.drop_eq_getElem_cons h]
  have := l[k].toNat_lt
  simp only [leNum]
  omega
/-- A bit out of its byte. -/
theorem byte_bit (l : List UInt8) (j : Nat) (h : j / 8 < l.length) : l[j / 8].toNat / 2 ^ (j % 8) % 2 = leNum l / 2 ^ j % 2 := by
  have hr : j % 8 < 8 := Nat.mod_lt _ (by omega)
  have e : (2 : Nat) ^ j = 256 ^ (j / 8) * 2 ^ (j % 8) := by
    rw [show (256 : Nat) = 2 ^ 8 by decide, ← Nat.pow_mul, ← Nat.pow_add, Nat.div_add_mod]
  rw [← leNum_at l (j / 8) h, e, ← Nat.div_div_eq_div_mul]
  generalize leNum l / 256 ^ (j / 8) = x
  generalize j % 8 = r at *
  have eW : (256 : Nat) = 2 ^ r * (2 * 2 ^ (7 - r)) := by
    rw [← Nat.pow_succ', ← Nat.pow_add, show r + (7 - r).succ = 8 by omega]
  have hx : x = x % 256 + 2 ^ r * (2 * (2 ^ (7 - r) * (x / 256))) := by
    have h := Nat.mod_add_div x 256
    rw [← Nat.mul_assoc 2, ← Nat.mul_assoc (2 ^ r), ← eW]
    exact h.symm
  conv => rhs; rw [hx, Nat.add_mul_div_left _ _ (Nat.pow_pos (by omega)), Nat.add_mul_mod_self_left]

end Go.Proofs.YtlfkohanfeejfaaDoor

namespace Go.Proofs.YtlfkohanfeejfaaDoor
open Go.RowKit

theorem leNum_zeros : ∀ k, leNum (List.replicate k 0) = 0
  | 0 => rfl
  | k + 1 => by simp [List.replicate_succ, leNum, leNum_zeros k]
theorem leNum_padded (l : List UInt8) (k : Nat) : leNum (l ++ List.replicate k 0) = leNum l := by
  rw [leNum_append, leNum_zeros, Nat.mul_zero, Nat.add_zero]
/-- The first k of l's bytes; the others of 64 are 0. -/
def cpL (l : List UInt8) (k : Nat) : List UInt8 := l.take k ++ List.replicate (64 - k) 0
theorem cpL_length (l : List UInt8) {k : Nat} (h : k ≤ l.length) (h2 : k ≤ 64) : (cpL l k).length = 64 := by simp [cpL]; omega
theorem cpL_zero (l : List UInt8) : cpL l 0 = List.replicate 64 0 := rfl
theorem cpL_set (l : List UInt8) {k : Nat} (h : k < l.length) (h2 : k < 64) : (cpL l k).set k l[k] = cpL l (k + 1) := by
  unfold cpL
  rw [List.set_append_right _ _ (by rw [List.length_take]; omega), List.length_take, Nat.min_eq_left (by omega), Nat.sub_self,
    show 64 - k = (64 - (k + 1)) + 1 by omega, List.replicate_succ, List.set_cons_zero, List.take_succ_eq_append_getElem h, List.append_assoc]
  rfl
theorem cpL_full (l : List UInt8) (h : l.length = 32) : leNum (cpL l 32) = leNum l := by
  unfold cpL
  rw [List.take_of_length_le (by omega), leNum_padded]

def zb64 : Array Value := ((List.replicate 64 (0 : UInt8)).map bv).toArray
theorem sfrom_start (w : World) (l : List UInt8) (c1 c2 : Array Value) (h1 : c1 = (l.map bv).toArray) (h2 : c2 = ((lims 0).map nv).toArray) :
    HoldsB ((w.alloc (.cells c1 27)).alloc (.cells c2 28)) 27 w.heap.size l ∧ HoldsN ((w.alloc (.cells c1 27)).alloc (.cells c2 28)) 28 (w.heap.size + 1) (lims 0) ∧
    Below w.heap.size w ((w.alloc (.cells c1 27)).alloc (.cells c2 28)) ∧ ((w.alloc (.cells c1 27)).alloc (.cells c2 28)).heap.size = w.heap.size + 2 := by
  have e1 : (w.alloc (.cells c1 27)).heap.size = w.heap.size + 1 := World.size_alloc ..
  exact ⟨(holdsB_new w _ _ c1 l rfl h1).alloc _, holdsN_new _ _ _ c2 _ e1.symm h2, ((Below.refl _ w).alloc (Nat.le_refl _) _).alloc (by omega) _, by rw [World.size_alloc, e1]⟩

theorem sbytes_start (w : World) (m : Nat) (c1 c2 : Array Value) (h1 : c1 = ((lims m).map nv).toArray) (h2 : c2 = zb) :
    HoldsN ((w.alloc (.cells c1 28)).alloc (.cells c2 27)) 28 w.heap.size (lims m) ∧ HoldsB ((w.alloc (.cells c1 28)).alloc (.cells c2 27)) 27 (w.heap.size + 1) (List.replicate 32 0) ∧ Below w.heap.size w ((w.alloc (.cells c1 28)).alloc (.cells c2 27)) := by
  obtain ⟨a, b, e⟩ := sc_start w m c1 h1
  exact ⟨a.alloc _, holdsB_new _ _ _ _ _ e.symm h2, b.alloc (by omega) _⟩

end Go.Proofs.YtlfkohanfeejfaaDoor

namespace Go.Proofs.YtlfkohanfeejfaaDoor
open Go.RowKit

/-- The block of a number. -/
structure Sc1 (w : World) (n : Nat) (W : World) : Prop where
  a : HoldsN W 28 (w.heap.size + 1) (lims n)
  d : Below w.heap.size w W
theorem Sc1.stay {w : World} {n : Nat} : ∀ W W', Sc1 w n W → Below W.heap.size W W' → Sc1 w n W' := fun _ _ h hb => ⟨h.a.keep hb h.a.lt, h.d.trans (hb.mono h.d.size)⟩

section
attribute [local go_sem ↓] load_sc

end
end Go.Proofs.YtlfkohanfeejfaaDoor

namespace Go.Proofs.YtlfkohanfeejfaaDoor
open Go.RowKit
namespace Sca

theorem results_cell_slot {P : Program} {fn : Func} {p q : Tmp} {ty : TypeId} (h : fn.results = #[.cell p ty, .tmp q]) (tmps : Array Value) (w : World) (g : Nat) (t : TypeId) (cs : Array Value) (fr : Nat × Nat) (d : TypeDesc)
    (hp : tmps.getD p undef = .pointer (some ⟨g, 0, none⟩)) (hg : w.heap[g]? = some (.cells cs t fr))
    (hu : P.underlying ty = some d) (hd : (match d with | .struct _ | .array _ _ => true | _ => false) = true) (hi : (P.info? ty).map (·.size) = some cs.size) :
    (results fn tmps).run P w = .ok (.tuple #[.agg cs, tmps.getD q undef]) w := by
  have hp' : tmps[p]?.getD undef = .pointer (some ⟨g, 0, none⟩) := by simpa using hp
  simp [results, h, hp', asAddr, run_loadVar_row w g t ty cs fr d hg hu hd hi]

set_option maxRecDepth 100000 in
set_option maxHeartbeats 1000000 in
theorem plus_any (m n : Nat) (w : World) :
    Calls Tryd.prog 86 #[fev m, fev n] w (GaveF w (m + n)) := by
  obtain ⟨hA, hB, hC, hb, hsz⟩ := sc_start3 w m n 0 _ _ #[.int .u64 0, .int .u64 0, .int .u64 0, .int .u64 0] rfl rfl (by kernel_rfl)
  have LS : Hid (∀ k, (limb m k + limb n k + cy 1 m n 0 k) % 18446744073709551616 = limb (m + n) k ∧ (limb m k + limb n k + cy 1 m n 0 k) / 18446744073709551616 = cy 1 m n 0 (k + 1)) := Lib.hid fun k => lin_add m n k
  have hstart := Lib.hid (cy_zero 1 m n 0)
  have hbit : Hid (∀ k, cy 1 m n 0 k ≤ 1) := Lib.hid fun k => cy_bit (by omega) k
  generalize m + n = s at *
  rw [fev_eq, fev_eq]
  go_enter Tryd.func86, Tryd.ntmps86
  go_wp2
  go_loopw [5, 6, 7] (fun vc _ vi wr => ∃ k : Nat, k ≤ 4 ∧ vi = .int .i64 (k : Int) ∧ vc = .int .u64 (cy 1 m n 0 k : Int) ∧ HoldsN wr 28 w.heap.size (mixL 4 s m k) ∧ HoldsN wr 28 (w.heap.size + 1) (lims n) ∧ HoldsN wr 28 (w.heap.size + 2) (lims 0) ∧ Below w.heap.size w wr)
    (fun _ _ vi _ => 4 - (intOf vi).toNat)
  case atStart => exact ⟨0, Nat.zero_le _, rfl, by rw [hstart.out]; rfl, hA, hB, hC, hb⟩
  case round =>
    clear hA hB hC hb
    obtain ⟨k, hk, rfl, rfl, hA, hB, hC, hb⟩ := hrel
    by_cases hlt : k < 4
    · have hj2 : (k : Int) < 4 := by omega
      have ca := hA.cell (j := k) (by rw [mixL_length]; exact hlt)
      have cb := hB.cell (j := k) (by rw [lims_length]; exact hlt)
      rw [mixL_get hlt, if_neg (Nat.lt_irrefl k)] at ca
      rw [lims_get _ hlt] at cb
      have hf := hA.frozen k
      have hL := Lib.hid (mixL_set (S := s) (M := m) hlt)
      have AD : ∀ W, (callFunc 50 #[.int .u64 (limb m k : Int), .int .u64 (limb n k : Int), .int .u64 (cy 1 m n 0 k : Int)]).run Tryd.prog W = .ok (.value (.tuple #[.int .u64 (limb s k : Int), .int .u64 (cy 1 m n 0 (k + 1) : Int)])) W := fun W => by
        have := run_Add64 (limb m k) (limb n k) (cy 1 m n 0 k) (hbit.out k) W
        rw [(LS.out k).1, (LS.out k).2] at this
        exact this
      generalize limb s k = x at *
      generalize limb m k = y at *
      generalize limb n k = z at *
      generalize cy 1 m n 0 k = c at *
      generalize hc' : cy 1 m n 0 (k + 1) = c' at *
      have HC := Lib.hid hc'
      clear hc'
      go_wp2
      go_region
      go_wp2
      go_roundw
      case rel => exact ⟨k + 1, by omega, by go_num, by rw [HC.out], by rw [← hL.out]; exact (hA.drewN _).set k x, (hB.drewN _).setOther _ _ (by simp), (hC.drewN _).setOther _ _ (by simp), (below_drewN hb _).setCell (Nat.le_refl _) _⟩
      case measure => simp [intOf]; omega
    · rw [show (k : Int) = 4 by omega]
      obtain rfl : k = 4 := by omega
      rw [lims_mix4] at hA
      clear hB
      generalize cy 1 m n 0 4 = c at *
      go_wp2_with (first
        | (with_reducible refine wpList_load_n rfl 28 (.tmp 2) rfl w.heap.size rfl (lims s) 4 hA rfl Tryd.underlying28 Tryd.infoSc ?_)
        | (with_reducible refine wpList_store_n rfl 28 (.tmp 4) (.tmp 24) rfl (w.heap.size + 2) (lims s) 4 rfl rfl rfl (lims 0) hC Tryd.infoSc rfl w.heap.size w hb (by omega) ?_; intro w7 Hg _ _ hb7))
      exact bodyPost_ret (results_cell_row rfl _ _ _ _ _ _ _ rfl Hg Tryd.underlying28 rfl (by rw [Tryd.infoSc]; rfl)) rfl ⟨rfl, hb7⟩

set_option maxRecDepth 100000 in
set_option maxHeartbeats 1000000 in
theorem less_any (m n : Nat) (w : World) (hm : m < big) (hn : n < big) :
    Calls Tryd.prog 84 #[fev m, fev n] w fun e w' => e = .returned (.tuple #[fev (m + big - n), .bool (decide (m < n))]) ∧ Below w.heap.size w w' := by
  obtain ⟨hA, hB, hC, hb, hsz⟩ := sc_start3 w m n 0 _ _ #[.int .u64 0, .int .u64 0, .int .u64 0, .int .u64 0] rfl rfl (by kernel_rfl)
  have LD : Hid (∀ k, k < 4 → (limb m k + 18446744073709551616 - limb n k - bw m n k) % 18446744073709551616 = limb (m + big - n) k ∧ (if limb m k < limb n k + bw m n k then 1 else 0) = bw m n (k + 1)) := Lib.hid fun k hk => ⟨(dif_limb hn hk).symm, (bw_succ m n k).symm⟩
  have hbw : Hid (∀ k, bw m n k ≤ 1) := Lib.hid fun k => bw_bit _ _ _
  have hbw0 : Hid (bw m n 0 = 0) := Lib.hid (by unfold bw; rw [Nat.pow_zero, Nat.mod_one, Nat.mod_one]; rfl)
  have hend : Hid (((bw m n 4 : Nat) : Int) = if m < n then 1 else 0) := Lib.hid (by
    unfold bw
    rw [big_pow, Nat.mod_eq_of_lt hm, Nat.mod_eq_of_lt hn]
    split <;> rfl)
  generalize hbl : decide (m < n) = bl
  have hend2 : Hid ((((bw m n 4 : Nat) : Int) == 1) = bl) := Lib.hid (by
    rw [hend.out, ← hbl]
    by_cases h : m < n
    · rw [if_pos h, decide_eq_true h]; rfl
    · rw [if_neg h, decide_eq_false h]; rfl)
  clear hend hbl hm hn
  generalize m + big - n = d at *
  rw [fev_eq, fev_eq, fev_eq]
  go_enter Tryd.func84, Tryd.ntmps84
  go_wp2
  go_loopw [6, 7, 8] (fun vb _ vi wr => ∃ k : Nat, k ≤ 4 ∧ vi = .int .i64 (k : Int) ∧ vb = .int .u64 (bw m n k : Int) ∧ HoldsN wr 28 w.heap.size (mixL 4 d m k) ∧ HoldsN wr 28 (w.heap.size + 1) (lims n) ∧ HoldsN wr 28 (w.heap.size + 2) (lims 0) ∧ Below w.heap.size w wr)
    (fun _ _ vi _ => 4 - (intOf vi).toNat)
  case atStart => exact ⟨0, Nat.zero_le _, rfl, by rw [hbw0.out]; rfl, hA, hB, hC, hb⟩
  case round =>
    clear hA hB hC hb
    obtain ⟨k, hk, rfl, rfl, hA, hB, hC, hb⟩ := hrel
    by_cases hlt : k < 4
    · have hj2 : (k : Int) < 4 := by omega
      have ca := hA.cell (j := k) (by rw [mixL_length]; exact hlt)
      have cb := hB.cell (j := k) (by rw [lims_length]; exact hlt)
      rw [mixL_get hlt, if_neg (Nat.lt_irrefl k)] at ca
      rw [lims_get _ hlt] at cb
      have hf := hA.frozen k
      have hL := Lib.hid (mixL_set (S := d) (M := m) hlt)
      have SB : ∀ W, (callFunc 72 #[.int .u64 (limb m k : Int), .int .u64 (limb n k : Int), .int .u64 (bw m n k : Int)]).run Tryd.prog W = .ok (.value (.tuple #[.int .u64 (limb d k : Int), .int .u64 (bw m n (k + 1) : Int)])) W := fun W => by
        have := run_Sub64 (limb m k) (limb n k) (bw m n k) (hbw.out k) W
        rw [(LD.out k hlt).1, (LD.out k hlt).2] at this
        exact this
      generalize limb d k = x at *
      generalize limb m k = y at *
      generalize limb n k = z at *
      clear hend2
      generalize bw m n k = c at *
      generalize hc' : bw m n (k + 1) = c' at *
      have HC := Lib.hid hc'
      clear hc'
      go_wp2
      go_region
      go_wp2
      go_roundw
      case rel => exact ⟨k + 1, by omega, by go_num, by rw [HC.out], by rw [← hL.out]; exact (hA.drewN _).set k x, (hB.drewN _).setOther _ _ (by simp), (hC.drewN _).setOther _ _ (by simp), (below_drewN hb _).setCell (Nat.le_refl _) _⟩
      case measure => simp [intOf]; omega
    · rw [show (k : Int) = 4 by omega]
      obtain rfl : k = 4 := by omega
      rw [lims_mix4] at hA
      clear hB
      generalize bw m n 4 = c at *
      have hE := hend2.out
      go_wp2_with (first
        | (with_reducible refine wpList_load_n rfl 28 (.tmp 2) rfl w.heap.size rfl (lims d) 4 hA rfl Tryd.underlying28 Tryd.infoSc ?_)
        | (with_reducible refine wpList_store_n rfl 28 (.tmp 4) (.tmp 25) rfl (w.heap.size + 2) (lims d) 4 rfl rfl rfl (lims 0) hC Tryd.infoSc rfl w.heap.size w hb (by omega) ?_; intro w7 Hg _ _ hb7))
      exact bodyPost_ret (results_cell_slot rfl _ _ _ _ _ _ _ rfl Hg Tryd.underlying28 rfl (by rw [Tryd.infoSc]; rfl)) rfl ⟨rfl, hb7⟩

/-- L, less 2^252. -/
def OV : Nat := 27742317777372353535851937790883648493
theorem ov_limbs (n : Nat) (hn : n < 18446744073709551616) :
    [n * 6346243789798364141 % 18446744073709551616, (n * 1503914060200516822 + n * 6346243789798364141 / 18446744073709551616) % 18446744073709551616, (n * 1503914060200516822 + n * 6346243789798364141 / 18446744073709551616) / 18446744073709551616, 0] = lims (n * OV) := by
  have e : n * OV = limbs (n * 6346243789798364141 % 18446744073709551616) ((n * 1503914060200516822 + n * 6346243789798364141 / 18446744073709551616) % 18446744073709551616) ((n * 1503914060200516822 + n * 6346243789798364141 / 18446744073709551616) / 18446744073709551616) 0 := by
    unfold limbs OV; omega
  rw [e, lims_limbs (Nat.mod_lt _ (by decide)) (Nat.mod_lt _ (by decide)) (by omega) (by decide)]

set_option maxRecDepth 100000 in
set_option maxHeartbeats 1000000 in
theorem overTimes_any (n : Nat) (w : World) (hn : n < 18446744073709551616) :
    Calls Tryd.prog 85 #[.int .u64 (n : Int)] w (GaveF w (n * OV)) := by
  obtain ⟨hC, hb, hsz⟩ := sc_start w 0 #[.int .u64 0, .int .u64 0, .int .u64 0, .int .u64 0] (by kernel_rfl)
  have hov := ov_limbs n hn
  obtain ⟨k, hk⟩ : ∃ k, k = n * 6346243789798364141 / 18446744073709551616 := ⟨_, rfl⟩
  obtain ⟨a, ha⟩ : ∃ a, a = n * 6346243789798364141 % 18446744073709551616 := ⟨_, rfl⟩
  rw [← ha, ← hk] at hov
  obtain ⟨b, hb1⟩ : ∃ b, b = (n * 1503914060200516822 + k) % 18446744073709551616 := ⟨_, rfl⟩
  obtain ⟨c, hc1⟩ : ∃ c, c = (n * 1503914060200516822 + k) / 18446744073709551616 := ⟨_, rfl⟩
  rw [← hb1, ← hc1] at hov
  have T1 := fun W => timesPlus_any n 6346243789798364141 0 0 hn (by decide) (by decide) (by decide) W
  simp only [Nat.add_zero] at T1
  rw [← ha, ← hk] at T1
  have T2 := fun W => timesPlus_any n 1503914060200516822 k 0 hn (by decide) (by omega) (by decide) W
  simp only [Nat.add_zero] at T2
  rw [← hb1, ← hc1] at T2
  clear ha hk hb1 hc1
  have H1 : Hid (∀ W, Calls Tryd.prog 89 #[.int .u64 (n : Int), .int .u64 6346243789798364141, .int .u64 0, .int .u64 0] W fun e w' => e = .returned (.tuple #[.int .u64 (a : Int), .int .u64 (k : Int)]) ∧ w' = W) := Lib.hid T1
  have H2 : Hid (∀ W, Calls Tryd.prog 89 #[.int .u64 (n : Int), .int .u64 1503914060200516822, .int .u64 (k : Int), .int .u64 0] W fun e w' => e = .returned (.tuple #[.int .u64 (b : Int), .int .u64 (c : Int)]) ∧ w' = W) := Lib.hid T2
  have HV : Hid (Value.agg #[.int .u64 (a : Int), .int .u64 (b : Int), .int .u64 (c : Int), .int .u64 0] = .agg ((lims (n * OV)).map nv).toArray) := Lib.hid (by rw [← hov]; rfl)
  clear T1 T2 hov hsz
  unfold GaveF
  rw [fev_eq]
  generalize n * OV = s at *
  go_enter Tryd.func85, Tryd.ntmps85
  go_wp2_with (first
    | (go_at_call 89
       with_reducible refine (H1.out _).mono ?_
       rintro e w2 ⟨rfl, rfl⟩)
    | (go_at_call 89
       with_reducible refine (H2.out _).mono ?_
       rintro e w2 ⟨rfl, rfl⟩)
    | (with_reducible refine wpList_store_n rfl 28 (.tmp 2) (.tmp 20) rfl w.heap.size (lims s) 4 rfl (by with_unfolding_all exact HV.out) rfl (lims 0) (by with_unfolding_all exact hC) Tryd.infoSc rfl w.heap.size w (by with_unfolding_all exact hb) (Nat.le_refl _) ?_; intro w7 Hg _ _ hb7)
    | fail)
  exact bodyPost_ret (results_cell_row rfl _ _ _ _ _ _ _ rfl Hg Tryd.underlying28 rfl (by rw [Tryd.infoSc]; rfl)) rfl ⟨rfl, hb7⟩
end Sca
end Go.Proofs.YtlfkohanfeejfaaDoor
