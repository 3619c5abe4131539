/-
  A state's bytes; what fills up a block; whether a text may be.
-/
import Derived.Test.YtppaffamlfghjaaDoorShaBlock
import Derived.Test.YtppaffamlfghjaaDoorConcat
import Derived.RegionTactic
namespace Go.Proofs.YtppaffamlfghjaaDoor
open Go.RowKit

/-- Block g holds the bytes l, as an array of type ty. -/
def HoldsB (W : World) (ty g : Nat) (l : List UInt8) : Prop := W.heap[g]? = some (.cells (l.map bv).toArray ty (0, 0))
section
variable {W W' : World} {ty g : Nat} {l : List UInt8}
theorem HoldsB.lt (h : HoldsB W ty g l) : g < W.heap.size := (Array.getElem?_eq_some_iff.1 h).1
theorem HoldsB.keep (h : HoldsB W ty g l) {D : Nat} (hb : Below D W W') (hD : g < D) : HoldsB W' ty g l := (hb.block g hD).trans h
theorem HoldsB.cell (h : HoldsB W ty g l) {j : Nat} (hj : j < l.length) : W.cell? ⟨g, j, none⟩ = some (.int .u8 ((l.getD j 0).toNat : Int)) := by
  rw [cell_of_row W g j _ ty (0, 0) h]
  simp [bv, hj]
theorem HoldsB.frozen (h : HoldsB W ty g l) (j : Nat) : W.frozen? ⟨g, j, none⟩ = false := frozen_of_row W g j _ ty h
theorem HoldsB.set (h : HoldsB W ty g l) (j : Nat) (x : UInt8) : HoldsB (W.setCell ⟨g, j, none⟩ (.int .u8 (x.toNat : Int))) ty g (l.set j x) := by
  unfold HoldsB
  rw [heap_setCell_same W g j _ ty _ h]
  congr 2
  rw [List.map_set, List.setIfInBounds_toArray]
  rfl
theorem HoldsB.alloc (h : HoldsB W ty g l) (o : Obj) : HoldsB (W.alloc o) ty g l := by
  refine Eq.trans ?_ h
  simp only [World.alloc, Array.getElem?_push]
  rw [if_neg (Nat.ne_of_lt h.lt)]
theorem HoldsB.setOther (h : HoldsB W ty g l) (a : Addr) (v : Value) (hn : g ≠ a.block) : HoldsB (W.setCell a v) ty g l :=
  (heap_setCell_other W a g v hn).trans h
end

/-- The bytes below k; the others are 0. -/
def outL (s : St) (k : Nat) : List UInt8 := (List.range 32).map fun j => if j < k then outAt s j else 0
theorem outL_length (s : St) (k : Nat) : (outL s k).length = 32 := by simp [outL]
theorem outL_full (s : St) : outL s 32 = out32 s := by
  unfold outL out32
  refine List.map_congr_left fun j hj => ?_
  rw [if_pos (by simpa using hj)]
theorem outL_set (s : St) (k : Nat) : (outL s k).set k (outAt s k) = outL s (k + 1) := by
  refine List.ext_getElem (by simp [outL]) fun j h1 h2 => ?_
  rw [List.getElem_set]
  simp only [outL, List.getElem_map, List.getElem_range]
  split
  · next e => subst e; rw [if_pos (by omega)]
  · next e => by_cases h : j < k
              · rw [if_pos h, if_pos (by omega)]
              · rw [if_neg h, if_neg (by omega)]

theorem out_byte (x : UInt32) (r : Nat) : (x.toNat : Int) / 2 ^ (24 - 8 * r) % 256 = ((UInt8.ofNat (x.toNat / 2 ^ (24 - 8 * r))).toNat : Int) := by
  rw [UInt8.toNat_ofNat', two_pow_cast, ← Int.natCast_ediv]
  exact (Int.natCast_emod _ 256).symm

theorem Tryd.infoB32 : (Tryd.prog.info? 32).map (·.size) = some 32 := by kernel_rfl
theorem holdsB_new (W : World) (ty g : Nat) (cs : Array Value) (l : List UInt8) (hg : g = W.heap.size) (hc : cs = (l.map bv).toArray) : HoldsB (W.alloc (.cells cs ty)) ty g l := by
  subst hg hc
  exact heap_alloc_new W _
theorem b_cells (l : List UInt8) (hl : l.length = 32) : (l.map bv).toArray.size = 32 ∧ (l.map bv).toArray.all (·.oneCell') = true := by
  refine ⟨by simpa using hl, ?_⟩
  rw [Array.all_eq_true_iff_forall_mem]
  intro v hv
  exact bv_one l v (by simpa using hv)

/-- 'x := k' of thirty-two bytes in a block. -/
theorem wpList_load_b {P : Program} {ops : Array Oper} {rest : List Oper} {o : Oper} {a : Act} {w : World} {Q : Exit → Act → World → Prop} (hgd : o.guard = none) (ty : TypeId) (x : Operand) (ho : o.op = .load ty x)
    (g : Nat) (hx : a.eval x = .pointer (some ⟨g, 0, none⟩)) (l : List UInt8) (hl : l.length = 32) {e : TypeId} {n : Nat} (hg : HoldsB w ty g l)
    (hu : P.underlying ty = some (.array n e)) (hi : (P.info? ty).map (·.size) = some 32)
    (h : wpList P ops Q rest (a.put o.dst (.agg (l.map bv).toArray)) w) : wpList P ops Q (o :: rest) a w :=
  wpList_load_row hgd ty x ho g hx ty _ (0, 0) _ hg hu rfl (by rw [hi, (b_cells l hl).1]) h

/-- 'r = k' into a block of the call's own. -/
theorem wpList_store_b {P : Program} {ops : Array Oper} {rest : List Oper} {o : Oper} {a : Act} {w : World} {Q : Exit → Act → World → Prop} (hgd : o.guard = none) (ty : TypeId) (x y : Operand) (ho : o.op = .store ty x y)
    (g : Nat) (l : List UInt8) (hl : l.length = 32) (hx : a.eval x = .pointer (some ⟨g, 0, none⟩)) (hy : a.eval y = .agg (l.map bv).toArray)
    (old : List UInt8) (hg : HoldsB w ty g old) (hi : (P.info? ty).map (·.size) = some 32) (hold : old.length = 32) (D : Nat) (w0 : World) (hb : Below D w0 w) (hD : D ≤ g)
    (h : ∀ w' : World, HoldsB w' ty g l → (∀ k, k ≠ g → w'.heap[k]? = w.heap[k]?) → w'.heap.size = w.heap.size → Below D w0 w' → wpList P ops Q rest (a.put o.dst undef) w') : wpList P ops Q (o :: rest) a w :=
  wpList_store_row hgd ty x y ho g _ hx hy ty _ hg (by rw [hi, (b_cells l hl).1]) (by rw [(b_cells l hl).1]; simpa using hold) (b_cells l hl).2
    (h _ (show _ = _ from setRow_heap w g _ _ ty _ hg) (fun k hk => setRow_other w g k _ hk) (by simp) (below_setRow hb hD _))

theorem nb_start (w : World) (t1 t2 t3 : TypeId) (c1 c2 c3 : Array Value) (l1 : List UInt32) (l2 l3 : List UInt8) (h1 : c1 = (l1.map uv).toArray) (h2 : c2 = (l2.map bv).toArray) (h3 : c3 = (l3.map bv).toArray) :
    HoldsW (((w.alloc (.cells c1 t1)).alloc (.cells c2 t2)).alloc (.cells c3 t3)) t1 w.heap.size l1 ∧ HoldsB (((w.alloc (.cells c1 t1)).alloc (.cells c2 t2)).alloc (.cells c3 t3)) t2 (w.heap.size + 1) l2 ∧
    HoldsB (((w.alloc (.cells c1 t1)).alloc (.cells c2 t2)).alloc (.cells c3 t3)) t3 (w.heap.size + 1 + 1) l3 ∧ Below w.heap.size w (((w.alloc (.cells c1 t1)).alloc (.cells c2 t2)).alloc (.cells c3 t3)) := by
  have e1 : (w.alloc (.cells c1 t1)).heap.size = w.heap.size + 1 := World.size_alloc ..
  have e2 : ((w.alloc (.cells c1 t1)).alloc (.cells c2 t2)).heap.size = w.heap.size + 1 + 1 := by rw [World.size_alloc, World.size_alloc]
  have a1 : HoldsW (w.alloc (.cells c1 t1)) t1 w.heap.size l1 := holds_new w t1 _ c1 l1 rfl h1
  have a2 : HoldsB ((w.alloc (.cells c1 t1)).alloc (.cells c2 t2)) t2 (w.heap.size + 1) l2 := holdsB_new _ t2 _ c2 l2 e1.symm h2
  have a3 : HoldsB (((w.alloc (.cells c1 t1)).alloc (.cells c2 t2)).alloc (.cells c3 t3)) t3 (w.heap.size + 1 + 1) l3 := holdsB_new _ t3 _ c3 l3 e2.symm h3
  exact ⟨(a1.alloc _).alloc _, a2.alloc _, a3, (((Below.refl _ w).alloc (Nat.le_refl _) _).alloc (by rw [e1]; omega) _).alloc (by rw [e2]; omega) _⟩

set_option maxRecDepth 100000 in
set_option maxHeartbeats 1000000 in
theorem numbersBytes_any (s : St) (w : World) :
    Calls Tryd.prog 37 #[sv s] w fun e w' => e = .returned (.agg ((out32 s).map bv).toArray) ∧ Below w.heap.size w w' := by
  rw [sv_eq]
  go_enter Tryd.func37, Tryd.ntmps37
  go_wp2
  go_loopw [5] (fun v wr => ∃ k : Nat, k ≤ 32 ∧ v = .int .i64 k ∧ HoldsW wr 23 w.heap.size s.list ∧ HoldsB wr 32 (w.heap.size + 1) (List.replicate 32 0) ∧ HoldsB wr 32 (w.heap.size + 1 + 1) (outL s k) ∧ Below w.heap.size w wr)
    (fun v _ => 32 - (intOf v).toNat)
  case atStart => exact ⟨0, Nat.zero_le _, rfl, nb_start w _ _ _ _ _ _ _ _ _ rfl rfl rfl⟩
  case round =>
    obtain ⟨k, hk, rfl, hS, hR, hO, hb⟩ := hrel
    by_cases hlt : k < 32
    · have hlt2 : (k : Int) < 32 := by omega
      have hc := hS.cell (j := k / 4) (by simp [St.list]; omega)
      have ho := hO.cell (j := k) (by rw [outL_length]; exact hlt)
      have hf := hO.frozen k
      have hset := Lib.hid (outL_set s k)
      have hat : Hid (outAt s k = UInt8.ofNat ((s.list.getD (k / 4) 0).toNat / 2 ^ (24 - 8 * (k % 4)))) := Lib.hid rfl
      have eq4 : (k : Int).tdiv 4 = ((k / 4 : Nat) : Int) := by rw [Int.tdiv_eq_ediv_of_nonneg (by omega)]; omega
      have em4 : (k : Int).tmod 4 = ((k % 4 : Nat) : Int) := by rw [Int.tmod_eq_emod_of_nonneg (by omega)]; omega
      have lq : ((k / 4 : Nat) : Int) < 8 := by omega
      have hr4 : k % 4 < 4 := by omega
      have hob := Lib.hid (out_byte (s.list.getD (k / 4) 0) (k % 4))
      generalize s.list.getD (k / 4) 0 = x at *
      generalize k / 4 = q at *
      generalize k % 4 = r at *
      have lr : (r : Int) < 4 := by omega
      have lr2 : (0 : Int) ≤ 24 - 8 * r := by omega
      have wr1 : IntKind.i64.wrap (8 * (r : Int)) = 8 * r := by simp only [IntKind.wrap, IntKind.bits, IntKind.signed]; simp; omega
      have wr2 : IntKind.i64.wrap (24 - 8 * (r : Int)) = 24 - 8 * r := by simp only [IntKind.wrap, IntKind.bits, IntKind.signed]; simp; omega
      go_wp2
      go_roundw
      case rel => exact ⟨k + 1, by omega, by go_num, hS.setOther _ _ (by simp; omega), hR.setOther _ _ (by simp), by rw [hob.out, ← hat.out, ← hset.out]; exact hO.set k _, hb.setCell (by simp; omega) _⟩
      case measure => simp [intOf]; omega
    · rw [show (k : Int) = 32 by omega]
      obtain rfl : k = 32 := by omega
      rw [outL_full] at hO
      go_wp2_with (first
        | (with_reducible refine wpList_load_b rfl 32 (.tmp 3) rfl (w.heap.size + 1 + 1) rfl (out32 s) (out32_length s) hO Tryd.underlying32 Tryd.infoB32 ?_)
        | (with_reducible refine wpList_store_b rfl 32 (.tmp 2) (.tmp 21) rfl (w.heap.size + 1) (out32 s) (out32_length s) rfl rfl _ hR Tryd.infoB32 (by simp) w.heap.size w hb (by omega) ?_; intro w2 Hg _ _ hb2))
      exact bodyPost_ret (results_cell_row rfl _ _ _ _ _ _ _ rfl Hg Tryd.underlying32 rfl (by rw [Tryd.infoB32, (b_cells _ (out32_length s)).1])) rfl ⟨rfl, hb2⟩

/-- A text that is summed, as a value. -/
def hv (s : St) (A : Option Addr) (n c m : Nat) : Value := .agg #[.int .u32 (s.a.toNat : Int), .int .u32 (s.b.toNat : Int), .int .u32 (s.c.toNat : Int), .int .u32 (s.d.toNat : Int), .int .u32 (s.e.toNat : Int), .int .u32 (s.f.toNat : Int), .int .u32 (s.g.toNat : Int), .int .u32 (s.h.toNat : Int), .slice A n c, .int .u64 (m : Int)]

set_option maxRecDepth 100000 in
theorem isText_any (s : St) (A : Option Addr) (n c m : Nat) (w : World) (hn : n ≤ 2147483647) :
    Calls Tryd.prog 31 #[hv s A n c m] w fun e w' => e = .returned (.bool ((n : Int) == (m : Int) % 64)) ∧ Below w.heap.size w w' := by
  unfold hv
  go_enter Tryd.func31, Tryd.ntmps31
  go_wp2
  go_ret
  exact ⟨rfl, (Below.refl _ _).alloc (Nat.le_refl _) _⟩

/-- A block of bytes read as a slice. -/
theorem HoldsB.sees {W : World} {ty g n : Nat} {l : List UInt8} (h : HoldsB W ty g l) (hl : l.length = n) (hm : n ≤ 2147483647) : Sees W (g + 1) (some ⟨g, 0, none⟩) n n (l.map bv) := by
  refine ⟨by simpa using hl, Nat.le_refl _, by simp only [maxLen]; omega, (fun h => by cases h), fun _ => ⟨g, 0, rfl, by omega, fun j u hu => ?_⟩⟩
  obtain ⟨hk, rfl⟩ := bv_get hu
  rw [Nat.zero_add, cell_of_row W g j _ ty (0, 0) h]
  simp [hk]

/-- 'make([]byte, n)': a new block of n zeros. -/
theorem wpList_make_zeros {P : Program} (w : World) {ops : Array Oper} {rest : List Oper} {o : Oper} {a : Act} {Q : Exit → Act → World → Prop}
    (hg : o.guard = none) (l r : Operand) (t : TypeId) (hop : o.op = Op.makeSlice t l r)
    (e : TypeId) (i : TypeInfo) (h1 : P.underlying t = some (.slice e)) (h2 : P.info? e = some i) (h3 : i.zero = some (.int .u8 0)) (h4 : i.size = 1)
    (kl kc : IntKind) (L C : Int) (n : Nat) (hl : a.eval l = .int kl L) (hc : a.eval r = .int kc C) (hL : L = (n : Int)) (hC : C = (n : Int)) (b2 : i.bytes * n ≤ 281474976710656) (b3 : n ≤ maxLen) (D : Nat) (w0 : World) (hb : Below D w0 w) (hD : D ≤ w.heap.size)
    (hK : ∀ w1 : World, HoldsB w1 e w.heap.size (List.replicate n 0) → w1.heap.size = w.heap.size + 1 → Below D w0 w1 → wpList P ops Q rest (a.put o.dst (.slice (some ⟨w.heap.size, 0, none⟩) n n)) w1) :
    wpList P ops Q (o :: rest) a w := by
  refine wpList_plain hg fun K hK' => ?_
  subst hL
  subst hC
  have hb' : (i.bytes : Int) * (n : Int) ≤ 281474976710656 := by
    have h : ((i.bytes * n : Nat) : Int) ≤ 281474976710656 := by omega
    rwa [Int.natCast_mul] at h
  have hrun := run_make (P := P) w t e i _ h1 h2 h3 kl kc n n (by omega) (by omega) hb' (by simp only [maxLen] at b3; omega)
  simp only [Int.toNat_natCast, h4, Nat.mul_one] at hrun
  unfold Oper.wp
  simp [execOp, hop, hl, hc, hrun, Result.andThen]
  refine hK' _ _ (hK _ ?_ (World.size_alloc ..) (hb.alloc hD _))
  have hz : madeCells (Value.cells (.int .u8 0)) n = ((List.replicate n (0 : UInt8)).map bv).toArray := by
    apply Array.toList_inj.1
    rw [show Value.cells (.int .u8 0) = #[.int .u8 0] from rfl, toList_madeCells_one]
    simp [bv]
  rw [hz]
  exact heap_alloc_new w _

set_option maxRecDepth 100000 in
set_option maxHeartbeats 400000 in
theorem filling_any (s : St) (A : Option Addr) (n c m : Nat) (w : World) (hn : n < 64) :
    Calls Tryd.prog 39 #[hv s A n c m] w fun e w' => ∃ A' c', e = .returned (.slice A' (64 - (n + 8) % 64) c') ∧ Sees w' w'.heap.size A' (64 - (n + 8) % 64) c' (((128 : UInt8) :: List.replicate (64 - (n + 8) % 64 - 1) 0).map bv) ∧ Below w.heap.size w w' := by
  obtain ⟨i0, hi0, hz0, hz1, hz2⟩ := info_parts Tryd.infoU8
  have Hz2 := Lib.hid hz2
  clear hz2
  have hM : (64 : Int) - ((n : Int) + 8) % 64 = ((64 - (n + 8) % 64 : Nat) : Int) := by omega
  have hM1 : 1 ≤ 64 - (n + 8) % 64 := by omega
  have hM2 : 64 - (n + 8) % 64 ≤ 64 := by omega
  generalize 64 - (n + 8) % 64 = M at *
  have hM3 : (0 : Int) < M := by omega
  have hb0 : ∀ o, Below w.heap.size w (w.alloc o) := fun o => (Below.refl _ w).alloc (Nat.le_refl _) o
  unfold hv
  go_enter Tryd.func39, Tryd.ntmps39
  go_wp2_with (first
    | (at_make; refine wpList_make_zeros _ rfl (.tmp 11) (.tmp 11) _ rfl 5 i0 Tryd.underlying24 hi0 hz0 hz1 .i64 .i64 _ _ M rfl rfl (by first | rfl | exact hM) (by first | rfl | exact hM) (by rw [Hz2.out]; omega) (by simp only [maxLen]; omega) w.heap.size w (hb0 _) (by simp) ?_
       intro w1 hO hs hb
       rw [World.size_alloc] at hO hs
       have hc := hO.cell (j := 0) (by rw [List.length_replicate]; omega)
       have hf := hO.frozen 0))
  go_ret
  have hO2 : HoldsB (w1.setCell ⟨w.heap.size + 1, 0, none⟩ (.int .u8 ((128 : UInt8).toNat : Int))) 5 (w.heap.size + 1) ((List.replicate M 0).set 0 128) := by
    have := hO.set 0 128
    simpa using this
  have hl : (List.replicate M (0 : UInt8)).set 0 128 = 128 :: List.replicate (M - 1) 0 := by
    obtain ⟨k, rfl⟩ : ∃ k, M = k + 1 := ⟨M - 1, by omega⟩
    rfl
  rw [hl] at hO2
  refine ⟨_, _, rfl, (hO2.sees (n := M) (by simp; omega) (by omega)).more (by simp [hs]), hb.setCell (by simp) _⟩
end Go.Proofs.YtppaffamlfghjaaDoor
