/-
  A block goes in: the program's way.
-/
import Derived.Test.YtppaffamlfghjaaDoorShaMix
import Derived.Deep.RegionHeld3
import Derived.Laws.Tables
namespace Go.Proofs.YtppaffamlfghjaaDoor
open Go.RowKit

/-- The package's variables hold what the text lays. -/
def Laid (W : World) : Prop := (∀ j, j < 8 → W.cell? ⟨0, j, none⟩ = some (.int .u32 ((st0.list.getD j 0).toNat : Int))) ∧ (∀ j, j < 64 → W.cell? ⟨2, j, none⟩ = some (.int .u32 ((kk j).toNat : Int)))
theorem Laid.size {W : World} (h : Laid W) : 3 ≤ W.heap.size := by
  have h1 := h.2 0 (by omega)
  rcases Nat.lt_or_ge 2 W.heap.size with h2 | h2
  · exact h2
  · simp [World.cell?, Array.getElem?_eq_none h2] at h1
theorem Laid.keep {W W' : World} (h : Laid W) {D : Nat} (hb : Below D W W') (hD : 3 ≤ D) : Laid W' :=
  ⟨fun j hj => by rw [hb.cell (show 0 < D by omega)]; exact h.1 j hj, fun j hj => by rw [hb.cell (show 2 < D by omega)]; exact h.2 j hj⟩

/-- The ring while the block's own numbers come in. -/
def low (b : List UInt8) (k : Nat) : List UInt32 := (List.range 16).map fun j => if j < k then be32 (b.drop (4 * j)) else 0
theorem low_length (b : List UInt8) (k : Nat) : (low b k).length = 16 := by simp [low]
theorem low_set (b : List UInt8) (k : Nat) : (low b k).set k (be32 (b.drop (4 * k))) = low b (k + 1) := by
  refine List.ext_getElem (by simp [low]) fun j h1 h2 => ?_
  rw [List.getElem_set]
  simp only [low, List.getElem_map, List.getElem_range]
  split
  · next e => subst e; rw [if_pos (by omega)]
  · next e => by_cases h : j < k
              · rw [if_pos h, if_pos (by omega)]
              · rw [if_neg h, if_neg (by omega)]
theorem low_full (b : List UInt8) : low b 16 = ring b 0 := by
  unfold low ring
  refine List.map_congr_left fun j hj => ?_
  have hj : j < 16 := by simpa using hj
  rw [if_pos hj]
  unfold ringAt
  rw [show j + 16 * ((max 0 16 - 1 - j) / 16) = j by omega, ww_low b hj]

theorem sv_eq (s : St) : sv s = .agg #[.int .u32 (s.a.toNat : Int), .int .u32 (s.b.toNat : Int), .int .u32 (s.c.toNat : Int), .int .u32 (s.d.toNat : Int), .int .u32 (s.e.toNat : Int), .int .u32 (s.f.toNat : Int), .int .u32 (s.g.toNat : Int), .int .u32 (s.h.toNat : Int)] := rfl

theorem HoldsW.alloc {W : World} {ty g : Nat} {l : List UInt32} (h : HoldsW W ty g l) (o : Obj) : HoldsW (W.alloc o) ty g l :=
  by
  refine Eq.trans ?_ h
  simp only [World.alloc, Array.getElem?_push]
  rw [if_neg (Nat.ne_of_lt h.lt)]
theorem holds_new (W : World) (ty g : Nat) (cs : Array Value) (l : List UInt32) (hg : g = W.heap.size) (hc : cs = (l.map uv).toArray) : HoldsW (W.alloc (.cells cs ty)) ty g l := by
  subst hg hc
  exact heap_alloc_new W _
theorem HoldsW.setOther {W : World} {ty g : Nat} {l : List UInt32} (h : HoldsW W ty g l) (a : Addr) (v : Value) (hn : g ≠ a.block) : HoldsW (W.setCell a v) ty g l :=
  (heap_setCell_other W a g v hn).trans h

/-- The three blocks that the call begins with. -/
theorem three_new (w : World) (t1 t2 t3 : TypeId) (c1 c2 c3 : Array Value) (l1 l2 l3 : List UInt32) (h1 : c1 = (l1.map uv).toArray) (h2 : c2 = (l2.map uv).toArray) (h3 : c3 = (l3.map uv).toArray) :
    HoldsW (((w.alloc (.cells c1 t1)).alloc (.cells c2 t2)).alloc (.cells c3 t3)) t1 w.heap.size l1 ∧ HoldsW (((w.alloc (.cells c1 t1)).alloc (.cells c2 t2)).alloc (.cells c3 t3)) t2 (w.heap.size + 1) l2 ∧
    HoldsW (((w.alloc (.cells c1 t1)).alloc (.cells c2 t2)).alloc (.cells c3 t3)) t3 (w.heap.size + 1 + 1) l3 ∧ Below w.heap.size w (((w.alloc (.cells c1 t1)).alloc (.cells c2 t2)).alloc (.cells c3 t3)) := by
  have e1 : (w.alloc (.cells c1 t1)).heap.size = w.heap.size + 1 := World.size_alloc ..
  have e2 : ((w.alloc (.cells c1 t1)).alloc (.cells c2 t2)).heap.size = w.heap.size + 1 + 1 := by rw [World.size_alloc, World.size_alloc]
  have a1 : HoldsW (w.alloc (.cells c1 t1)) t1 w.heap.size l1 := holds_new w t1 _ c1 l1 rfl h1
  have a2 : HoldsW ((w.alloc (.cells c1 t1)).alloc (.cells c2 t2)) t2 (w.heap.size + 1) l2 := holds_new _ t2 _ c2 l2 e1.symm h2
  have a3 : HoldsW (((w.alloc (.cells c1 t1)).alloc (.cells c2 t2)).alloc (.cells c3 t3)) t3 (w.heap.size + 1 + 1) l3 := holds_new _ t3 _ c3 l3 e2.symm h3
  exact ⟨(a1.alloc _).alloc _, a2.alloc _, a3, (((Below.refl _ w).alloc (Nat.le_refl _) _).alloc (by rw [e1]; omega) _).alloc (by rw [e2]; omega) _⟩

theorem u_not (x : UInt32) : bits .xor .u32 IntKind.u32.max (x.toNat : Int) = ((~~~x).toNat : Int) := by
  have h1 : IntKind.u32.max = ((4294967295 : UInt32).toNat : Int) := by decide
  rw [h1, u_xor]
  refine u_inj (UInt32.toBitVec_inj.1 ?_)
  rw [UInt32.toBitVec_xor, UInt32.toBitVec_not]
  exact BitVec.allOnes_xor

theorem run_index_eight (x : St) (k : Nat) (w : World) (hk : k < 8) :
    (Instr.index 23 (.agg #[.int .u32 (x.a.toNat : Int), .int .u32 (x.b.toNat : Int), .int .u32 (x.c.toNat : Int), .int .u32 (x.d.toNat : Int), .int .u32 (x.e.toNat : Int), .int .u32 (x.f.toNat : Int), .int .u32 (x.g.toNat : Int), .int .u32 (x.h.toNat : Int)]) (.int .i64 (k : Int))).run Tryd.prog w =
      .ok (.int .u32 ((x.list.getD k 0).toNat : Int)) w := by
  match k, hk with
  | 0, _ => simp [Instr.index, run_underlying Tryd.underlying23, asIntOf, go_sem, St.list]
  | 1, _ => simp [Instr.index, run_underlying Tryd.underlying23, asIntOf, go_sem, St.list]
  | 2, _ => simp [Instr.index, run_underlying Tryd.underlying23, asIntOf, go_sem, St.list]
  | 3, _ => simp [Instr.index, run_underlying Tryd.underlying23, asIntOf, go_sem, St.list]
  | 4, _ => simp [Instr.index, run_underlying Tryd.underlying23, asIntOf, go_sem, St.list]
  | 5, _ => simp [Instr.index, run_underlying Tryd.underlying23, asIntOf, go_sem, St.list]
  | 6, _ => simp [Instr.index, run_underlying Tryd.underlying23, asIntOf, go_sem, St.list]
  | 7, _ => simp [Instr.index, run_underlying Tryd.underlying23, asIntOf, go_sem, St.list]

/-- Eight sums, k of them done. -/
def sums (x s : St) (k : Nat) : List UInt32 := (x.add s).list.take k ++ s.list.drop k
theorem sums_length (x s : St) (k : Nat) (hk : k ≤ 8) : (sums x s k).length = 8 := by simp [sums, St.list]; omega
theorem sums_at (x s : St) {k : Nat} (hk : k < 8) : (sums x s k).getD k 0 = s.list.getD k 0 := by
  match k, hk with
  | 0, _ => rfl
  | 1, _ => rfl
  | 2, _ => rfl
  | 3, _ => rfl
  | 4, _ => rfl
  | 5, _ => rfl
  | 6, _ => rfl
  | 7, _ => rfl
theorem sums_set (x s : St) {k : Nat} (hk : k < 8) : (sums x s k).set k (s.list.getD k 0 + x.list.getD k 0) = sums x s (k + 1) := by
  match k, hk with
  | 0, _ => rfl
  | 1, _ => rfl
  | 2, _ => rfl
  | 3, _ => rfl
  | 4, _ => rfl
  | 5, _ => rfl
  | 6, _ => rfl
  | 7, _ => rfl

theorem mixed_any (b : List UInt8) (k g ty : Nat) (w : World) (hk : k < 64) (h : HoldsW w ty g (ring b k)) :
    Calls Tryd.prog 60 #[.int .i64 (k : Int), .pointer (some ⟨g, 0, none⟩)] w fun e w' => e = .returned (.int .u32 ((ww b k).toNat : Int)) ∧ HoldsW w' ty g (ring b (k + 1)) ∧ Below g w w' := by
  rcases Nat.lt_or_ge k 16 with h1 | h1
  · refine (mixed_low b k g ty w h1 h).mono fun e w' ⟨he, hw⟩ => ⟨he, ?_, ?_⟩
    · subst hw; rw [ring_low b h1]; exact h
    · subst hw; exact Below.refl _ _
  · exact mixed_high b k g ty w h1 hk h

theorem Tryd.info8 : (Tryd.prog.info? 23).map (·.size) = some 8 := by kernel_rfl
theorem st_cells (s : St) : (s.list.map uv).toArray.size = 8 ∧ (s.list.map uv).toArray.all (·.oneCell') = true := ⟨rfl, by simp [St.list, uv, Value.oneCell']⟩

/-- 'x := s' of a state in a block. -/
theorem wpList_load_st {P : Program} {ops : Array Oper} {rest : List Oper} {o : Oper} {a : Act} {w : World} {Q : Exit → Act → World → Prop} (hgd : o.guard = none) (ty : TypeId) (x : Operand) (ho : o.op = .load ty x)
    (g : Nat) (hx : a.eval x = .pointer (some ⟨g, 0, none⟩)) (s : St) {e : TypeId} {n : Nat} (hg : HoldsW w ty g s.list)
    (hu : P.underlying ty = some (.array n e)) (hi : (P.info? ty).map (·.size) = some 8)
    (h : wpList P ops Q rest (a.put o.dst (sv s)) w) : wpList P ops Q (o :: rest) a w :=
  wpList_load_row hgd ty x ho g hx ty _ (0, 0) _ hg hu rfl (by rw [hi, (st_cells s).1]) h

/-- 'r = s' into a block of the call's own. -/
theorem wpList_store_st {P : Program} {ops : Array Oper} {rest : List Oper} {o : Oper} {a : Act} {w : World} {Q : Exit → Act → World → Prop} (hgd : o.guard = none) (ty : TypeId) (x y : Operand) (ho : o.op = .store ty x y)
    (g : Nat) (s : St) (hx : a.eval x = .pointer (some ⟨g, 0, none⟩)) (hy : a.eval y = sv s)
    (old : List UInt32) (hg : HoldsW w ty g old) (hi : (P.info? ty).map (·.size) = some 8) (hold : old.length = 8) (D : Nat) (w0 : World) (hb : Below D w0 w) (hD : D ≤ g)
    (h : ∀ w' : World, HoldsW w' ty g s.list → (∀ k, k ≠ g → w'.heap[k]? = w.heap[k]?) → w'.heap.size = w.heap.size → Below D w0 w' → wpList P ops Q rest (a.put o.dst undef) w') : wpList P ops Q (o :: rest) a w :=
  wpList_store_row hgd ty x y ho g _ hx hy ty _ hg (by rw [hi]; rfl) (show _ = 8 by simpa using hold) (st_cells s).2
    (h _ (show _ = _ from setRow_heap w g _ _ ty _ hg) (fun k hk => setRow_other w g k _ hk) (by simp) (below_setRow hb hD _))

set_option maxRecDepth 100000 in
set_option maxHeartbeats 1000000 in
theorem blockIn_any (A : Option Addr) (n c B : Nat) (l : List UInt8) (s : St) (w : World) (h : Sees w B A n c (l.map bv)) (hB : B ≤ w.heap.size) (hn : 64 ≤ n) (hm : n ≤ 2147483647) (L : Laid w) :
    Calls Tryd.prog 46 #[sv s, .slice A n c] w fun e w' => e = .returned (sv (blk s l)) ∧ Below w.heap.size w w' := by
  have hle := h.le
  have hmax := h.max
  rw [sv_eq]
  go_enter Tryd.func46, Tryd.ntmps46
  go_wp2
  go_loopw [21] (fun v wr => ∃ k : Nat, k ≤ 16 ∧ v = .int .i64 k ∧ HoldsW wr 23 w.heap.size s.list ∧ HoldsW wr 23 (w.heap.size + 1) [0, 0, 0, 0, 0, 0, 0, 0] ∧ HoldsW wr 87 (w.heap.size + 1 + 1) (low l k) ∧ Below w.heap.size w wr)
    (fun v _ => 16 - (intOf v).toNat)
  case atStart => exact ⟨0, Nat.zero_le _, rfl, three_new w _ _ _ _ _ _ _ _ _ rfl rfl rfl⟩
  case round =>
    obtain ⟨k, hk, rfl, hS, hR, hW, hb⟩ := hrel
    by_cases hlt : k < 16
    · have hlt2 : (k : Int) < 16 := by omega
      have h1 := (h.upTo hb hB).drop (k := 4 * k) (by omega)
      rw [if_neg (by omega), ← List.map_drop] at h1
      have hc := hW.cell (j := k) (by rw [low_length]; exact hlt)
      have hf := hW.frozen k
      go_wp2_with (go_at_call 59; refine (number_any _ _ _ _ _ _ h1 (by omega)).mono ?_; rintro e w' ⟨rfl, m, rfl⟩)
      go_roundw
      case rel => exact ⟨k + 1, by omega, by go_num, (hS.drewN m).setOther _ _ (by simp; omega), (hR.drewN m).setOther _ _ (by simp), by rw [← low_set]; exact (hW.drewN m).set k _, (below_drewN hb m).setCell (by simp; omega) _⟩
      case measure => simp [intOf]; omega
    · rw [show (k : Int) = 16 by omega]
      obtain rfl : k = 16 := by omega
      rw [low_full] at hW
      have Lr := L.keep hb L.size
      have c0 := hS.cell (j := 0) (by simp [St.list])
      have c1 := hS.cell (j := 1) (by simp [St.list])
      have c2 := hS.cell (j := 2) (by simp [St.list])
      have c3 := hS.cell (j := 3) (by simp [St.list])
      have c4 := hS.cell (j := 4) (by simp [St.list])
      have c5 := hS.cell (j := 5) (by simp [St.list])
      have c6 := hS.cell (j := 6) (by simp [St.list])
      have c7 := hS.cell (j := 7) (by simp [St.list])
      simp only [St.list, List.getD_cons_zero, List.getD_cons_succ] at c0 c1 c2 c3 c4 c5 c6 c7
      go_wp2
      go_quiet (fail)
      go_wp2
      go_loopw [8, 9, 10, 11, 12, 13, 14, 15, 49] (fun va vb vc vd ve vf vg vh v wq => ∃ k : Nat, k ≤ 64 ∧ va = .int .u32 ((rounds l s k).a.toNat : Int) ∧ vb = .int .u32 ((rounds l s k).b.toNat : Int) ∧ vc = .int .u32 ((rounds l s k).c.toNat : Int) ∧ vd = .int .u32 ((rounds l s k).d.toNat : Int) ∧
        ve = .int .u32 ((rounds l s k).e.toNat : Int) ∧ vf = .int .u32 ((rounds l s k).f.toNat : Int) ∧ vg = .int .u32 ((rounds l s k).g.toNat : Int) ∧ vh = .int .u32 ((rounds l s k).h.toNat : Int) ∧ v = .int .i64 k ∧
        HoldsW wq 23 w.heap.size s.list ∧ HoldsW wq 23 (w.heap.size + 1) [0, 0, 0, 0, 0, 0, 0, 0] ∧ HoldsW wq 87 (w.heap.size + 1 + 1) (ring l k) ∧ Below w.heap.size w wq)
        (fun _ _ _ _ _ _ _ _ v _ => 64 - (intOf v).toNat)
      case atStart => exact ⟨0, Nat.zero_le _, rfl, rfl, rfl, rfl, rfl, rfl, rfl, rfl, rfl, hS.drewN _, hR.drewN _, hW.drewN _, below_drewN hb _⟩
      case round =>
        clear Lr c0 c1 c2 c3 c4 c5 c6 c7 hS hR hW hb
        obtain ⟨k, hk, rfl, rfl, rfl, rfl, rfl, rfl, rfl, rfl, rfl, hS, hR, hW, hb⟩ := hrel
        have Lr := L.keep hb L.size
        by_cases hlt : k < 64
        · have hlt2 : (k : Int) < 64 := by omega
          have hcon := Lr.2 k hlt
          have hWd : HoldsW wr.drew 87 (w.heap.size + 1 + 1) (ring l k) := hW
          have h2 : 3 ≤ w.heap.size := L.size
          have hnext : Hid (rounds l s (k + 1) = rnd (rounds l s k) (kk k) (ww l k)) := Lib.hid rfl
          generalize rounds l s k = x at *
          have M1 : Hid (∀ W, Calls Tryd.prog 62 #[.int .u32 (x.e.toNat : Int), .int .i64 6, .int .i64 11, .int .i64 25] W (GaveU W (tmix x.e 6 11 25))) := Lib.hid fun W => turnedMix_any x.e 6 11 25 W (by omega) (by omega) (by omega) (by omega) (by omega) (by omega)
          have M2 : Hid (∀ W, Calls Tryd.prog 62 #[.int .u32 (x.a.toNat : Int), .int .i64 2, .int .i64 13, .int .i64 22] W (GaveU W (tmix x.a 2 13 22))) := Lib.hid fun W => turnedMix_any x.a 2 13 22 W (by omega) (by omega) (by omega) (by omega) (by omega) (by omega)
          go_wp2
          go_region_held3 (fun W => W.cell? ⟨2, k, none⟩ = some (.int .u32 ((kk k).toNat : Int)))
            (first | assumption | (rw [hbk.cell (show 2 < w.heap.size + 1 + 1 by omega)]; assumption) | simpa using hcon)
            (first | (go_at_call 62; (with_reducible refine (M1.out _).mono ?_); rintro e w' ⟨rfl, rfl⟩) | (go_at_call 60; refine (mixed_any l k _ _ _ hlt hWd).mono ?_; rintro e w' ⟨rfl, hWk, hbk⟩))
          simp only [u_addw, u_not, u_and, u_or]
          generalize ht1 : x.h + tmix x.e 6 11 25 + ((x.e &&& x.f) ||| (~~~x.e &&& x.g)) + kk k + ww l k = T1
          go_wp2_with (go_at_call 62; (with_reducible refine (M2.out _).mono ?_); rintro e w' ⟨rfl, rfl⟩)
          have hWk := ‹HoldsW _ _ _ (ring l (k + 1))›
          have hbk := ‹Below (w.heap.size + 1 + 1) wr.drew _›
          have Ea : Value.int .u32 (((T1.toNat : Int) + ((tmix x.a 2 13 22).toNat + bits .or .u32 (bits .or .u32 (bits .and .u32 x.a.toNat x.b.toNat) (bits .and .u32 x.a.toNat x.c.toNat)) (bits .and .u32 x.b.toNat x.c.toNat)) % 4294967296) % 4294967296) = .int .u32 ((rounds l s (k + 1)).a.toNat : Int) := by
            rw [hnext.out]; simp only [u_and, u_or, u_add]; subst ht1; rfl
          have Ee : Value.int .u32 (((x.d.toNat : Int) + T1.toNat) % 4294967296) = .int .u32 ((rounds l s (k + 1)).e.toNat : Int) := by
            rw [hnext.out]; simp only [u_add]; subst ht1; rfl
          go_roundw
          case rel => exact ⟨k + 1, by omega, Ea, by rw [hnext.out]; rfl, by rw [hnext.out]; rfl, by rw [hnext.out]; rfl, Ee, by rw [hnext.out]; rfl, by rw [hnext.out]; rfl, by rw [hnext.out]; rfl, by go_num, HoldsW.keep (W := wr.drew) hS hbk (by omega), HoldsW.keep (W := wr.drew) hR hbk (by omega), hWk, (Below.drew hb).trans (hbk.mono (by omega))⟩
          case measure => simp [intOf]; omega
        · rw [show (k : Int) = 64 by omega]
          obtain rfl : k = 64 := by omega
          have hx : Hid (blk s l = (rounds l s 64).add s) := Lib.hid rfl
          generalize rounds l s 64 = x at *
          clear hW
          go_wp2
          go_loopw [109] (fun v wq => ∃ k : Nat, k ≤ 8 ∧ v = .int .i64 k ∧ HoldsW wq 23 w.heap.size (sums x s k) ∧ HoldsW wq 23 (w.heap.size + 1) [0, 0, 0, 0, 0, 0, 0, 0] ∧ Below w.heap.size w wq)
            (fun v _ => 8 - (intOf v).toNat)
          case atStart => exact ⟨0, Nat.zero_le _, rfl, hS, hR, hb⟩
          case round =>
            clear hS hR hb
            obtain ⟨k, hk, rfl, hS, hR, hb⟩ := hrel
            by_cases hlt : k < 8
            · have hlt2 : (k : Int) < 8 := by omega
              have hix := fun W => run_index_eight x k W hlt
              have hc := hS.cell (j := k) (by rw [sums_length x s k hk]; exact hlt)
              rw [sums_at x s hlt] at hc
              have hf := hS.frozen k
              have hset := Lib.hid (sums_set x s hlt)
              generalize s.list.getD k 0 = p at *
              generalize x.list.getD k 0 = q at *
              go_wp2
              go_roundw
              case rel => exact ⟨k + 1, by omega, by go_num, by rw [← hset.out, u_add]; exact hS.set k (p + q), hR.setOther _ _ (by simp), hb.setCell (Nat.le_refl _) _⟩
              case measure => simp [intOf]; omega
            · rw [show (k : Int) = 8 by omega]
              obtain rfl : k = 8 := by omega
              have hS8 : HoldsW wr 23 w.heap.size (x.add s).list := hS
              clear hS
              go_wp2_with (first
                | (with_reducible refine wpList_load_st rfl 23 (.tmp 2) rfl w.heap.size rfl (x.add s) hS8 Tryd.underlying23 Tryd.info8 ?_)
                | (with_reducible refine wpList_store_st rfl 23 (.tmp 4) (.tmp 120) rfl (w.heap.size + 1) (x.add s) rfl rfl _ hR Tryd.info8 rfl w.heap.size w hb (by omega) ?_; intro w2 Hg _ _ hb2))
              rw [hx.out]
              exact bodyPost_ret (results_cell_row rfl _ _ _ _ _ _ _ rfl Hg Tryd.underlying23 rfl (by rw [Tryd.info8, (st_cells _).1])) rfl ⟨rfl, hb2⟩
end Go.Proofs.YtppaffamlfghjaaDoor
