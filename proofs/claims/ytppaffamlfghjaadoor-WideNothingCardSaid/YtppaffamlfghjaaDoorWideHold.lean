/-
  Blocks that hold numbers of 64 bits; the package's variables; what a block's words are, some of them there.
-/
import Derived.Test.YtppaffamlfghjaaDoorWideOps
import Derived.Deep.RegionHeld3
import Derived.Laws.Tables
import Derived.RegionTactic
import Derived.Great.Walk
import Derived.Great.BuildSlice
namespace Go.Proofs.YtppaffamlfghjaaDoor
open Go.RowKit

/-- Block g holds the numbers l, as an array of type ty. -/
def HoldsW (W : World) (ty g : Nat) (l : List UInt64) : Prop := W.heap[g]? = some (.cells (l.map uv).toArray ty (0, 0))
section
variable {W W' : World} {ty g : Nat} {l : List UInt64}
theorem HoldsW.lt (h : HoldsW W ty g l) : g < W.heap.size := (Array.getElem?_eq_some_iff.1 h).1
theorem HoldsW.keep (h : HoldsW W ty g l) {D : Nat} (hb : Below D W W') (hD : g < D) : HoldsW W' ty g l := (hb.block g hD).trans h
theorem HoldsW.cell (h : HoldsW W ty g l) {j : Nat} (hj : j < l.length) : W.cell? ⟨g, j, none⟩ = some (.int .u64 ((l.getD j 0).toNat : Int)) := by
  rw [cell_of_row W g j _ ty (0, 0) h]
  simp [uv, hj]
theorem HoldsW.frozen (h : HoldsW W ty g l) (j : Nat) : W.frozen? ⟨g, j, none⟩ = false := frozen_of_row W g j _ ty h
theorem HoldsW.set (h : HoldsW W ty g l) (j : Nat) (x : UInt64) : HoldsW (W.setCell ⟨g, j, none⟩ (.int .u64 (x.toNat : Int))) ty g (l.set j x) := by
  unfold HoldsW
  rw [heap_setCell_same W g j _ ty _ h]
  congr 2
  rw [List.map_set, List.setIfInBounds_toArray]
  rfl
theorem HoldsW.drewN (h : HoldsW W ty g l) (n : Nat) : HoldsW (W.drewN n) ty g l := h
end

theorem u_addw (x y : UInt64) : IntKind.u64.wrap ((x.toNat : Int) + (y.toNat : Int)) = ((x + y).toNat : Int) := by
  rw [IntKind.wrap_u64]; exact u_add x y

/-- The package's variables hold what the text lays. -/
def Laid (W : World) : Prop := (∀ j, j < 8 → W.cell? ⟨1, j, none⟩ = some (.int .u64 ((st0.list.getD j 0).toNat : Int))) ∧ (∀ j, j < 80 → W.cell? ⟨3, j, none⟩ = some (.int .u64 ((kk j).toNat : Int)))
theorem Laid.size {W : World} (h : Laid W) : 4 ≤ W.heap.size := by
  have h1 := h.2 0 (by omega)
  rcases Nat.lt_or_ge 3 W.heap.size with h2 | h2
  · exact h2
  · simp [World.cell?, Array.getElem?_eq_none h2] at h1
theorem Laid.keep {W W' : World} (h : Laid W) {D : Nat} (hb : Below D W W') (hD : 4 ≤ D) : Laid W' :=
  ⟨fun j hj => by rw [hb.cell (show 1 < D by omega)]; exact h.1 j hj, fun j hj => by rw [hb.cell (show 3 < D by omega)]; exact h.2 j hj⟩

theorem sv_eq (s : St) : sv s = .agg #[.int .u64 (s.a.toNat : Int), .int .u64 (s.b.toNat : Int), .int .u64 (s.c.toNat : Int), .int .u64 (s.d.toNat : Int), .int .u64 (s.e.toNat : Int), .int .u64 (s.f.toNat : Int), .int .u64 (s.g.toNat : Int), .int .u64 (s.h.toNat : Int)] := rfl

theorem HoldsW.alloc {W : World} {ty g : Nat} {l : List UInt64} (h : HoldsW W ty g l) (o : Obj) : HoldsW (W.alloc o) ty g l :=
  by
  refine Eq.trans ?_ h
  simp only [World.alloc, Array.getElem?_push]
  rw [if_neg (Nat.ne_of_lt h.lt)]
theorem holds_new (W : World) (ty g : Nat) (cs : Array Value) (l : List UInt64) (hg : g = W.heap.size) (hc : cs = (l.map uv).toArray) : HoldsW (W.alloc (.cells cs ty)) ty g l := by
  subst hg hc
  exact heap_alloc_new W _
theorem HoldsW.setOther {W : World} {ty g : Nat} {l : List UInt64} (h : HoldsW W ty g l) (a : Addr) (v : Value) (hn : g ≠ a.block) : HoldsW (W.setCell a v) ty g l :=
  (heap_setCell_other W a g v hn).trans h

/-- The three blocks that the call begins with. -/
theorem three_new (w : World) (t1 t2 t3 : TypeId) (c1 c2 c3 : Array Value) (l1 l2 l3 : List UInt64) (h1 : c1 = (l1.map uv).toArray) (h2 : c2 = (l2.map uv).toArray) (h3 : c3 = (l3.map uv).toArray) :
    HoldsW (((w.alloc (.cells c1 t1)).alloc (.cells c2 t2)).alloc (.cells c3 t3)) t1 w.heap.size l1 ∧ HoldsW (((w.alloc (.cells c1 t1)).alloc (.cells c2 t2)).alloc (.cells c3 t3)) t2 (w.heap.size + 1) l2 ∧
    HoldsW (((w.alloc (.cells c1 t1)).alloc (.cells c2 t2)).alloc (.cells c3 t3)) t3 (w.heap.size + 1 + 1) l3 ∧ Below w.heap.size w (((w.alloc (.cells c1 t1)).alloc (.cells c2 t2)).alloc (.cells c3 t3)) := by
  have e1 : (w.alloc (.cells c1 t1)).heap.size = w.heap.size + 1 := World.size_alloc ..
  have e2 : ((w.alloc (.cells c1 t1)).alloc (.cells c2 t2)).heap.size = w.heap.size + 1 + 1 := by rw [World.size_alloc, World.size_alloc]
  have a1 : HoldsW (w.alloc (.cells c1 t1)) t1 w.heap.size l1 := holds_new w t1 _ c1 l1 rfl h1
  have a2 : HoldsW ((w.alloc (.cells c1 t1)).alloc (.cells c2 t2)) t2 (w.heap.size + 1) l2 := holds_new _ t2 _ c2 l2 e1.symm h2
  have a3 : HoldsW (((w.alloc (.cells c1 t1)).alloc (.cells c2 t2)).alloc (.cells c3 t3)) t3 (w.heap.size + 1 + 1) l3 := holds_new _ t3 _ c3 l3 e2.symm h3
  exact ⟨(a1.alloc _).alloc _, a2.alloc _, a3, (((Below.refl _ w).alloc (Nat.le_refl _) _).alloc (by rw [e1]; omega) _).alloc (by rw [e2]; omega) _⟩

theorem u_not (x : UInt64) : bits .xor .u64 IntKind.u64.max (x.toNat : Int) = ((~~~x).toNat : Int) := by
  have h1 : IntKind.u64.max = ((18446744073709551615 : UInt64).toNat : Int) := by decide
  rw [h1, u_xor]
  refine u_inj (UInt64.toBitVec_inj.1 ?_)
  rw [UInt64.toBitVec_xor, UInt64.toBitVec_not]
  exact BitVec.allOnes_xor

theorem run_index_eight (x : St) (k : Nat) (w : World) (hk : k < 8) :
    (Instr.index 43 (.agg #[.int .u64 (x.a.toNat : Int), .int .u64 (x.b.toNat : Int), .int .u64 (x.c.toNat : Int), .int .u64 (x.d.toNat : Int), .int .u64 (x.e.toNat : Int), .int .u64 (x.f.toNat : Int), .int .u64 (x.g.toNat : Int), .int .u64 (x.h.toNat : Int)]) (.int .i64 (k : Int))).run Tryd.prog w =
      .ok (.int .u64 ((x.list.getD k 0).toNat : Int)) w := by
  match k, hk with
  | 0, _ => simp [Instr.index, run_underlying Tryd.underlying43, asIntOf, go_sem, St.list]
  | 1, _ => simp [Instr.index, run_underlying Tryd.underlying43, asIntOf, go_sem, St.list]
  | 2, _ => simp [Instr.index, run_underlying Tryd.underlying43, asIntOf, go_sem, St.list]
  | 3, _ => simp [Instr.index, run_underlying Tryd.underlying43, asIntOf, go_sem, St.list]
  | 4, _ => simp [Instr.index, run_underlying Tryd.underlying43, asIntOf, go_sem, St.list]
  | 5, _ => simp [Instr.index, run_underlying Tryd.underlying43, asIntOf, go_sem, St.list]
  | 6, _ => simp [Instr.index, run_underlying Tryd.underlying43, asIntOf, go_sem, St.list]
  | 7, _ => simp [Instr.index, run_underlying Tryd.underlying43, asIntOf, go_sem, St.list]

/-- Eight sums, k of them done. -/
def sums (x s : St) (k : Nat) : List UInt64 := (x.add s).list.take k ++ s.list.drop k
theorem sums_length (x s : St) (k : Nat) (hk : k ≤ 8) : (sums x s k).length = 8 := by simp [sums, St.list]; omega
theorem sums_at (x s : St) {k : Nat} (hk : k < 8) : (sums x s k).getD k 0 = s.list.getD k 0 := by
  match k, hk with
  | 0, _ => rfl
  | 1, _ => rfl
  | 2, _ => rfl
  | 3, _ => rfl
  | 4, _ => rfl
  | 5, _ => rfl
  | 6, _ => rfl
  | 7, _ => rfl
theorem sums_set (x s : St) {k : Nat} (hk : k < 8) : (sums x s k).set k (s.list.getD k 0 + x.list.getD k 0) = sums x s (k + 1) := by
  match k, hk with
  | 0, _ => rfl
  | 1, _ => rfl
  | 2, _ => rfl
  | 3, _ => rfl
  | 4, _ => rfl
  | 5, _ => rfl
  | 6, _ => rfl
  | 7, _ => rfl

theorem Tryd.info8 : (Tryd.prog.info? 43).map (·.size) = some 8 := by kernel_rfl
theorem st_cells (s : St) : (s.list.map uv).toArray.size = 8 ∧ (s.list.map uv).toArray.all (·.oneCell') = true := ⟨rfl, by simp [St.list, uv, Value.oneCell']⟩

/-- 'x := s' of a state in a block. -/
theorem wpList_load_st {P : Program} {ops : Array Oper} {rest : List Oper} {o : Oper} {a : Act} {w : World} {Q : Exit → Act → World → Prop} (hgd : o.guard = none) (ty : TypeId) (x : Operand) (ho : o.op = .load ty x)
    (g : Nat) (hx : a.eval x = .pointer (some ⟨g, 0, none⟩)) (s : St) {e : TypeId} {n : Nat} (hg : HoldsW w ty g s.list)
    (hu : P.underlying ty = some (.array n e)) (hi : (P.info? ty).map (·.size) = some 8)
    (h : wpList P ops Q rest (a.put o.dst (sv s)) w) : wpList P ops Q (o :: rest) a w :=
  wpList_load_row hgd ty x ho g hx ty _ (0, 0) _ hg hu rfl (by rw [hi, (st_cells s).1]) h

/-- 'r = s' into a block of the call's own. -/
theorem wpList_store_st {P : Program} {ops : Array Oper} {rest : List Oper} {o : Oper} {a : Act} {w : World} {Q : Exit → Act → World → Prop} (hgd : o.guard = none) (ty : TypeId) (x y : Operand) (ho : o.op = .store ty x y)
    (g : Nat) (s : St) (hx : a.eval x = .pointer (some ⟨g, 0, none⟩)) (hy : a.eval y = sv s)
    (old : List UInt64) (hg : HoldsW w ty g old) (hi : (P.info? ty).map (·.size) = some 8) (hold : old.length = 8) (D : Nat) (w0 : World) (hb : Below D w0 w) (hD : D ≤ g)
    (h : ∀ w' : World, HoldsW w' ty g s.list → (∀ k, k ≠ g → w'.heap[k]? = w.heap[k]?) → w'.heap.size = w.heap.size → Below D w0 w' → wpList P ops Q rest (a.put o.dst undef) w') : wpList P ops Q (o :: rest) a w :=
  wpList_store_row hgd ty x y ho g _ hx hy ty _ hg (by rw [hi]; rfl) (show _ = 8 by simpa using hold) (st_cells s).2
    (h _ (show _ = _ from setRow_heap w g _ _ ty _ hg) (fun k hk => setRow_other w g k _ hk) (by simp) (below_setRow hb hD _))

/-- 'x := a' of an array of numbers in a block. -/
theorem wpList_load_w {P : Program} {ops : Array Oper} {rest : List Oper} {o : Oper} {a : Act} {w : World} {Q : Exit → Act → World → Prop} (hgd : o.guard = none) (ty : TypeId) (x : Operand) (ho : o.op = .load ty x)
    (g : Nat) (hx : a.eval x = .pointer (some ⟨g, 0, none⟩)) (l : List UInt64) (m : Nat) {e : TypeId} {n : Nat} (hg : HoldsW w ty g l) (hl : l.length = m)
    (hu : P.underlying ty = some (.array n e)) (hi : (P.info? ty).map (·.size) = some m)
    (h : wpList P ops Q rest (a.put o.dst (.agg (l.map uv).toArray)) w) : wpList P ops Q (o :: rest) a w :=
  wpList_load_row hgd ty x ho g hx ty _ (0, 0) _ hg hu rfl (by rw [hi]; simp [hl]) h

theorem w_one (l : List UInt64) : (l.map uv).toArray.all (·.oneCell') = true := by
  rw [Array.all_eq_true_iff_forall_mem]
  intro v hv
  obtain ⟨x, _, rfl⟩ := List.mem_map.1 (by simpa using hv)
  rfl

theorem wpList_store_w {P : Program} {ops : Array Oper} {rest : List Oper} {o : Oper} {a : Act} {w : World} {Q : Exit → Act → World → Prop} (hgd : o.guard = none) (ty : TypeId) (x y : Operand) (ho : o.op = .store ty x y)
    (g : Nat) (l : List UInt64) (m : Nat) (hx : a.eval x = .pointer (some ⟨g, 0, none⟩)) (hy : a.eval y = .agg (l.map uv).toArray) (hl : l.length = m)
    (old : List UInt64) (hg : HoldsW w ty g old) (hi : (P.info? ty).map (·.size) = some m) (hold : old.length = m) (D : Nat) (w0 : World) (hb : Below D w0 w) (hD : D ≤ g)
    (h : ∀ w' : World, HoldsW w' ty g l → (∀ k, k ≠ g → w'.heap[k]? = w.heap[k]?) → w'.heap.size = w.heap.size → Below D w0 w' → wpList P ops Q rest (a.put o.dst undef) w') : wpList P ops Q (o :: rest) a w :=
  wpList_store_row hgd ty x y ho g _ hx hy ty _ hg (by rw [hi]; simp [hl]) (by simp [hl, hold]) (w_one l)
    (h _ (show _ = _ from setRow_heap w g _ _ ty _ hg) (fun k hk => setRow_other w g k _ hk) (by simp) (below_setRow hb hD _))
theorem Tryd.info64 : (Tryd.prog.info? 81).map (·.size) = some 80 := by kernel_rfl

/-- The words below k; the others are 0. -/
def wsl (b : List UInt8) (k : Nat) : List UInt64 := (List.range 80).map fun j => if j < k then ww b j else 0
theorem wsl_length (b : List UInt8) (k : Nat) : (wsl b k).length = 80 := by simp [wsl]
theorem wsl_at (b : List UInt8) {k j : Nat} (hj : j < k) (h : j < 80) : (wsl b k).getD j 0 = ww b j := by simp [wsl, List.getD, h, hj]
theorem wsl_out (b : List UInt8) {k : Nat} (h : k < 80) : (wsl b k).getD k 0 = 0 := by simp [wsl, List.getD, h]
theorem wsl_set (b : List UInt8) (k : Nat) : (wsl b k).set k (ww b k) = wsl b (k + 1) := by
  refine List.ext_getElem (by simp [wsl]) fun j h1 h2 => ?_
  rw [List.getElem_set]
  simp only [wsl, List.getElem_map, List.getElem_range]
  split
  · next e => subst e; rw [if_pos (by omega)]
  · next e => by_cases h : j < k
              · rw [if_pos h, if_pos (by omega)]
              · rw [if_neg h, if_neg (by omega)]

theorem set_zero (b : List UInt8) {k : Nat} (h : k < 80) : (wsl b k).set k (UInt64.ofNat (beNum [])) = wsl b k := by
  refine List.ext_getElem (by simp) fun j h1 h2 => ?_
  rw [List.getElem_set]
  split
  · next e =>
    subst e
    have := wsl_out b h
    simp only [wsl, List.getElem_map, List.getElem_range, Nat.lt_irrefl, if_false]
    rfl
  · rfl
theorem set_at (b : List UInt8) {k : Nat} (h : k < 80) (x : UInt64) : ((wsl b k).set k x).getD k 0 = x := by
  rw [List.getD_eq_getElem?_getD, List.getElem?_set_self (by rw [wsl_length]; exact h)]
  rfl

theorem u_shr7 (x : UInt64) : (x.toNat : Int) / 128 = ((shr x 7).toNat : Int) := u_shr x 7
theorem u_shr6 (x : UInt64) : (x.toNat : Int) / 64 = ((shr x 6).toNat : Int) := u_shr x 6
theorem next_byte (l : List UInt8) (q : Nat) (h : q < l.length) : IntKind.u64.wrap (IntKind.u64.wrap ((beNum (l.take q) : Int) % 18446744073709551616 * 256) + IntKind.u64.wrap ((l[q]).toNat : Int)) = ((UInt64.ofNat (beNum (l.take (q + 1)))).toNat : Int) := by
  rw [u_of, beNum_take h, IntKind.wrap_u64, IntKind.wrap_u64, IntKind.wrap_u64]; omega

/-- n cells of 0. -/
def zcells (n : Nat) : Array Value := ((List.replicate n (0 : UInt64)).map uv).toArray
theorem run_alloc64 (w : World) : (Instr.alloc 81 true (.tuple #[])).run Tryd.prog w = .ok (.pointer (some ⟨w.heap.size, 0, none⟩)) (w.alloc (.cells (zcells 80) 81)) := by kernel_rfl
theorem built64 : Tryd.prog.built 81 [] = some (zcells 80) := by kernel_rfl
theorem holds_zero (w : World) (ty : TypeId) (n : Nat) : HoldsW (w.alloc (.cells (zcells n) ty)) ty w.heap.size (List.replicate n 0) := heap_alloc_new w _
theorem wsl_zero (b : List UInt8) : wsl b 0 = List.replicate 80 0 := rfl

end Go.Proofs.YtppaffamlfghjaaDoor
