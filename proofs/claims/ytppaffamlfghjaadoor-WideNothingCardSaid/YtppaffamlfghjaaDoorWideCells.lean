/-
  Bytes and texts that are summed, in blocks; whether a text may be.
-/
import Derived.Test.YtppaffamlfghjaaDoorWideBlock
import Derived.Test.YtppaffamlfghjaaDoorConcat
import Derived.RegionTactic
import Derived.Deep.RegionWith
namespace Go.Proofs.YtppaffamlfghjaaDoor
open Go.RowKit

/-- Block g holds the bytes l, as an array of type ty. -/
def HoldsB (W : World) (ty g : Nat) (l : List UInt8) : Prop := W.heap[g]? = some (.cells (l.map bv).toArray ty (0, 0))
section
variable {W W' : World} {ty g : Nat} {l : List UInt8}
theorem HoldsB.lt (h : HoldsB W ty g l) : g < W.heap.size := (Array.getElem?_eq_some_iff.1 h).1
theorem HoldsB.keep (h : HoldsB W ty g l) {D : Nat} (hb : Below D W W') (hD : g < D) : HoldsB W' ty g l := (hb.block g hD).trans h
theorem HoldsB.cell (h : HoldsB W ty g l) {j : Nat} (hj : j < l.length) : W.cell? ⟨g, j, none⟩ = some (.int .u8 ((l.getD j 0).toNat : Int)) := by
  rw [cell_of_row W g j _ ty (0, 0) h]
  simp [bv, hj]
theorem HoldsB.frozen (h : HoldsB W ty g l) (j : Nat) : W.frozen? ⟨g, j, none⟩ = false := frozen_of_row W g j _ ty h
theorem HoldsB.set (h : HoldsB W ty g l) (j : Nat) (x : UInt8) : HoldsB (W.setCell ⟨g, j, none⟩ (.int .u8 (x.toNat : Int))) ty g (l.set j x) := by
  unfold HoldsB
  rw [heap_setCell_same W g j _ ty _ h]
  congr 2
  rw [List.map_set, List.setIfInBounds_toArray]
  rfl
theorem HoldsB.alloc (h : HoldsB W ty g l) (o : Obj) : HoldsB (W.alloc o) ty g l := by
  refine Eq.trans ?_ h
  simp only [World.alloc, Array.getElem?_push]
  rw [if_neg (Nat.ne_of_lt h.lt)]
theorem HoldsB.setOther (h : HoldsB W ty g l) (a : Addr) (v : Value) (hn : g ≠ a.block) : HoldsB (W.setCell a v) ty g l :=
  (heap_setCell_other W a g v hn).trans h
end

theorem Tryd.infoB32 : (Tryd.prog.info? 48).map (·.size) = some 64 := by kernel_rfl
theorem holdsB_new (W : World) (ty g : Nat) (cs : Array Value) (l : List UInt8) (hg : g = W.heap.size) (hc : cs = (l.map bv).toArray) : HoldsB (W.alloc (.cells cs ty)) ty g l := by
  subst hg hc
  exact heap_alloc_new W _
theorem b_cells (l : List UInt8) (hl : l.length = 64) : (l.map bv).toArray.size = 64 ∧ (l.map bv).toArray.all (·.oneCell') = true := by
  refine ⟨by simpa using hl, ?_⟩
  rw [Array.all_eq_true_iff_forall_mem]
  intro v hv
  exact bv_one l v (by simpa using hv)

/-- 'x := k' of thirty-two bytes in a block. -/
theorem wpList_load_b {P : Program} {ops : Array Oper} {rest : List Oper} {o : Oper} {a : Act} {w : World} {Q : Exit → Act → World → Prop} (hgd : o.guard = none) (ty : TypeId) (x : Operand) (ho : o.op = .load ty x)
    (g : Nat) (hx : a.eval x = .pointer (some ⟨g, 0, none⟩)) (l : List UInt8) (hl : l.length = 64) {e : TypeId} {n : Nat} (hg : HoldsB w ty g l)
    (hu : P.underlying ty = some (.array n e)) (hi : (P.info? ty).map (·.size) = some 64)
    (h : wpList P ops Q rest (a.put o.dst (.agg (l.map bv).toArray)) w) : wpList P ops Q (o :: rest) a w :=
  wpList_load_row hgd ty x ho g hx ty _ (0, 0) _ hg hu rfl (by rw [hi, (b_cells l hl).1]) h

/-- 'r = k' into a block of the call's own. -/
theorem wpList_store_b {P : Program} {ops : Array Oper} {rest : List Oper} {o : Oper} {a : Act} {w : World} {Q : Exit → Act → World → Prop} (hgd : o.guard = none) (ty : TypeId) (x y : Operand) (ho : o.op = .store ty x y)
    (g : Nat) (l : List UInt8) (hl : l.length = 64) (hx : a.eval x = .pointer (some ⟨g, 0, none⟩)) (hy : a.eval y = .agg (l.map bv).toArray)
    (old : List UInt8) (hg : HoldsB w ty g old) (hi : (P.info? ty).map (·.size) = some 64) (hold : old.length = 64) (D : Nat) (w0 : World) (hb : Below D w0 w) (hD : D ≤ g)
    (h : ∀ w' : World, HoldsB w' ty g l → (∀ k, k ≠ g → w'.heap[k]? = w.heap[k]?) → w'.heap.size = w.heap.size → Below D w0 w' → wpList P ops Q rest (a.put o.dst undef) w') : wpList P ops Q (o :: rest) a w :=
  wpList_store_row hgd ty x y ho g _ hx hy ty _ hg (by rw [hi, (b_cells l hl).1]) (by rw [(b_cells l hl).1]; simpa using hold) (b_cells l hl).2
    (h _ (show _ = _ from setRow_heap w g _ _ ty _ hg) (fun k hk => setRow_other w g k _ hk) (by simp) (below_setRow hb hD _))

/-- A text that is summed, as a value. -/
def hv (s : St) (A : Option Addr) (n c m : Nat) : Value := .agg #[.int .u64 (s.a.toNat : Int), .int .u64 (s.b.toNat : Int), .int .u64 (s.c.toNat : Int), .int .u64 (s.d.toNat : Int), .int .u64 (s.e.toNat : Int), .int .u64 (s.f.toNat : Int), .int .u64 (s.g.toNat : Int), .int .u64 (s.h.toNat : Int), .slice A n c, .int .u64 (m : Int)]

set_option maxRecDepth 100000 in
theorem isText_any (s : St) (A : Option Addr) (n c m : Nat) (w : World) (hn : n ≤ 2147483647) :
    Calls Tryd.prog 40 #[hv s A n c m] w fun e w' => e = .returned (.bool ((n : Int) == (m : Int) % 128)) ∧ Below w.heap.size w w' := by
  unfold hv
  go_enter Tryd.func40, Tryd.ntmps40
  go_wp2
  go_ret
  exact ⟨rfl, (Below.refl _ _).alloc (Nat.le_refl _) _⟩

/-- A block of bytes read as a slice. -/
theorem HoldsB.sees {W : World} {ty g n : Nat} {l : List UInt8} (h : HoldsB W ty g l) (hl : l.length = n) (hm : n ≤ 2147483647) : Sees W (g + 1) (some ⟨g, 0, none⟩) n n (l.map bv) := by
  refine ⟨by simpa using hl, Nat.le_refl _, by simp only [maxLen]; omega, (fun h => by cases h), fun _ => ⟨g, 0, rfl, by omega, fun j u hu => ?_⟩⟩
  obtain ⟨hk, rfl⟩ := bv_get hu
  rw [Nat.zero_add, cell_of_row W g j _ ty (0, 0) h]
  simp [hk]

/-- 'make([]byte, n)': a new block of n zeros. -/
theorem wpList_make_zeros {P : Program} (w : World) {ops : Array Oper} {rest : List Oper} {o : Oper} {a : Act} {Q : Exit → Act → World → Prop}
    (hg : o.guard = none) (l r : Operand) (t : TypeId) (hop : o.op = Op.makeSlice t l r)
    (e : TypeId) (i : TypeInfo) (h1 : P.underlying t = some (.slice e)) (h2 : P.info? e = some i) (h3 : i.zero = some (.int .u8 0)) (h4 : i.size = 1)
    (kl kc : IntKind) (L C : Int) (n : Nat) (hl : a.eval l = .int kl L) (hc : a.eval r = .int kc C) (hL : L = (n : Int)) (hC : C = (n : Int)) (b2 : i.bytes * n ≤ 281474976710656) (b3 : n ≤ maxLen) (D : Nat) (w0 : World) (hb : Below D w0 w) (hD : D ≤ w.heap.size)
    (hK : ∀ w1 : World, HoldsB w1 e w.heap.size (List.replicate n 0) → w1.heap.size = w.heap.size + 1 → Below D w0 w1 → wpList P ops Q rest (a.put o.dst (.slice (some ⟨w.heap.size, 0, none⟩) n n)) w1) :
    wpList P ops Q (o :: rest) a w := by
  refine wpList_plain hg fun K hK' => ?_
  subst hL
  subst hC
  have hb' : (i.bytes : Int) * (n : Int) ≤ 281474976710656 := by
    have h : ((i.bytes * n : Nat) : Int) ≤ 281474976710656 := by omega
    rwa [Int.natCast_mul] at h
  have hrun := run_make (P := P) w t e i _ h1 h2 h3 kl kc n n (by omega) (by omega) hb' (by simp only [maxLen] at b3; omega)
  simp only [Int.toNat_natCast, h4, Nat.mul_one] at hrun
  unfold Oper.wp
  simp [execOp, hop, hl, hc, hrun, Result.andThen]
  refine hK' _ _ (hK _ ?_ (World.size_alloc ..) (hb.alloc hD _))
  have hz : madeCells (Value.cells (.int .u8 0)) n = ((List.replicate n (0 : UInt8)).map bv).toArray := by
    apply Array.toList_inj.1
    rw [show Value.cells (.int .u8 0) = #[.int .u8 0] from rfl, toList_madeCells_one]
    simp [bv]
  rw [hz]
  exact heap_alloc_new w _

/-- The cells of a text that is summed. -/
def hcells (s : St) (A : Option Addr) (n c m : Nat) : Array Value := #[.int .u64 (s.a.toNat : Int), .int .u64 (s.b.toNat : Int), .int .u64 (s.c.toNat : Int), .int .u64 (s.d.toNat : Int), .int .u64 (s.e.toNat : Int), .int .u64 (s.f.toNat : Int), .int .u64 (s.g.toNat : Int), .int .u64 (s.h.toNat : Int), .slice A n c, .int .u64 (m : Int)]
theorem hv_cells (s : St) (A : Option Addr) (n c m : Nat) : hv s A n c m = .agg (hcells s A n c m) := rfl

/-- Block g holds a text that is summed. -/
def HoldsH (W : World) (g : Nat) (s : St) (A : Option Addr) (n c m : Nat) : Prop := W.heap[g]? = some (.cells (hcells s A n c m) 45 (0, 0))
section
variable {W W' : World} {g : Nat} {s : St} {A : Option Addr} {n c m : Nat}
theorem HoldsH.lt (h : HoldsH W g s A n c m) : g < W.heap.size := (Array.getElem?_eq_some_iff.1 h).1
theorem HoldsH.keep (h : HoldsH W g s A n c m) {D : Nat} (hb : Below D W W') (hD : g < D) : HoldsH W' g s A n c m := (hb.block g hD).trans h
theorem HoldsH.oth (h : HoldsH W g s A n c m) {g' : Nat} (ho : ∀ k, k ≠ g' → W'.heap[k]? = W.heap[k]?) (hn : g ≠ g') : HoldsH W' g s A n c m := (ho g hn).trans h
theorem HoldsH.frozen (h : HoldsH W g s A n c m) (j : Nat) : W.frozen? ⟨g, j, none⟩ = false := frozen_of_row W g j _ _ h
theorem HoldsH.alloc (h : HoldsH W g s A n c m) (o : Obj) : HoldsH (W.alloc o) g s A n c m := by
  refine Eq.trans ?_ h
  simp only [World.alloc, Array.getElem?_push]
  rw [if_neg (Nat.ne_of_lt h.lt)]
theorem HoldsH.setOther (h : HoldsH W g s A n c m) (a : Addr) (v : Value) (hn : g ≠ a.block) : HoldsH (W.setCell a v) g s A n c m :=
  (heap_setCell_other W a g v hn).trans h
theorem HoldsH.at (h : HoldsH W g s A n c m) (j : Nat) : W.cell? ⟨g, j, none⟩ = (hcells s A n c m)[j]? := cell_of_row W g j _ _ (0, 0) h
/-- All its cells. -/
theorem HoldsH.all (h : HoldsH W g s A n c m) : W.cell? ⟨g, 0, none⟩ = some (.int .u64 (s.a.toNat : Int)) ∧ W.cell? ⟨g, 1, none⟩ = some (.int .u64 (s.b.toNat : Int)) ∧ W.cell? ⟨g, 2, none⟩ = some (.int .u64 (s.c.toNat : Int)) ∧ W.cell? ⟨g, 3, none⟩ = some (.int .u64 (s.d.toNat : Int)) ∧
    W.cell? ⟨g, 4, none⟩ = some (.int .u64 (s.e.toNat : Int)) ∧ W.cell? ⟨g, 5, none⟩ = some (.int .u64 (s.f.toNat : Int)) ∧ W.cell? ⟨g, 6, none⟩ = some (.int .u64 (s.g.toNat : Int)) ∧ W.cell? ⟨g, 7, none⟩ = some (.int .u64 (s.h.toNat : Int)) ∧ W.cell? ⟨g, 8, none⟩ = some (.slice A n c) ∧ W.cell? ⟨g, 9, none⟩ = some (.int .u64 (m : Int)) :=
  ⟨h.at 0, h.at 1, h.at 2, h.at 3, h.at 4, h.at 5, h.at 6, h.at 7, h.at 8, h.at 9⟩
theorem HoldsH.setRest (h : HoldsH W g s A n c m) (A' : Option Addr) (n' c' : Nat) : HoldsH (W.setCell ⟨g, 8, none⟩ (.slice A' n' c')) g s A' n' c' m :=
  (heap_setCell_same W g 8 _ _ _ h).trans rfl
theorem HoldsH.setMany (h : HoldsH W g s A n c m) (m' : Nat) : HoldsH (W.setCell ⟨g, 9, none⟩ (.int .u64 (m' : Int))) g s A n c m' :=
  (heap_setCell_same W g 9 _ _ _ h).trans rfl
theorem HoldsH.drewN (h : HoldsH W g s A n c m) (k : Nat) : HoldsH (W.drewN k) g s A n c m := h
theorem HoldsH.setState (h : HoldsH W g s A n c m) (t : St) : HoldsH ((((((((W.setCell ⟨g, 0, none⟩ (.int .u64 (t.a.toNat : Int))).setCell ⟨g, 1, none⟩ (.int .u64 (t.b.toNat : Int))).setCell ⟨g, 2, none⟩ (.int .u64 (t.c.toNat : Int))).setCell ⟨g, 3, none⟩ (.int .u64 (t.d.toNat : Int))).setCell ⟨g, 4, none⟩ (.int .u64 (t.e.toNat : Int))).setCell ⟨g, 5, none⟩ (.int .u64 (t.f.toNat : Int))).setCell ⟨g, 6, none⟩ (.int .u64 (t.g.toNat : Int))).setCell ⟨g, 7, none⟩ (.int .u64 (t.h.toNat : Int))) g t A n c m := by
  have h0 := heap_setCell_same _ g 0 _ _ (.int .u64 (t.a.toNat : Int)) h
  have h1 := heap_setCell_same _ g 1 _ _ (.int .u64 (t.b.toNat : Int)) h0
  have h2 := heap_setCell_same _ g 2 _ _ (.int .u64 (t.c.toNat : Int)) h1
  have h3 := heap_setCell_same _ g 3 _ _ (.int .u64 (t.d.toNat : Int)) h2
  have h4 := heap_setCell_same _ g 4 _ _ (.int .u64 (t.e.toNat : Int)) h3
  have h5 := heap_setCell_same _ g 5 _ _ (.int .u64 (t.f.toNat : Int)) h4
  have h6 := heap_setCell_same _ g 6 _ _ (.int .u64 (t.g.toNat : Int)) h5
  refine (heap_setCell_same _ g 7 _ _ (.int .u64 (t.h.toNat : Int)) h6).trans ?_
  simp [hcells]
end

theorem holdsH_new (W : World) (g : Nat) (cs : Array Value) (s : St) (A : Option Addr) (n c m : Nat) (hg : g = W.heap.size) (hc : cs = hcells s A n c m) : HoldsH (W.alloc (.cells cs 45)) g s A n c m := by
  subst hg hc
  exact heap_alloc_new W _
theorem Tryd.infoH : (Tryd.prog.info? 45).map (·.size) = some 10 := by kernel_rfl
/-- A state of zeros. -/
def sz : St := ⟨0, 0, 0, 0, 0, 0, 0, 0⟩

/-- 'x := h' of a text in a block. -/
theorem wpList_load_h {P : Program} {ops : Array Oper} {rest : List Oper} {o : Oper} {a : Act} {w : World} {Q : Exit → Act → World → Prop} (hgd : o.guard = none) (x : Operand) (ho : o.op = .load 45 x)
    (g : Nat) (hx : a.eval x = .pointer (some ⟨g, 0, none⟩)) (s : St) (A : Option Addr) (n c m : Nat) {fs : Array Field} (hg : HoldsH w g s A n c m)
    (hu : P.underlying 45 = some (.struct fs)) (hi : (P.info? 45).map (·.size) = some 10)
    (h : wpList P ops Q rest (a.put o.dst (hv s A n c m)) w) : wpList P ops Q (o :: rest) a w :=
  wpList_load_row hgd _ x ho g hx _ _ (0, 0) _ hg hu rfl (by rw [hi]; rfl) h

/-- 'r = h' into a block of the call's own. -/
theorem wpList_store_h {P : Program} {ops : Array Oper} {rest : List Oper} {o : Oper} {a : Act} {w : World} {Q : Exit → Act → World → Prop} (hgd : o.guard = none) (x y : Operand) (ho : o.op = .store 45 x y)
    (g : Nat) (s : St) (A : Option Addr) (n c m : Nat) (hx : a.eval x = .pointer (some ⟨g, 0, none⟩)) (hy : a.eval y = hv s A n c m)
    (s0 : St) (A0 : Option Addr) (n0 c0 m0 : Nat) (hg : HoldsH w g s0 A0 n0 c0 m0) (hi : (P.info? 45).map (·.size) = some 10) (D : Nat) (w0 : World) (hb : Below D w0 w) (hD : D ≤ g)
    (h : ∀ w' : World, HoldsH w' g s A n c m → (∀ k, k ≠ g → w'.heap[k]? = w.heap[k]?) → w'.heap.size = w.heap.size → Below D w0 w' → wpList P ops Q rest (a.put o.dst undef) w') : wpList P ops Q (o :: rest) a w :=
  wpList_store_row hgd _ x y ho g _ hx hy _ _ hg (by rw [hi]; rfl) rfl (by simp [Value.oneCell'])
    (h _ (show _ = _ from setRow_heap w g _ _ _ _ hg) (fun k hk => setRow_other w g k _ hk) (by simp) (below_setRow hb hD _))

/-- The length of a slice. -/
def lenV : Value → Nat
  | .slice _ n _ => n
  | _ => 0

/-- Reads as xs, and lies in a block that meets X, if in one. -/
def SeesIn (w : World) (A : Option Addr) (n c : Nat) (xs : List Value) (X : Nat → Prop) : Prop :=
  Sees w w.heap.size A n c xs ∧ ∀ b o, A = some ⟨b, o, none⟩ → 0 < n → X b

theorem SeesIn.lt {w : World} {n c : Nat} {A : Option Addr} {xs : List Value} {X : Nat → Prop} (h : SeesIn w A n c xs X) {b o : Nat} (e : A = some ⟨b, o, none⟩) (hn : 0 < n) : b < w.heap.size := by
  obtain ⟨b', o', e', hb', _⟩ := h.1.at_ hn
  rw [e] at e'
  injection e' with e'
  injection e' with e1 _ _
  omega
theorem SeesIn.imp {w : World} {n c : Nat} {A : Option Addr} {xs : List Value} {X Y : Nat → Prop} (h : SeesIn w A n c xs X) (hi : ∀ b, b < w.heap.size → X b → Y b) : SeesIn w A n c xs Y :=
  ⟨h.1, fun b o e hn => hi b (h.lt e hn) (h.2 b o e hn)⟩

theorem seesIn_of_own {w : World} {base : Nat} {e : TypeId} {A : Option Addr} {n c : Nat} {xs : List Value} (h : w.ownsRow base e 1 (.slice A n c) n xs) : SeesIn w A n c xs (fun b => base ≤ b) := by
  refine ⟨Sees.of_own h, fun b o hA hn => ?_⟩
  subst hA
  rcases h.2 with ⟨hv, h0⟩ | ⟨g, cap, cur, hv, hb, _⟩
  · cases hv
  · injection hv with hv
    injection hv with hv
    injection hv with hv
    omega

def GaveH (w : World) (s : St) (n : Nat) (l : List UInt8) (m : Nat) (e : Ending) (w' : World) : Prop :=
  ∃ A c, e = .returned (hv s A n c m) ∧ SeesIn w' A n c (l.map bv) (fun b => w.heap.size ≤ b) ∧ Below w.heap.size w w'

theorem SeesL.two (w : World) (e : TypeId) (g : Nat) {A0 A1 : Option Addr} {n0 n1 c0 c1 : Nat} {l0 l1 : List UInt8} (hg : w.heap.size = g) (h0 : Sees w g A0 n0 c0 (l0.map bv)) (h1 : Sees w g A1 n1 c1 (l1.map bv)) :
    SeesL (w.alloc (.cells #[.slice A0 n0 c0, .slice A1 n1 c1] e)) (g + 1) (some ⟨g, 0, none⟩) 2 2 [l0, l1] := by
  subst hg
  have e0 := h0.len
  have e1 := h1.len
  rw [List.length_map] at e0 e1
  subst e0 e1
  refine SeesL.lit w e [.slice A0 l0.length c0, .slice A1 l1.length c1] [l0, l1] rfl (by simp [maxLen]) fun i v l hv hl => ?_
  match i, hv, hl with
  | 0, hv, hl => simp at hv hl; subst hv hl; exact ⟨A0, c0, rfl, h0⟩
  | 1, hv, hl => simp at hv hl; subst hv hl; exact ⟨A1, c1, rfl, h1⟩
  | i + 2, hv, hl => simp at hv

theorem own_keep {w w' : World} {base : Nat} {e : TypeId} {v : Value} {n : Nat} {xs : List Value} (h : w.ownsRow base e 1 v n xs) (hk : ∀ k, base ≤ k → w'.heap[k]? = w.heap[k]?) : w'.ownsRow base e 1 v n xs := by
  obtain ⟨hl, h | ⟨g, cap, cur, hv, hb, hg, h1, h2, h3, h4⟩⟩ := h
  · exact ⟨hl, .inl h⟩
  · exact ⟨hl, .inr ⟨g, cap, cur, hv, hb, (hk g hb).trans hg, h1, h2, h3, h4⟩⟩

/-- The two blocks that the call begins with. -/
theorem h_start (w : World) (s : St) (A : Option Addr) (n c m : Nat) (c1 c2 : Array Value) (h1 : c1 = hcells s A n c m) (h2 : c2 = hcells sz none 0 0 0) :
    HoldsH ((w.alloc (.cells c1 45)).alloc (.cells c2 45)) w.heap.size s A n c m ∧ HoldsH ((w.alloc (.cells c1 45)).alloc (.cells c2 45)) (w.heap.size + 1) sz none 0 0 0 ∧
    Below w.heap.size w ((w.alloc (.cells c1 45)).alloc (.cells c2 45)) ∧ ((w.alloc (.cells c1 45)).alloc (.cells c2 45)).heap.size = w.heap.size + 1 + 1 := by
  have e1 : (w.alloc (.cells c1 45)).heap.size = w.heap.size + 1 := World.size_alloc ..
  have a1 : HoldsH (w.alloc (.cells c1 45)) w.heap.size s A n c m := holdsH_new w _ c1 _ _ _ _ _ rfl h1
  have a2 := holdsH_new (w.alloc (.cells c1 45)) (w.heap.size + 1) c2 sz none 0 0 0 e1.symm h2
  exact ⟨a1.alloc _, a2, ((Below.refl _ w).alloc (Nat.le_refl _) _).alloc (by rw [e1]; omega) _, by rw [World.size_alloc, e1]⟩

theorem World.heap_setCells_blk (w : World) (g o : Nat) (vs : List Value) (k : Nat) (hk : k ≠ g) : (w.setCells g o vs).heap[k]? = w.heap[k]? := by
  induction vs generalizing w o with
  | nil => rfl
  | cons v vs ih =>
    have := ih (w.setCell ⟨g, o, none⟩ v) (o + 1)
    exact this.trans (heap_setCell_other w ⟨g, o, none⟩ k v hk)

theorem cell_of_heap {w w' : World} {p : Addr} (h : w'.heap[p.block]? = w.heap[p.block]?) : w'.cell? p = w.cell? p := by
  unfold World.cell?
  rw [h]

/-- 'h.State = s'. -/
theorem wpList_store_state {P : Program} {ops : Array Oper} {rest : List Oper} {o : Oper} {a : Act} {w : World} {Q : Exit → Act → World → Prop} (hgd : o.guard = none) (x y : Operand) (ho : o.op = .store 43 x y)
    (g : Nat) (t : St) (hx : a.eval x = .pointer (some ⟨g, 0, none⟩)) (hy : a.eval y = sv t)
    (s : St) (A : Option Addr) (n c m : Nat) (hg : HoldsH w g s A n c m) (hi : (P.info? 43).map (·.size) = some 8) (D : Nat) (w0 : World) (hb : Below D w0 w) (hD : D ≤ g)
    (h : ∀ w' : World, HoldsH w' g t A n c m → (∀ k, k ≠ g → w'.heap[k]? = w.heap[k]?) → w'.heap.size = w.heap.size → Below D w0 w' → wpList P ops Q rest (a.put o.dst undef) w') : wpList P ops Q (o :: rest) a w := by
  refine wpList_store_mid hgd _ x y ho g 0 t.cells hx hy (fun j hj => ?_) (by rw [hi]; rfl) (by simp [St.cells, uv, Value.oneCell']) (h _ ?_ (fun k hk => ?_) ?_ ?_)
  · have hj8 : j < 8 := hj
    refine ⟨?_, hg.frozen _⟩
    rw [hg.at]
    match j, hj8 with
    | 0, _ => rfl
    | 1, _ => rfl
    | 2, _ => rfl
    | 3, _ => rfl
    | 4, _ => rfl
    | 5, _ => rfl
    | 6, _ => rfl
    | 7, _ => rfl
  · exact hg.setState t
  · exact (World.heap_setCells_blk w g 0 _ k hk)
  · exact (by simp [World.setCells, St.cells])
  · exact (((((((hb.setCell (p := ⟨g, 0, none⟩) hD _).setCell (p := ⟨g, 1, none⟩) hD _).setCell (p := ⟨g, 2, none⟩) hD _).setCell (p := ⟨g, 3, none⟩) hD _).setCell (p := ⟨g, 4, none⟩) hD _).setCell (p := ⟨g, 5, none⟩) hD _).setCell (p := ⟨g, 6, none⟩) hD _).setCell (p := ⟨g, 7, none⟩) hD _
end Go.Proofs.YtppaffamlfghjaaDoor
