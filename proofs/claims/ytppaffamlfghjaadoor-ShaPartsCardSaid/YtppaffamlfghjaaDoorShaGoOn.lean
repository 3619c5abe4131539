/-
  A text goes on: the program's way.
-/
import Derived.Test.YtppaffamlfghjaaDoorShaOut
import Derived.Deep.RegionWith
namespace Go.Proofs.YtppaffamlfghjaaDoor
open Go.RowKit

/-- The cells of a text that is summed. -/
def hcells (s : St) (A : Option Addr) (n c m : Nat) : Array Value := #[.int .u32 (s.a.toNat : Int), .int .u32 (s.b.toNat : Int), .int .u32 (s.c.toNat : Int), .int .u32 (s.d.toNat : Int), .int .u32 (s.e.toNat : Int), .int .u32 (s.f.toNat : Int), .int .u32 (s.g.toNat : Int), .int .u32 (s.h.toNat : Int), .slice A n c, .int .u64 (m : Int)]
theorem hv_cells (s : St) (A : Option Addr) (n c m : Nat) : hv s A n c m = .agg (hcells s A n c m) := rfl

/-- Block g holds a text that is summed. -/
def HoldsH (W : World) (g : Nat) (s : St) (A : Option Addr) (n c m : Nat) : Prop := W.heap[g]? = some (.cells (hcells s A n c m) 27 (0, 0))
section
variable {W W' : World} {g : Nat} {s : St} {A : Option Addr} {n c m : Nat}
theorem HoldsH.lt (h : HoldsH W g s A n c m) : g < W.heap.size := (Array.getElem?_eq_some_iff.1 h).1
theorem HoldsH.keep (h : HoldsH W g s A n c m) {D : Nat} (hb : Below D W W') (hD : g < D) : HoldsH W' g s A n c m := (hb.block g hD).trans h
theorem HoldsH.oth (h : HoldsH W g s A n c m) {g' : Nat} (ho : ∀ k, k ≠ g' → W'.heap[k]? = W.heap[k]?) (hn : g ≠ g') : HoldsH W' g s A n c m := (ho g hn).trans h
theorem HoldsH.frozen (h : HoldsH W g s A n c m) (j : Nat) : W.frozen? ⟨g, j, none⟩ = false := frozen_of_row W g j _ _ h
theorem HoldsH.alloc (h : HoldsH W g s A n c m) (o : Obj) : HoldsH (W.alloc o) g s A n c m := by
  refine Eq.trans ?_ h
  simp only [World.alloc, Array.getElem?_push]
  rw [if_neg (Nat.ne_of_lt h.lt)]
theorem HoldsH.setOther (h : HoldsH W g s A n c m) (a : Addr) (v : Value) (hn : g ≠ a.block) : HoldsH (W.setCell a v) g s A n c m :=
  (heap_setCell_other W a g v hn).trans h
theorem HoldsH.at (h : HoldsH W g s A n c m) (j : Nat) : W.cell? ⟨g, j, none⟩ = (hcells s A n c m)[j]? := cell_of_row W g j _ _ (0, 0) h
/-- All its cells. -/
theorem HoldsH.all (h : HoldsH W g s A n c m) : W.cell? ⟨g, 0, none⟩ = some (.int .u32 (s.a.toNat : Int)) ∧ W.cell? ⟨g, 1, none⟩ = some (.int .u32 (s.b.toNat : Int)) ∧ W.cell? ⟨g, 2, none⟩ = some (.int .u32 (s.c.toNat : Int)) ∧ W.cell? ⟨g, 3, none⟩ = some (.int .u32 (s.d.toNat : Int)) ∧
    W.cell? ⟨g, 4, none⟩ = some (.int .u32 (s.e.toNat : Int)) ∧ W.cell? ⟨g, 5, none⟩ = some (.int .u32 (s.f.toNat : Int)) ∧ W.cell? ⟨g, 6, none⟩ = some (.int .u32 (s.g.toNat : Int)) ∧ W.cell? ⟨g, 7, none⟩ = some (.int .u32 (s.h.toNat : Int)) ∧ W.cell? ⟨g, 8, none⟩ = some (.slice A n c) ∧ W.cell? ⟨g, 9, none⟩ = some (.int .u64 (m : Int)) :=
  ⟨h.at 0, h.at 1, h.at 2, h.at 3, h.at 4, h.at 5, h.at 6, h.at 7, h.at 8, h.at 9⟩
theorem HoldsH.setRest (h : HoldsH W g s A n c m) (A' : Option Addr) (n' c' : Nat) : HoldsH (W.setCell ⟨g, 8, none⟩ (.slice A' n' c')) g s A' n' c' m :=
  (heap_setCell_same W g 8 _ _ _ h).trans rfl
theorem HoldsH.setMany (h : HoldsH W g s A n c m) (m' : Nat) : HoldsH (W.setCell ⟨g, 9, none⟩ (.int .u64 (m' : Int))) g s A n c m' :=
  (heap_setCell_same W g 9 _ _ _ h).trans rfl
theorem HoldsH.drewN (h : HoldsH W g s A n c m) (k : Nat) : HoldsH (W.drewN k) g s A n c m := h
theorem HoldsH.setState (h : HoldsH W g s A n c m) (t : St) : HoldsH ((((((((W.setCell ⟨g, 0, none⟩ (.int .u32 (t.a.toNat : Int))).setCell ⟨g, 1, none⟩ (.int .u32 (t.b.toNat : Int))).setCell ⟨g, 2, none⟩ (.int .u32 (t.c.toNat : Int))).setCell ⟨g, 3, none⟩ (.int .u32 (t.d.toNat : Int))).setCell ⟨g, 4, none⟩ (.int .u32 (t.e.toNat : Int))).setCell ⟨g, 5, none⟩ (.int .u32 (t.f.toNat : Int))).setCell ⟨g, 6, none⟩ (.int .u32 (t.g.toNat : Int))).setCell ⟨g, 7, none⟩ (.int .u32 (t.h.toNat : Int))) g t A n c m := by
  have h0 := heap_setCell_same _ g 0 _ _ (.int .u32 (t.a.toNat : Int)) h
  have h1 := heap_setCell_same _ g 1 _ _ (.int .u32 (t.b.toNat : Int)) h0
  have h2 := heap_setCell_same _ g 2 _ _ (.int .u32 (t.c.toNat : Int)) h1
  have h3 := heap_setCell_same _ g 3 _ _ (.int .u32 (t.d.toNat : Int)) h2
  have h4 := heap_setCell_same _ g 4 _ _ (.int .u32 (t.e.toNat : Int)) h3
  have h5 := heap_setCell_same _ g 5 _ _ (.int .u32 (t.f.toNat : Int)) h4
  have h6 := heap_setCell_same _ g 6 _ _ (.int .u32 (t.g.toNat : Int)) h5
  refine (heap_setCell_same _ g 7 _ _ (.int .u32 (t.h.toNat : Int)) h6).trans ?_
  simp [hcells]
end

theorem holdsH_new (W : World) (g : Nat) (cs : Array Value) (s : St) (A : Option Addr) (n c m : Nat) (hg : g = W.heap.size) (hc : cs = hcells s A n c m) : HoldsH (W.alloc (.cells cs 27)) g s A n c m := by
  subst hg hc
  exact heap_alloc_new W _
theorem Tryd.infoH : (Tryd.prog.info? 27).map (·.size) = some 10 := by kernel_rfl
/-- A state of zeros. -/
def sz : St := ⟨0, 0, 0, 0, 0, 0, 0, 0⟩

/-- 'x := h' of a text in a block. -/
theorem wpList_load_h {P : Program} {ops : Array Oper} {rest : List Oper} {o : Oper} {a : Act} {w : World} {Q : Exit → Act → World → Prop} (hgd : o.guard = none) (x : Operand) (ho : o.op = .load 27 x)
    (g : Nat) (hx : a.eval x = .pointer (some ⟨g, 0, none⟩)) (s : St) (A : Option Addr) (n c m : Nat) {fs : Array Field} (hg : HoldsH w g s A n c m)
    (hu : P.underlying 27 = some (.struct fs)) (hi : (P.info? 27).map (·.size) = some 10)
    (h : wpList P ops Q rest (a.put o.dst (hv s A n c m)) w) : wpList P ops Q (o :: rest) a w :=
  wpList_load_row hgd _ x ho g hx _ _ (0, 0) _ hg hu rfl (by rw [hi]; rfl) h

/-- 'r = h' into a block of the call's own. -/
theorem wpList_store_h {P : Program} {ops : Array Oper} {rest : List Oper} {o : Oper} {a : Act} {w : World} {Q : Exit → Act → World → Prop} (hgd : o.guard = none) (x y : Operand) (ho : o.op = .store 27 x y)
    (g : Nat) (s : St) (A : Option Addr) (n c m : Nat) (hx : a.eval x = .pointer (some ⟨g, 0, none⟩)) (hy : a.eval y = hv s A n c m)
    (s0 : St) (A0 : Option Addr) (n0 c0 m0 : Nat) (hg : HoldsH w g s0 A0 n0 c0 m0) (hi : (P.info? 27).map (·.size) = some 10) (D : Nat) (w0 : World) (hb : Below D w0 w) (hD : D ≤ g)
    (h : ∀ w' : World, HoldsH w' g s A n c m → (∀ k, k ≠ g → w'.heap[k]? = w.heap[k]?) → w'.heap.size = w.heap.size → Below D w0 w' → wpList P ops Q rest (a.put o.dst undef) w') : wpList P ops Q (o :: rest) a w :=
  wpList_store_row hgd _ x y ho g _ hx hy _ _ hg (by rw [hi]; rfl) rfl (by simp [Value.oneCell'])
    (h _ (show _ = _ from setRow_heap w g _ _ _ _ hg) (fun k hk => setRow_other w g k _ hk) (by simp) (below_setRow hb hD _))

/-- The length of a slice. -/
def lenV : Value → Nat
  | .slice _ n _ => n
  | _ => 0

/-- Reads as xs, and lies in a block that meets X, if in one. -/
def SeesIn (w : World) (A : Option Addr) (n c : Nat) (xs : List Value) (X : Nat → Prop) : Prop :=
  Sees w w.heap.size A n c xs ∧ ∀ b o, A = some ⟨b, o, none⟩ → 0 < n → X b

theorem SeesIn.lt {w : World} {n c : Nat} {A : Option Addr} {xs : List Value} {X : Nat → Prop} (h : SeesIn w A n c xs X) {b o : Nat} (e : A = some ⟨b, o, none⟩) (hn : 0 < n) : b < w.heap.size := by
  obtain ⟨b', o', e', hb', _⟩ := h.1.at_ hn
  rw [e] at e'
  injection e' with e'
  injection e' with e1 _ _
  omega
theorem SeesIn.imp {w : World} {n c : Nat} {A : Option Addr} {xs : List Value} {X Y : Nat → Prop} (h : SeesIn w A n c xs X) (hi : ∀ b, b < w.heap.size → X b → Y b) : SeesIn w A n c xs Y :=
  ⟨h.1, fun b o e hn => hi b (h.lt e hn) (h.2 b o e hn)⟩

theorem seesIn_of_own {w : World} {base : Nat} {e : TypeId} {A : Option Addr} {n c : Nat} {xs : List Value} (h : w.ownsRow base e 1 (.slice A n c) n xs) : SeesIn w A n c xs (fun b => base ≤ b) := by
  refine ⟨Sees.of_own h, fun b o hA hn => ?_⟩
  subst hA
  rcases h.2 with ⟨hv, h0⟩ | ⟨g, cap, cur, hv, hb, _⟩
  · cases hv
  · injection hv with hv
    injection hv with hv
    injection hv with hv
    omega

def GaveH (w : World) (s : St) (n : Nat) (l : List UInt8) (m : Nat) (e : Ending) (w' : World) : Prop :=
  ∃ A c, e = .returned (hv s A n c m) ∧ SeesIn w' A n c (l.map bv) (fun b => w.heap.size ≤ b) ∧ Below w.heap.size w w'

theorem SeesL.two (w : World) (e : TypeId) (g : Nat) {A0 A1 : Option Addr} {n0 n1 c0 c1 : Nat} {l0 l1 : List UInt8} (hg : w.heap.size = g) (h0 : Sees w g A0 n0 c0 (l0.map bv)) (h1 : Sees w g A1 n1 c1 (l1.map bv)) :
    SeesL (w.alloc (.cells #[.slice A0 n0 c0, .slice A1 n1 c1] e)) (g + 1) (some ⟨g, 0, none⟩) 2 2 [l0, l1] := by
  subst hg
  have e0 := h0.len
  have e1 := h1.len
  rw [List.length_map] at e0 e1
  subst e0 e1
  refine SeesL.lit w e [.slice A0 l0.length c0, .slice A1 l1.length c1] [l0, l1] rfl (by simp [maxLen]) fun i v l hv hl => ?_
  match i, hv, hl with
  | 0, hv, hl => simp at hv hl; subst hv hl; exact ⟨A0, c0, rfl, h0⟩
  | 1, hv, hl => simp at hv hl; subst hv hl; exact ⟨A1, c1, rfl, h1⟩
  | i + 2, hv, hl => simp at hv

theorem own_keep {w w' : World} {base : Nat} {e : TypeId} {v : Value} {n : Nat} {xs : List Value} (h : w.ownsRow base e 1 v n xs) (hk : ∀ k, base ≤ k → w'.heap[k]? = w.heap[k]?) : w'.ownsRow base e 1 v n xs := by
  obtain ⟨hl, h | ⟨g, cap, cur, hv, hb, hg, h1, h2, h3, h4⟩⟩ := h
  · exact ⟨hl, .inl h⟩
  · exact ⟨hl, .inr ⟨g, cap, cur, hv, hb, (hk g hb).trans hg, h1, h2, h3, h4⟩⟩

/-- The two blocks that the call begins with. -/
theorem h_start (w : World) (s : St) (A : Option Addr) (n c m : Nat) (c1 c2 : Array Value) (h1 : c1 = hcells s A n c m) (h2 : c2 = hcells sz none 0 0 0) :
    HoldsH ((w.alloc (.cells c1 27)).alloc (.cells c2 27)) w.heap.size s A n c m ∧ HoldsH ((w.alloc (.cells c1 27)).alloc (.cells c2 27)) (w.heap.size + 1) sz none 0 0 0 ∧
    Below w.heap.size w ((w.alloc (.cells c1 27)).alloc (.cells c2 27)) ∧ ((w.alloc (.cells c1 27)).alloc (.cells c2 27)).heap.size = w.heap.size + 1 + 1 := by
  have e1 : (w.alloc (.cells c1 27)).heap.size = w.heap.size + 1 := World.size_alloc ..
  have a1 : HoldsH (w.alloc (.cells c1 27)) w.heap.size s A n c m := holdsH_new w _ c1 _ _ _ _ _ rfl h1
  have a2 := holdsH_new (w.alloc (.cells c1 27)) (w.heap.size + 1) c2 sz none 0 0 0 e1.symm h2
  exact ⟨a1.alloc _, a2, ((Below.refl _ w).alloc (Nat.le_refl _) _).alloc (by rw [e1]; omega) _, by rw [World.size_alloc, e1]⟩

set_option maxRecDepth 100000 in
set_option maxHeartbeats 1000000 in
theorem goOn_short (A A2 : Option Addr) (n c n2 c2 m B : Nat) (r b : List UInt8) (s : St) (w : World) (h : Sees w B A n c (r.map bv)) (h2 : Sees w B A2 n2 c2 (b.map bv)) (hB : B ≤ w.heap.size) (hn : n + n2 < 64) :
    Calls Tryd.prog 33 #[hv s A n c m, .slice A2 n2 c2] w (GaveH w s (n + n2) (r ++ b) ((m + n2) % 18446744073709551616)) := by
  have hlt : (n : Int) + n2 < 64 := by omega
  have hwm : IntKind.u64.wrap ((m : Int) + (n2 : Int)) = (((m + n2) % 18446744073709551616 : Nat) : Int) := by rw [IntKind.wrap_u64]; omega
  have hN : Hid ((r ++ b).length = n + n2) := Lib.hid (by rw [List.length_append]; have := h.len; have := h2.len; simp at *; omega)
  generalize (m + n2) % 18446744073709551616 = mm at *
  obtain ⟨H0, H1, HB, HS⟩ := h_start w s A n c mm #[.int .u32 (s.a.toNat : Int), .int .u32 (s.b.toNat : Int), .int .u32 (s.c.toNat : Int), .int .u32 (s.d.toNat : Int), .int .u32 (s.e.toNat : Int), .int .u32 (s.f.toNat : Int), .int .u32 (s.g.toNat : Int), .int .u32 (s.h.toNat : Int), .slice A n c, .int .u64 (mm : Int)]
    #[.int .u32 0, .int .u32 0, .int .u32 0, .int .u32 0, .int .u32 0, .int .u32 0, .int .u32 0, .int .u32 0, .slice none 0 0, .int .u64 0] rfl rfl
  have h0' := (h.upTo HB hB).more (show B ≤ w.heap.size + 1 + 1 by omega)
  have h2' := (h2.upTo HB hB).more (show B ≤ w.heap.size + 1 + 1 by omega)
  have hL := SeesL.two _ 24 (w.heap.size + 1 + 1) HS h0' h2'
  have H0a := H0.alloc (.cells #[.slice A n c, .slice A2 n2 c2] 24)
  have H1a := H1.alloc (.cells #[.slice A n c, .slice A2 n2 c2] 24)
  have HBa := HB.alloc (show w.heap.size ≤ _ by rw [HS]; omega) (.cells #[.slice A n c, .slice A2 n2 c2] 24)
  have HSa : (((w.alloc (.cells #[.int .u32 (s.a.toNat : Int), .int .u32 (s.b.toNat : Int), .int .u32 (s.c.toNat : Int), .int .u32 (s.d.toNat : Int), .int .u32 (s.e.toNat : Int), .int .u32 (s.f.toNat : Int), .int .u32 (s.g.toNat : Int), .int .u32 (s.h.toNat : Int), .slice A n c, .int .u64 (mm : Int)] 27)).alloc (.cells #[.int .u32 0, .int .u32 0, .int .u32 0, .int .u32 0, .int .u32 0, .int .u32 0, .int .u32 0, .int .u32 0, .slice none 0 0, .int .u64 0] 27)).alloc (.cells #[.slice A n c, .slice A2 n2 c2] 24)).heap.size = w.heap.size + 1 + 1 + 1 := by rw [World.size_alloc, HS]
  clear H0 H1 HB HS h0' h2'
  rw [hv_cells]
  unfold hcells
  go_enter Tryd.func33, Tryd.ntmps33
  go_wp2_with (first
    | (go_at_call 38
       refine (Concat_as _ 2 2 (w.heap.size + 1 + 1 + 1) [r, b] (r ++ b) (n + n2) _ (by simp) hN.out hL (by rw [HSa]; exact Nat.le_refl _) (by omega) (by omega)).mono ?_
       rintro e w3 ⟨A3, c3, rfl, hown, hb3⟩
       have H0 := H0a.keep hb3 (by rw [HSa]; omega)
       have H1 := H1a.keep hb3 (by rw [HSa]; omega)
       have HB := HBa.trans (hb3.mono (by rw [HSa]; omega))
       rw [HSa] at hown
       have hz3 := hb3.size
       rw [HSa] at hz3
       obtain ⟨_, _, _, _, _, _, _, _, k8, _⟩ := H0.all
       have f8 := H0.frozen 8
       have L := H0.setRest A3 (n + n2) c3
       have Z := H1.setOther ⟨w.heap.size, 8, none⟩ (.slice A3 (n + n2) c3) (by simp)
       have HB := HB.setCell (p := ⟨w.heap.size, 8, none⟩) (Nat.le_refl _) (.slice A3 (n + n2) c3)
       clear H0a H1a HBa HSa hL hb3)
    | (with_reducible refine wpList_load_h rfl (.tmp 2) rfl w.heap.size rfl s A3 (n + n2) c3 mm L Tryd.underlying27 Tryd.infoH ?_)
    | (with_reducible refine wpList_store_h rfl (.tmp 4) (.tmp 26) rfl (w.heap.size + 1) s A3 (n + n2) c3 mm rfl rfl sz none 0 0 0 Z Tryd.infoH w.heap.size w HB (by omega) ?_; intro w5 Hg ho hsz hb5))
  exact bodyPost_ret (results_cell_row rfl _ _ (w.heap.size + 1) _ _ _ _ rfl Hg Tryd.underlying27 rfl (by rw [Tryd.infoH]; rfl)) rfl
    ⟨A3, c3, rfl, (seesIn_of_own (own_keep hown fun k hk => (ho k (by omega)).trans (heap_setCell_other w3 _ k _ (by simp; omega)))).imp (fun b _ hx => by omega), hb5⟩
end Go.Proofs.YtppaffamlfghjaaDoor
