/-
  octet.Turn, and the document's.
-/
import Derived.Test.YtbkmbbhgpogeiaaBits
import Derived.Outline
import Derived.RegionTactic
import Derived.Laws.Tables
namespace Go.Proofs.Ytbkmbbhgpogeiaa
open Go.RowKit

/-- A key with one bit turned. -/
def kturn (l : List UInt8) (i : Nat) : List UInt8 := l.set (i / 8) (l.getD (i / 8) 0 ^^^ UInt8.ofNat (2 ^ (7 - i % 8)))
theorem kturn_length (l : List UInt8) (i : Nat) : (kturn l i).length = l.length := by simp [kturn]

theorem kv_cells (l : List UInt8) (hl : l.length = 32) : (l.map bv).toArray.size = 32 ∧ (l.map bv).toArray.all (·.oneCell') = true := by
  refine ⟨by simpa using hl, ?_⟩
  rw [Array.all_eq_true_iff_forall_mem]
  intro v hv
  exact bv_one l v (by simpa using hv)

theorem Try.info32 : (Try.prog.info? 36).map (·.size) = some 32 := by kernel_rfl

/-- 'x := k' of an array in a block. -/
theorem wpList_load_key {P : Program} {ops : Array Oper} {rest : List Oper} {o : Oper} {a : Act} {w : World} {Q : Exit → Act → World → Prop} (hgd : o.guard = none) (ty : TypeId) (x : Operand) (ho : o.op = .load ty x)
    (g : Nat) (hx : a.eval x = .pointer (some ⟨g, 0, none⟩)) (l : List UInt8) (hl : l.length = 32) {e : TypeId} {n : Nat} (hg : w.heap[g]? = some (.cells (l.map bv).toArray ty (0, 0)))
    (hu : P.underlying ty = some (.array n e)) (hi : (P.info? ty).map (·.size) = some 32)
    (h : wpList P ops Q rest (a.put o.dst (kv l)) w) : wpList P ops Q (o :: rest) a w :=
  wpList_load_row hgd ty x ho g hx ty _ (0, 0) _ hg hu rfl (by rw [hi, (kv_cells l hl).1]) h

/-- 'r = k' into a block of the call's own: what the block holds is known, and nothing below D has turned. -/
theorem wpList_store_key {P : Program} {ops : Array Oper} {rest : List Oper} {o : Oper} {a : Act} {w : World} {Q : Exit → Act → World → Prop} (hgd : o.guard = none) (ty : TypeId) (x y : Operand) (ho : o.op = .store ty x y)
    (g : Nat) (l : List UInt8) (hl : l.length = 32) (hx : a.eval x = .pointer (some ⟨g, 0, none⟩)) (hy : a.eval y = kv l)
    (old : Array Value) (hg : w.heap[g]? = some (.cells old ty (0, 0))) (hi : (P.info? ty).map (·.size) = some 32) (hold : old.size = 32) (D : Nat) (w0 : World) (hb : Below D w0 w) (hD : D ≤ g)
    (h : ∀ w' : World, Hid (w'.heap[g]? = some (.cells (l.map bv).toArray ty (0, 0))) → (∀ k, k ≠ g → w'.heap[k]? = w.heap[k]?) → w'.heap.size = w.heap.size → Below D w0 w' → wpList P ops Q rest (a.put o.dst undef) w') : wpList P ops Q (o :: rest) a w :=
  wpList_store_row hgd ty x y ho g _ hx hy ty old hg (by rw [hi, (kv_cells l hl).1]) (by rw [hold, (kv_cells l hl).1]) (kv_cells l hl).2
    (h _ (show _ = _ from setRow_heap w g old _ ty _ hg) (fun k hk => setRow_other w g k _ hk) (by simp) (below_setRow hb hD _))

def GaveKey (w : World) (l : List UInt8) (e : Ending) (w' : World) : Prop := e = .returned (kv l) ∧ Below w.heap.size w w'

set_option maxHeartbeats 400000 in
theorem Turn_out (l : List UInt8) (i : Int) (w : World) (hi : i < 0 ∨ 256 ≤ i) (hl : l.length = 32) :
    Calls Try.prog 20 #[kv l, .int .i64 i] w (GaveKey w l) := by
  unfold kv
  go_enter Try.func20, Try.ntmps20
  go_wp2_with (first
    | (go_at_call 29; refine (isBit_no _ _ hi).mono ?_; rintro e w' ⟨rfl, rfl⟩)
    | (with_reducible refine wpList_load_key rfl 36 (.tmp 2) rfl w.heap.size rfl l hl (heap_alloc2_old w _ _) Try.underlying36 Try.info32 ?_)
    | (with_reducible refine wpList_store_key rfl 36 (.tmp 4) (.tmp 17) rfl (w.heap.size + 1) l hl rfl rfl _ (heap_alloc2_new w _ _) Try.info32 rfl w.heap.size w (((Below.refl _ _).alloc (Nat.le_refl _) _).alloc (by simp) _) (by omega) ?_; intro w2 Hg _ _ hb2))
  exact bodyPost_ret (results_cell_row rfl _ _ _ _ _ _ _ rfl Hg.out Try.underlying36 rfl (by rw [Try.info32, (kv_cells l hl).1])) rfl ⟨rfl, hb2⟩

theorem turn_byte (x : UInt8) (i : Int) (h0 : 0 ≤ i) : bits .xor .u8 (x.toNat : Int) (2 ^ (7 - i % 8).toNat % 256) = ((x ^^^ UInt8.ofNat (2 ^ (7 - i.toNat % 8))).toNat : Int) := by
  have hx := x.toNat_lt
  have e : (7 - i % 8).toNat = 7 - i.toNat % 8 := by omega
  have hp : 2 ^ (7 - i.toNat % 8) < 256 := Nat.lt_of_lt_of_le (Nat.pow_lt_pow_right (by omega) (show 7 - i.toNat % 8 < 8 by omega)) (by decide)
  have hm : ∀ p : Nat, p < 256 → ((p : Int) % 256) = p := fun p h => by omega
  have ep : (2 : Int) ^ (7 - i.toNat % 8) = ((2 ^ (7 - i.toNat % 8) : Nat) : Int) := (Int.natCast_pow 2 _).symm
  rw [e, ep, hm _ hp, u8_xor_nat _ _ (by omega) hp, UInt8.toNat_xor, UInt8.toNat_ofNat', Nat.mod_eq_of_lt hp]

theorem set_bv (l : List UInt8) (j : Nat) (y : UInt8) : (l.map bv).set j (bv y) = (l.set j y).map bv := by rw [List.map_set]
theorem kturn_cells (l : List UInt8) (i : Int) (h0 : 0 ≤ i) :
    (l.map bv).set (i / 8).toNat (.int .u8 (bits .xor .u8 ((l.getD (i / 8).toNat 0).toNat : Int) (2 ^ (7 - i % 8).toNat % 256))) = (kturn l i.toNat).map bv := by
  have e : i.toNat / 8 = (i / 8).toNat := by omega
  rw [turn_byte _ i h0, kturn, e]
  exact set_bv l _ _

set_option maxHeartbeats 400000 in
theorem Turn_in (l : List UInt8) (i : Int) (w : World) (h0 : 0 ≤ i) (h1 : i < 256) (hl : l.length = 32) :
    Calls Try.prog 20 #[kv l, .int .i64 i] w (GaveKey w (kturn l i.toNat)) := by
  unfold kv
  have hc : ∀ o, ((w.alloc (.cells (l.map bv).toArray 36)).alloc o).cell? ⟨w.heap.size, (i / 8).toNat, none⟩ = some (.int .u8 ((l.getD (i / 8).toNat 0).toNat : Int)) := fun o => by
    rw [World.cell?_alloc_lt _ _ _ (by simp)]
    exact key_cell l w 36 (i / 8).toNat (by omega)
  have hf : ∀ o, ((w.alloc (.cells (l.map bv).toArray 36)).alloc o).frozen? ⟨w.heap.size, (i / 8).toNat, none⟩ = false := fun o => frozen_of_row _ _ _ _ _ (heap_alloc2_old w _ _)
  have hx := (l.getD (i / 8).toNat 0).toNat_lt
  have Hk := Lib.hid (kturn_cells l i h0)
  have hkl : (kturn l i.toNat).length = 32 := by rw [kturn_length, hl]
  generalize l.getD (i / 8).toNat 0 = x at *
  generalize kturn l i.toNat = l2 at *
  have HL2 := Lib.hid hkl
  clear hl hkl
  go_enter Try.func20, Try.ntmps20
  go_wp2_with (first
    | (go_at_call 29; refine (isBit_yes _ _ h0 h1).mono ?_; rintro e w' ⟨rfl, rfl⟩))
  go_region
  go_wp2_with (first
    | (with_reducible refine wpList_load_key rfl 36 (.tmp 2) rfl w.heap.size rfl l2 HL2.out (by rw [← Hk.out, heap_drew]; exact heap_alloc2_old w _ _) Try.underlying36 Try.info32 ?_)
    | (with_reducible refine wpList_store_key rfl 36 (.tmp 4) (.tmp 17) rfl (w.heap.size + 1) l2 HL2.out rfl rfl _ (by rw [heap_drew]; exact heap_alloc2_new w _ _) Try.info32 rfl w.heap.size w (((Below.refl _ _).alloc (Nat.le_refl _) _).alloc (by simp) _).drew (by omega) ?_; intro w2 Hg _ _ hb2))
  exact bodyPost_ret (results_cell_row rfl _ _ _ _ _ _ _ rfl Hg.out Try.underlying36 rfl (by rw [Try.info32, (kv_cells l2 HL2.out).1])) rfl ⟨rfl, hb2⟩

set_option maxHeartbeats 400000 in
theorem RTurn_out (l : List UInt8) (i : Int) (w : World) (hi : i < 0 ∨ 256 ≤ i) (hl : l.length = 32) :
    Calls Try.prog 21 #[kv l, .int .i64 i] w (GaveKey w l) := by
  unfold kv
  rcases hi with hi | hi
  all_goals
    first | have h2 : decide (i < 0) = true := by simp; omega | have h2 : decide (i < 0) = false := by simp; omega
    go_enter Try.func21, Try.ntmps21
    go_wp2_with (first
      | (with_reducible refine wpList_load_key rfl 36 (.tmp 2) rfl w.heap.size rfl l hl (heap_alloc2_old w _ _) Try.underlying36 Try.info32 ?_)
      | (with_reducible refine wpList_store_key rfl 36 (.tmp 4) (.tmp 11) rfl (w.heap.size + 1) l hl rfl rfl _ (heap_alloc2_new w _ _) Try.info32 rfl w.heap.size w (((Below.refl _ _).alloc (Nat.le_refl _) _).alloc (by simp) _) (by omega) ?_; intro w2 Hg _ _ hb2))
    exact bodyPost_ret (results_cell_row rfl _ _ _ _ _ _ _ rfl Hg.out Try.underlying36 rfl (by rw [Try.info32, (kv_cells l hl).1])) rfl ⟨rfl, hb2⟩

set_option maxHeartbeats 400000 in
theorem RTurn_in (l : List UInt8) (i : Int) (w : World) (h0 : 0 ≤ i) (h1 : i < 256) (hl : l.length = 32) :
    Calls Try.prog 21 #[kv l, .int .i64 i] w (GaveKey w (kturn l i.toNat)) := by
  unfold kv
  have hc : ∀ o, ((w.alloc (.cells (l.map bv).toArray 36)).alloc o).cell? ⟨w.heap.size, (i / 8).toNat, none⟩ = some (.int .u8 ((l.getD (i / 8).toNat 0).toNat : Int)) := fun o => by
    rw [World.cell?_alloc_lt _ _ _ (by simp)]
    exact key_cell l w 36 (i / 8).toNat (by omega)
  have hf : ∀ o, ((w.alloc (.cells (l.map bv).toArray 36)).alloc o).frozen? ⟨w.heap.size, (i / 8).toNat, none⟩ = false := fun o => frozen_of_row _ _ _ _ _ (heap_alloc2_old w _ _)
  have hx := (l.getD (i / 8).toNat 0).toNat_lt
  have Hk := Lib.hid (kturn_cells l i h0)
  have hkl : (kturn l i.toNat).length = 32 := by rw [kturn_length, hl]
  generalize l.getD (i / 8).toNat 0 = x at *
  generalize kturn l i.toNat = l2 at *
  have HL2 := Lib.hid hkl
  clear hl hkl
  have h2 : decide (i < 0) = false := by simp; omega
  have h3 : decide (255 < i) = false := by simp; omega
  go_enter Try.func21, Try.ntmps21
  go_wp2_with (first
    | (with_reducible refine wpList_load_key rfl 36 (.tmp 2) rfl w.heap.size rfl l2 HL2.out (by rw [← Hk.out]; exact heap_alloc2_old w _ _) Try.underlying36 Try.info32 ?_)
    | (with_reducible refine wpList_store_key rfl 36 (.tmp 4) (.tmp 25) rfl (w.heap.size + 1) l2 HL2.out rfl rfl _ (by exact heap_alloc2_new w _ _) Try.info32 rfl w.heap.size w (((Below.refl _ _).alloc (Nat.le_refl _) _).alloc (by simp) _) (by omega) ?_; intro w2 Hg _ _ hb2))
  exact bodyPost_ret (results_cell_row rfl _ _ _ _ _ _ _ rfl Hg.out Try.underlying36 rfl (by rw [Try.info32, (kv_cells l2 HL2.out).1])) rfl ⟨rfl, hb2⟩
end Go.Proofs.Ytbkmbbhgpogeiaa
