/-
  Sums and states compared as arrays; the document's Same where all is alike.
-/
import Derived.Test.YtppaffamlfghjaaDoorWideSum
import Derived.Test.YtppaffamlfghjaaDoorStr
import Derived.ChangeKeysEq
namespace Go.Proofs.YtppaffamlfghjaaDoor
open Go.RowKit

theorem Tryd.plainU8 : Tryd.prog.plainKey 5 = true := by kernel_rfl
theorem Tryd.cellsU8 : Tryd.prog.cellsOf 5 = 1 := by kernel_rfl
theorem Tryd.plainU64 : Tryd.prog.plainKey 25 = true := by kernel_rfl
theorem Tryd.cellsU64 : Tryd.prog.cellsOf 25 = 1 := by kernel_rfl

theorem eqItems_same {P : Program} {w : World} {e : TypeId} {k : IntKind} (he : P.underlying e = some (.int k)) (hp : P.plainKey e = true) (d : Nat) (a : List Int) :
    ∀ is : List Nat, (∀ i ∈ is, i < a.length) → (Op.eqItems (d + 1) e 1 (a.map (Value.int k)).toArray (a.map (Value.int k)).toArray is).run P w = .ok true w
  | [], _ => by simp [Op.eqItems]
  | i :: is, h => by
    have hi := h i (by simp)
    have h1 := run_part_plain (P := P) (w := w) hp (xs := (a.map (Value.int k)).toArray) (off := i * 1) (v := .int k a[i]) (by simp [hi])
    have h3 : (Op.equalIn (d + 1) e (.int k a[i]) (.int k a[i])).run P w = .ok true w := by
      simp [Op.equalIn, run_underlying he]
    have ih := eqItems_same (w := w) he hp d a is (fun j hj => h j (by simp [hj]))
    simp only [Op.eqItems, Sem.run_bind, h1, h3, Result.andThen_ok]
    simpa using ih

theorem Tryd.infoU64 : (Tryd.prog.info? 25).map (fun i => (i.zero, i.size, i.bytes)) = some (some (.int .u64 0), 1, 8) := by kernel_rfl

theorem run_eql_b32 (a : List UInt8) (w : World) (ha : a.length = 64) : (binOp .eql 48 (.agg (a.map bv).toArray) (.agg (a.map bv).toArray)).run Tryd.prog w = .ok (.bool true) w := by
  obtain ⟨i, hi, _⟩ := info_parts Tryd.infoU8
  obtain ⟨L, hL, hl⟩ : ∃ L : List Int, a.map bv = L.map (Value.int .u8) ∧ L.length = 64 := ⟨a.map fun x => (x.toNat : Int), by rw [List.map_map]; rfl, by rw [List.length_map, ha]⟩
  rw [hL]
  have h := run_equalIn_array (P := Tryd.prog) w 9999 (L.map (Value.int .u8)).toArray (L.map (Value.int .u8)).toArray Tryd.underlying48 hi
  rw [Tryd.cellsU8, eqItems_same Tryd.underlying5 Tryd.plainU8 9998 _ _ (fun i hi => by rw [hl]; exact List.mem_range.1 hi)] at h
  simp only [binOp]
  simp [Op.equal, Op.maxDepth, h]

theorem run_eql_st (s : St) (w : World) : (binOp .eql 43 (.agg #[.int .u64 (s.a.toNat : Int), .int .u64 (s.b.toNat : Int), .int .u64 (s.c.toNat : Int), .int .u64 (s.d.toNat : Int), .int .u64 (s.e.toNat : Int), .int .u64 (s.f.toNat : Int), .int .u64 (s.g.toNat : Int), .int .u64 (s.h.toNat : Int)])
    (.agg #[.int .u64 (s.a.toNat : Int), .int .u64 (s.b.toNat : Int), .int .u64 (s.c.toNat : Int), .int .u64 (s.d.toNat : Int), .int .u64 (s.e.toNat : Int), .int .u64 (s.f.toNat : Int), .int .u64 (s.g.toNat : Int), .int .u64 (s.h.toNat : Int)])).run Tryd.prog w = .ok (.bool true) w := by
  obtain ⟨i, hi, _⟩ := info_parts Tryd.infoU64
  have h := run_equalIn_array (P := Tryd.prog) w 9999 ((s.list.map fun x => (x.toNat : Int)).map (Value.int .u64)).toArray ((s.list.map fun x => (x.toNat : Int)).map (Value.int .u64)).toArray Tryd.underlying43 hi
  rw [Tryd.cellsU64, eqItems_same Tryd.underlying25 Tryd.plainU64 9998 _ _ (fun i hi => by simpa [St.list] using hi)] at h
  have e : ((s.list.map fun x => (x.toNat : Int)).map (Value.int .u64)).toArray = #[.int .u64 (s.a.toNat : Int), .int .u64 (s.b.toNat : Int), .int .u64 (s.c.toNat : Int), .int .u64 (s.d.toNat : Int), .int .u64 (s.e.toNat : Int), .int .u64 (s.f.toNat : Int), .int .u64 (s.g.toNat : Int), .int .u64 (s.h.toNat : Int)] := rfl
  rw [e] at h
  simp only [binOp]
  simp [Op.equal, Op.maxDepth, h]

theorem run_guard_b32 (x y : Operand) (a b : Array Value) (w : World) : (eqGuard .eql 48 x y (.agg a) (.agg b)).run Tryd.prog w = .ok () w := by
  simp [eqGuard]
theorem run_guard_st (x y : Operand) (a b : Array Value) (w : World) : (eqGuard .eql 43 x y (.agg a) (.agg b)).run Tryd.prog w = .ok () w := by
  simp [eqGuard]

set_option maxRecDepth 100000 in
set_option maxHeartbeats 1000000 in
theorem Same_true (s : St) (A A' : Option Addr) (n c c' m B : Nat) (l : List UInt8) (w : World) (ha : Sees w B A n c (l.map bv)) (hb : Sees w B A' n c' (l.map bv)) (hB : B ≤ w.heap.size) :
    Calls Tryd.prog 26 #[hv s A n c m, hv s A' n c' m] w fun e w' => e = .returned (.bool true) ∧ Below w.heap.size w w' := by
  have q1 := run_eql_st s
  have q2 := fun x y a b W => run_guard_st x y a b W
  have cv : ∀ (C : Option Addr) (d : Nat) (_ : Sees w B C n d (l.map bv)) (o1 o2 : Obj), (convert 24 9 (.slice C n d)).run Tryd.prog ((w.alloc o1).alloc o2) = .ok (.string (strOf l)) ((w.alloc o1).alloc o2) := fun C d hC o1 o2 =>
    run_convert_sees (P := Tryd.prog) 24 9 5 Tryd.underlying24 Tryd.underlying5 Tryd.underlying9 ((hC.alloc hB o1).alloc (by rw [World.size_alloc]; omega) o2)
  have cv1 := cv A c ha
  have cv2 := cv A' c' hb
  clear cv
  rw [hv_cells, hv_cells]
  unfold hcells
  go_enter Tryd.func26, Tryd.ntmps26
  go_wp2
  go_ret
  exact ⟨rfl, ((Below.refl _ _).alloc (Nat.le_refl _) _).alloc (by simp) _⟩
end Go.Proofs.YtppaffamlfghjaaDoor
