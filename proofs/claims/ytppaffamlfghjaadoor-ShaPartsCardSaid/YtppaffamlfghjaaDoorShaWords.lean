/-
  The document's words of a block.
-/
import Derived.Test.YtppaffamlfghjaaDoorShaBlock
import Derived.RegionTactic
import Derived.Great.Walk
import Derived.Great.BuildSlice
namespace Go.Proofs.YtppaffamlfghjaaDoor
open Go.RowKit

/-- 'x := a' of an array of numbers in a block. -/
theorem wpList_load_w {P : Program} {ops : Array Oper} {rest : List Oper} {o : Oper} {a : Act} {w : World} {Q : Exit → Act → World → Prop} (hgd : o.guard = none) (ty : TypeId) (x : Operand) (ho : o.op = .load ty x)
    (g : Nat) (hx : a.eval x = .pointer (some ⟨g, 0, none⟩)) (l : List UInt32) (m : Nat) {e : TypeId} {n : Nat} (hg : HoldsW w ty g l) (hl : l.length = m)
    (hu : P.underlying ty = some (.array n e)) (hi : (P.info? ty).map (·.size) = some m)
    (h : wpList P ops Q rest (a.put o.dst (.agg (l.map uv).toArray)) w) : wpList P ops Q (o :: rest) a w :=
  wpList_load_row hgd ty x ho g hx ty _ (0, 0) _ hg hu rfl (by rw [hi]; simp [hl]) h

theorem w_one (l : List UInt32) : (l.map uv).toArray.all (·.oneCell') = true := by
  rw [Array.all_eq_true_iff_forall_mem]
  intro v hv
  obtain ⟨x, _, rfl⟩ := List.mem_map.1 (by simpa using hv)
  rfl

theorem wpList_store_w {P : Program} {ops : Array Oper} {rest : List Oper} {o : Oper} {a : Act} {w : World} {Q : Exit → Act → World → Prop} (hgd : o.guard = none) (ty : TypeId) (x y : Operand) (ho : o.op = .store ty x y)
    (g : Nat) (l : List UInt32) (m : Nat) (hx : a.eval x = .pointer (some ⟨g, 0, none⟩)) (hy : a.eval y = .agg (l.map uv).toArray) (hl : l.length = m)
    (old : List UInt32) (hg : HoldsW w ty g old) (hi : (P.info? ty).map (·.size) = some m) (hold : old.length = m) (D : Nat) (w0 : World) (hb : Below D w0 w) (hD : D ≤ g)
    (h : ∀ w' : World, HoldsW w' ty g l → (∀ k, k ≠ g → w'.heap[k]? = w.heap[k]?) → w'.heap.size = w.heap.size → Below D w0 w' → wpList P ops Q rest (a.put o.dst undef) w') : wpList P ops Q (o :: rest) a w :=
  wpList_store_row hgd ty x y ho g _ hx hy ty _ hg (by rw [hi]; simp [hl]) (by simp [hl, hold]) (w_one l)
    (h _ (show _ = _ from setRow_heap w g _ _ ty _ hg) (fun k hk => setRow_other w g k _ hk) (by simp) (below_setRow hb hD _))
theorem Tryd.info64 : (Tryd.prog.info? 70).map (·.size) = some 64 := by kernel_rfl

/-- The words below k; the others are 0. -/
def wsl (b : List UInt8) (k : Nat) : List UInt32 := (List.range 64).map fun j => if j < k then ww b j else 0
theorem wsl_length (b : List UInt8) (k : Nat) : (wsl b k).length = 64 := by simp [wsl]
theorem wsl_at (b : List UInt8) {k j : Nat} (hj : j < k) (h : j < 64) : (wsl b k).getD j 0 = ww b j := by simp [wsl, List.getD, h, hj]
theorem wsl_out (b : List UInt8) {k : Nat} (h : k < 64) : (wsl b k).getD k 0 = 0 := by simp [wsl, List.getD, h]
theorem wsl_set (b : List UInt8) (k : Nat) : (wsl b k).set k (ww b k) = wsl b (k + 1) := by
  refine List.ext_getElem (by simp [wsl]) fun j h1 h2 => ?_
  rw [List.getElem_set]
  simp only [wsl, List.getElem_map, List.getElem_range]
  split
  · next e => subst e; rw [if_pos (by omega)]
  · next e => by_cases h : j < k
              · rw [if_pos h, if_pos (by omega)]
              · rw [if_neg h, if_neg (by omega)]

theorem set_zero (b : List UInt8) {k : Nat} (h : k < 64) : (wsl b k).set k (UInt32.ofNat (beNum [])) = wsl b k := by
  refine List.ext_getElem (by simp) fun j h1 h2 => ?_
  rw [List.getElem_set]
  split
  · next e =>
    subst e
    have := wsl_out b h
    simp only [wsl, List.getElem_map, List.getElem_range, Nat.lt_irrefl, if_false]
    rfl
  · rfl
theorem set_at (b : List UInt8) {k : Nat} (h : k < 64) (x : UInt32) : ((wsl b k).set k x).getD k 0 = x := by
  rw [List.getD_eq_getElem?_getD, List.getElem?_set_self (by rw [wsl_length]; exact h)]
  rfl

theorem u_shr3 (x : UInt32) : (x.toNat : Int) / 8 = ((shr x 3).toNat : Int) := u_shr x 3
theorem u_shr10 (x : UInt32) : (x.toNat : Int) / 1024 = ((shr x 10).toNat : Int) := u_shr x 10
theorem u_add4 (a b c d : UInt32) : ((a.toNat : Int) + (b.toNat : Int) + (c.toNat : Int) + (d.toNat : Int)) % 4294967296 = ((d + (a + b + c)).toNat : Int) := by
  rw [UInt32.toNat_add, UInt32.toNat_add, UInt32.toNat_add]; omega
theorem next_byte (l : List UInt8) (q : Nat) (h : q < l.length) : ((beNum (l.take q) : Int) % 4294967296 * 256 + ((l[q]).toNat : Int)) % 4294967296 = ((UInt32.ofNat (beNum (l.take (q + 1)))).toNat : Int) := by
  rw [u_of, beNum_take h]; omega

/-- n cells of 0. -/
def zcells (n : Nat) : Array Value := ((List.replicate n (0 : UInt32)).map uv).toArray
theorem run_alloc64 (w : World) : (Instr.alloc 70 true (.tuple #[])).run Tryd.prog w = .ok (.pointer (some ⟨w.heap.size, 0, none⟩)) (w.alloc (.cells (zcells 64) 70)) := by kernel_rfl
theorem built64 : Tryd.prog.built 70 [] = some (zcells 64) := by kernel_rfl
theorem holds_zero (w : World) (ty : TypeId) (n : Nat) : HoldsW (w.alloc (.cells (zcells n) ty)) ty w.heap.size (List.replicate n 0) := heap_alloc_new w _
theorem wsl_zero (b : List UInt8) : wsl b 0 = List.replicate 64 0 := rfl

set_option maxRecDepth 100000 in
set_option maxHeartbeats 1000000 in
theorem words_any (A : Option Addr) (n c B : Nat) (l : List UInt8) (w : World) (h : Sees w B A n c (l.map bv)) (hB : B ≤ w.heap.size) (hn : 64 ≤ n) (hm : n ≤ 2147483647) :
    Calls Tryd.prog 47 #[.slice A n c] w fun e w' => e = .returned (.agg ((wsl l 64).map uv).toArray) ∧ Below w.heap.size w w' := by
  have hle := h.le
  have hmax := h.max
  obtain ⟨ab, ao, _, rfl, hab, _, _⟩ := h.cell (k := 0) (by omega)
  have e1 : ∀ o, (w.alloc o).heap.size = w.heap.size + 1 := fun o => World.size_alloc ..
  have z1 : HoldsW ((w.alloc (.cells (zcells 64) 70)).alloc (.cells (zcells 64) 70)) 70 (w.heap.size + 1) (List.replicate 64 0) := by have := holds_zero (w.alloc (.cells (zcells 64) 70)) 70 64; rwa [e1] at this
  have z0 : HoldsW ((w.alloc (.cells (zcells 64) 70)).alloc (.cells (zcells 64) 70)) 70 w.heap.size (List.replicate 64 0) := (holds_zero w _ 64).alloc _
  have bz : Below w.heap.size w ((w.alloc (.cells (zcells 64) 70)).alloc (.cells (zcells 64) 70)) := ((Below.refl _ w).alloc (Nat.le_refl _) _).alloc (by rw [e1]; omega) _
  go_enter Tryd.func47, Tryd.ntmps47
  go_wp2_with (first
    | (with_reducible refine wpList_buildTo rfl 70 #[] rfl (some 10) rfl (zcells 64) (by with_unfolding_all exact built64) ?_)
    | (with_reducible refine wpList_store_w rfl 70 (.tmp 3) (.tmp 10) rfl (w.heap.size + 1) (List.replicate 64 0) 64 rfl (by with_unfolding_all exact rfl) (by simp) (List.replicate 64 0) (by with_unfolding_all exact z1) Tryd.info64 (by simp) w.heap.size w (by with_unfolding_all exact bz) (by omega) ?_; intro w1 hW1 ho1 hs1 hb1))
  have hR1 : HoldsW w1 70 w.heap.size (List.replicate 64 0) := (ho1 w.heap.size (by omega)).trans (by with_unfolding_all exact z0)
  rw [← wsl_zero l] at hW1
  clear z0 z1 bz ho1 hs1
  go_loopw [4] (fun v wr => ∃ k : Nat, k ≤ 64 ∧ v = .int .i64 k ∧ HoldsW wr 70 w.heap.size (List.replicate 64 0) ∧ HoldsW wr 70 (w.heap.size + 1) (wsl l k) ∧ Below w.heap.size w wr)
    (fun v _ => 64 - (intOf v).toNat)
  case atStart => exact ⟨0, Nat.zero_le _, rfl, hR1, hW1, hb1⟩
  case round =>
    clear hR1 hW1 hb1
    obtain ⟨k, hk, rfl, hR, hW, hb⟩ := hrel
    by_cases hlt : k < 64
    · have hlt2 : (k : Int) < 64 := by omega
      by_cases hlow : k < 16
      · have hlow2 : (k : Int) < 16 := by omega
        go_wp2
        go_loopw [5] (fun v wr => ∃ q : Nat, q ≤ 4 ∧ v = .int .i64 q ∧ HoldsW wr 70 w.heap.size (List.replicate 64 0) ∧ HoldsW wr 70 (w.heap.size + 1) ((wsl l k).set k (UInt32.ofNat (beNum ((l.drop (4 * k)).take q)))) ∧ Below w.heap.size w wr)
          (fun v _ => 4 - (intOf v).toNat)
        case atStart => exact ⟨0, Nat.zero_le _, rfl, hR, by rw [List.take_zero, set_zero l hlt]; exact hW, hb⟩
        case round =>
          clear hR hW hb
          obtain ⟨q, hq, rfl, hR, hW, hb⟩ := hrel
          by_cases hltq : q < 4
          · have hltq2 : (q : Int) < 4 := by omega
            obtain ⟨_, _, u, e9, _, hu, hc⟩ := (h.upTo hb hB).cell (k := 4 * k + q) (by omega)
            obtain ⟨rfl, rfl⟩ : _ ∧ _ := by simpa using e9
            obtain ⟨hkq, rfl⟩ := bv_get hu
            unfold bv at hc
            have hin : (4 : Int) * k + q < n := by omega
            have cw := hW.cell (j := k) (by rw [List.length_set, wsl_length]; exact hlt)
            rw [set_at l hlt] at cw
            have fw := hW.frozen k
            have hnb := next_byte (l.drop (4 * k)) q (by rw [List.length_drop]; omega)
            rw [List.getElem_drop] at hnb
            have hset : HoldsW (wr.setCell ⟨w.heap.size + 1, k, none⟩ (.int .u32 ((beNum ((l.drop (4 * k)).take (q + 1)) : Int) % 4294967296))).drew 70 (w.heap.size + 1) ((wsl l k).set k (UInt32.ofNat (beNum ((l.drop (4 * k)).take (q + 1))))) := by
              rw [← u_of]
              have := hW.set k (UInt32.ofNat (beNum ((l.drop (4 * k)).take (q + 1))))
              rw [List.set_set] at this
              exact this
            go_wp2
            go_region
            go_wp2
            go_roundw
            case rel => exact ⟨q + 1, by omega, by go_num, hR.setOther _ _ (by simp), hset, (hb.setCell (by simp) _).drew⟩
            case measure => simp [intOf]; omega
          · rw [show (q : Int) = 4 by omega]
            obtain rfl : q = 4 := by omega
            have hfull : HoldsW wr 70 (w.heap.size + 1) (wsl l (k + 1)) := by
              rw [← wsl_set, ww_low l hlow]; exact hW
            clear hW
            go_wp2
            go_roundw
            case rel => exact ⟨k + 1, by omega, by go_num, hR, hfull, hb⟩
            case measure => simp [intOf]; omega
      · have hlow2 : ¬ (k : Int) < 16 := by omega
        have c2 := hW.cell (j := k - 2) (by rw [wsl_length]; omega)
        have c7 := hW.cell (j := k - 7) (by rw [wsl_length]; omega)
        have c15 := hW.cell (j := k - 15) (by rw [wsl_length]; omega)
        have c16 := hW.cell (j := k - 16) (by rw [wsl_length]; omega)
        have ck := hW.cell (j := k) (by rw [wsl_length]; omega)
        rw [wsl_at l (by omega) (by omega)] at c2 c7 c15 c16
        have fk := hW.frozen k
        have hw := Lib.hid (ww_high l (n := k) (by omega))
        have hset := Lib.hid (wsl_set l k)
        generalize ww l (k - 2) = x2 at *
        generalize ww l (k - 7) = x7 at *
        generalize ww l (k - 15) = x15 at *
        generalize ww l (k - 16) = x16 at *
        have T1 : Hid (∀ W, Calls Tryd.prog 49 #[.int .u32 (x15.toNat : Int), .int .u64 7] W (GaveU W (rotr x15 7))) := Lib.hid fun W => turned_any x15 7 W (by omega) (by omega)
        have T2 : Hid (∀ W, Calls Tryd.prog 49 #[.int .u32 (x15.toNat : Int), .int .u64 18] W (GaveU W (rotr x15 18))) := Lib.hid fun W => turned_any x15 18 W (by omega) (by omega)
        have T3 : Hid (∀ W, Calls Tryd.prog 49 #[.int .u32 (x2.toNat : Int), .int .u64 17] W (GaveU W (rotr x2 17))) := Lib.hid fun W => turned_any x2 17 W (by omega) (by omega)
        have T4 : Hid (∀ W, Calls Tryd.prog 49 #[.int .u32 (x2.toNat : Int), .int .u64 19] W (GaveU W (rotr x2 19))) := Lib.hid fun W => turned_any x2 19 W (by omega) (by omega)
        go_wp2_with (go_at_call 49; (first | with_reducible refine (T1.out _).mono ?_ | with_reducible refine (T2.out _).mono ?_ | with_reducible refine (T3.out _).mono ?_ | with_reducible refine (T4.out _).mono ?_); rintro e w' ⟨rfl, rfl⟩)
        go_region
        simp only [u_xor, u_shr3, u_shr10, u_add4]
        have e5 : x16 + ((rotr x2 17 ^^^ rotr x2 19 ^^^ shr x2 10) + x7 + (rotr x15 7 ^^^ rotr x15 18 ^^^ shr x15 3)) = ww l k := hw.out.symm
        simp only [e5]
        go_wp2
        go_roundw
        case rel => exact ⟨k + 1, by omega, by go_num, hR.setOther _ _ (by simp), by rw [← hset.out]; exact hW.set k _, (hb.setCell (by simp) _).drew⟩
        case measure => simp [intOf]; omega
    · rw [show (k : Int) = 64 by omega]
      obtain rfl : k = 64 := by omega
      go_wp2_with (first
        | (with_reducible refine wpList_load_w rfl 70 (.tmp 3) rfl (w.heap.size + 1) rfl (wsl l 64) 64 hW (wsl_length l 64) Tryd.underlying70 Tryd.info64 ?_)
        | (with_reducible refine wpList_store_w rfl 70 (.tmp 2) (.tmp 75) rfl w.heap.size (wsl l 64) 64 rfl rfl (wsl_length l 64) _ hR Tryd.info64 (by simp) w.heap.size w hb (Nat.le_refl _) ?_; intro w2 Hg _ _ hb2))
      exact bodyPost_ret (results_cell_row rfl _ _ _ _ _ _ _ rfl Hg Tryd.underlying70 rfl (by rw [Tryd.info64]; simp [wsl_length])) rfl ⟨rfl, hb2⟩
end Go.Proofs.YtppaffamlfghjaaDoor
