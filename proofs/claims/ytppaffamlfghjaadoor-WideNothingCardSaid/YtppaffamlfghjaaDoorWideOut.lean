/-
  A state's bytes: the program's way.
-/
import Derived.Test.YtppaffamlfghjaaDoorWideCells
import Derived.Test.YtppaffamlfghjaaDoorPut
namespace Go.Proofs.YtppaffamlfghjaaDoor
open Go.RowKit

theorem out_take (s : St) {k : Nat} (hk : k < 8) : (out64 s).take (8 * (k + 1)) = (out64 s).take (8 * k) ++ beBytes 8 (s.list.getD k 0).toNat := by
  rw [show 8 * (k + 1) = 8 * k + 8 by omega, List.take_add]
  congr 1
  refine List.ext_getElem (by simp [out64, beBytes, beTo]; omega) fun j h1 h2 => ?_
  have hj : j < 8 := by simpa [beBytes, beTo] using h2
  simp only [out64, beBytes, beTo, List.getElem_take, List.getElem_drop, List.getElem_map, List.getElem_range, outAt]
  rw [show (8 * k + j) / 8 = k by omega, show (8 * k + j) % 8 = j by omega, show 56 - 8 * j = 8 * (8 - 1 - j) by omega, Nat.pow_mul]

/-- The bytes of the first k numbers; the others are 0. -/
def outB (s : St) (k : Nat) : List UInt8 := (out64 s).take (8 * k) ++ List.replicate (64 - 8 * k) 0
theorem outB_length (s : St) {k : Nat} (hk : k ≤ 8) : (outB s k).length = 64 := by simp [outB, out64]; omega
theorem outB_full (s : St) : outB s 8 = out64 s := by
  unfold outB
  rw [List.take_of_length_le (by rw [out64_length]; omega)]
  simp
theorem outB_zero (s : St) : outB s 0 = List.replicate 64 0 := rfl
theorem outB_splice (s : St) {k : Nat} (hk : k < 8) : splice ((outB s k).map bv) (8 * k) ((beBytes 8 (s.list.getD k 0).toNat).map bv) = (outB s (k + 1)).map bv := by
  have hl : ((out64 s).take (8 * k)).length = 8 * k := by rw [List.length_take, out64_length]; omega
  unfold splice
  rw [← List.map_take, List.length_map, beBytes, beTo_length, ← List.map_drop, ← List.map_append, ← List.map_append]
  congr 1
  unfold outB
  rw [List.take_left' hl, out_take s hk, List.append_assoc]
  congr 2
  rw [List.drop_append, List.drop_of_length_le (by rw [hl]; omega), hl, List.drop_replicate, List.nil_append]
  congr 1
  omega

theorem nb_start (w : World) (t1 t2 t3 : TypeId) (c1 c2 c3 : Array Value) (l1 : List UInt64) (l2 l3 : List UInt8) (h1 : c1 = (l1.map uv).toArray) (h2 : c2 = (l2.map bv).toArray) (h3 : c3 = (l3.map bv).toArray) :
    HoldsW (((w.alloc (.cells c1 t1)).alloc (.cells c2 t2)).alloc (.cells c3 t3)) t1 w.heap.size l1 ∧ HoldsB (((w.alloc (.cells c1 t1)).alloc (.cells c2 t2)).alloc (.cells c3 t3)) t2 (w.heap.size + 1) l2 ∧
    HoldsB (((w.alloc (.cells c1 t1)).alloc (.cells c2 t2)).alloc (.cells c3 t3)) t3 (w.heap.size + 1 + 1) l3 ∧ Below w.heap.size w (((w.alloc (.cells c1 t1)).alloc (.cells c2 t2)).alloc (.cells c3 t3)) := by
  have e1 : (w.alloc (.cells c1 t1)).heap.size = w.heap.size + 1 := World.size_alloc ..
  have e2 : ((w.alloc (.cells c1 t1)).alloc (.cells c2 t2)).heap.size = w.heap.size + 1 + 1 := by rw [World.size_alloc, World.size_alloc]
  have a1 : HoldsW (w.alloc (.cells c1 t1)) t1 w.heap.size l1 := holds_new w t1 _ c1 l1 rfl h1
  have a2 : HoldsB ((w.alloc (.cells c1 t1)).alloc (.cells c2 t2)) t2 (w.heap.size + 1) l2 := holdsB_new _ t2 _ c2 l2 e1.symm h2
  have a3 : HoldsB (((w.alloc (.cells c1 t1)).alloc (.cells c2 t2)).alloc (.cells c3 t3)) t3 (w.heap.size + 1 + 1) l3 := holdsB_new _ t3 _ c3 l3 e2.symm h3
  exact ⟨(a1.alloc _).alloc _, a2.alloc _, a3, (((Below.refl _ w).alloc (Nat.le_refl _) _).alloc (by rw [e1]; omega) _).alloc (by rw [e2]; omega) _⟩

theorem run_slice64 (g k : Nat) (W : World) (hk : k < 8) : (Instr.sliceAt 48 (.pointer (some ⟨g, 0, none⟩)) (some (.int .i64 (8 * (k : Int)))) none none).run Tryd.prog W = .ok (.slice (some ⟨g, 8 * k, none⟩) (64 - 8 * k) (64 - 8 * k)) W := by
  have hlen : Tryd.prog.arrayLen 48 = 64 := by kernel_rfl
  have hel : Tryd.prog.elem 48 = 5 := by kernel_rfl
  have hsz : (sizeOf 5).run Tryd.prog W = .ok 1 W := by kernel_rfl
  have e : ((8 : Int) * (k : Int)).toNat = 8 * k := by omega
  rw [run_sliceAt_array_l W _ _ (by rw [hlen, hel]; exact Tryd.underlying48) .i64 _ (by omega) (by rw [hlen]; omega), hlen, hel, hsz, e]
  simp only [Result.andThen, slicedAt]
  rw [if_neg (by omega)]
  simp [Addr.add]
  omega

theorem size8 : (Tryd.prog.info? 5).map (·.size) = some 1 := by kernel_rfl

set_option maxRecDepth 100000 in
set_option maxHeartbeats 1000000 in
theorem numbersBytes_any (s : St) (w : World) :
    Calls Tryd.prog 44 #[sv s] w fun e w' => e = .returned (.agg ((out64 s).map bv).toArray) ∧ Below w.heap.size w w' := by
  have hz : ((List.replicate 64 (0 : UInt8)).map bv).toArray = ((List.replicate 64 (0 : UInt8)).map bv).toArray := rfl
  obtain ⟨a0, a1, a2, ab⟩ := nb_start w 43 48 48 #[.int .u64 (s.a.toNat : Int), .int .u64 (s.b.toNat : Int), .int .u64 (s.c.toNat : Int), .int .u64 (s.d.toNat : Int), .int .u64 (s.e.toNat : Int), .int .u64 (s.f.toNat : Int), .int .u64 (s.g.toNat : Int), .int .u64 (s.h.toNat : Int)]
    _ _ s.list (List.replicate 64 0) (List.replicate 64 0) rfl rfl rfl
  rw [sv_eq]
  go_enter Tryd.func44, Tryd.ntmps44
  go_wp2
  go_loopw [9] (fun v wr => ∃ k : Nat, k ≤ 8 ∧ v = .int .i64 k ∧ HoldsB wr 48 (w.heap.size + 1) (List.replicate 64 0) ∧ HoldsB wr 48 (w.heap.size + 1 + 1) (outB s k) ∧ Below w.heap.size w wr)
    (fun v _ => 8 - (intOf v).toNat)
  case atStart => exact ⟨0, Nat.zero_le _, rfl, by with_unfolding_all exact a1, by with_unfolding_all exact a2, by with_unfolding_all exact ab⟩
  case round =>
    clear a0 a1 a2 ab hz
    obtain ⟨k, hk, rfl, hR, hO, hb⟩ := hrel
    by_cases hlt : k < 8
    · have hlt2 : (k : Int) < 8 := by omega
      have hix := fun W => run_index_eight s k W hlt
      have hsl := fun g W => run_slice64 g k W hlt
      have HSP := Lib.hid (outB_splice s hlt)
      have hOl := Lib.hid (outB_length s hk)
      obtain ⟨x, hx⟩ : ∃ x, x = (s.list.getD k 0) := ⟨_, rfl⟩
      rw [← hx] at HSP
      rw [← hx] at hix
      have hxl := x.toNat_lt
      have q1 : Hid (((x.toNat : Int) / 2 ^ ((8 : Int) * 8).toNat != 0) = false) := Lib.hid (by rw [bne_eq_false_iff_eq]; show (x.toNat : Int) / 18446744073709551616 = 0; omega)
      have hmin : Hid (((beBytes 8 x.toNat).map bv).length = Nat.min 8 (64 - 8 * k)) := Lib.hid (by rw [List.length_map, beBytes, beTo_length]; show 8 = min 8 (64 - 8 * k); omega)
      have hfit : Hid (8 * k + ((beBytes 8 x.toNat).map bv).length ≤ ((outB s k).map bv).length) := Lib.hid (by rw [List.length_map, List.length_map, beBytes, beTo_length, hOl.out]; omega)
      clear hx
      have PP : Hid (Calls Tryd.prog 36 #[.slice none 0 0, .int .u64 (x.toNat : Int), .int .i64 8] wr (GaveBytes wr (0 + (8 : Int).toNat) ([] ++ beBytes (8 : Int).toNat ((x.toNat : Int)).toNat))) := Lib.hid (Put_ok none 0 0 0 [] (x.toNat : Int) 8 wr Sees.none_ (Nat.zero_le _) (by omega) (by omega) (by omega) (by omega) (by omega) q1.out)
      go_wp2_with (first
        | (go_at_call 36
           refine PP.out.mono ?_
           rintro e w1 ⟨A1, c1, rfl, hown1, hb1⟩
           have hS := (seesIn_of_own hown1).1
           rw [Int.toNat_natCast] at hS
           have hS1 : Sees w1 w1.heap.size A1 8 c1 ((beBytes 8 x.toNat).map bv) := hS
           have hO1 := hO.keep hb1 hO.lt
           have hR1 := hR.keep hb1 hR.lt
           have hb1' := hb.trans (hb1.mono hb.size)
           clear hS hown1)
        | (with_reducible refine wpList_copy_splice rfl (.tmp 20) (.tmp 21) _ _ rfl 5 Tryd.underlying24 size8 (some ⟨w.heap.size + 1 + 1, 8 * k, none⟩) A1 (64 - 8 * k) (64 - 8 * k) 8 c1 rfl rfl (w.heap.size + 1 + 1) (8 * k) ((outB s k).map bv) 48 (by with_unfolding_all exact hO1) ((beBytes 8 x.toNat).map bv) hmin.out (fun hp => ⟨rfl, hS1.src hp⟩) hfit.out (bv_one _) (w.heap.size + 1 + 1) w1 (Below.refl _ _) (Nat.le_refl _) ?_; intro w2 Hg hb2)
        | fail)
      have hO2 : HoldsB w2 48 (w.heap.size + 1 + 1) (outB s (k + 1)) := by
        have := Hg.out
        rw [HSP.out] at this
        exact this
      have hR2 := hR1.keep hb2 (Nat.lt_succ_self _)
      have B2 := hb1'.trans (hb2.mono (by omega))
      go_wp2
      go_roundw
      case rel => exact ⟨k + 1, by omega, by go_num, hR2, hO2, B2⟩
      case measure => simp [intOf]; omega
    · rw [show (k : Int) = 8 by omega]
      obtain rfl : k = 8 := by omega
      rw [outB_full] at hO
      go_wp2_with (first
        | (with_reducible refine wpList_load_b rfl 48 (.tmp 3) rfl (w.heap.size + 1 + 1) rfl (out64 s) (out64_length s) hO Tryd.underlying48 Tryd.infoB32 ?_)
        | (with_reducible refine wpList_store_b rfl 48 (.tmp 2) (.tmp 24) rfl (w.heap.size + 1) (out64 s) (out64_length s) rfl rfl _ hR Tryd.infoB32 (by simp) w.heap.size w hb (by omega) ?_; intro w2 Hg _ _ hb2))
      exact bodyPost_ret (results_cell_row rfl _ _ _ _ _ _ _ rfl Hg Tryd.underlying48 rfl (by rw [Tryd.infoB32, (b_cells _ (out64_length s)).1])) rfl ⟨rfl, hb2⟩
end Go.Proofs.YtppaffamlfghjaaDoor
