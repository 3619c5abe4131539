/-
  A block goes in: the program's way.
-/
import Derived.Test.YtppaffamlfghjaaDoorWideMixed
import Derived.Test.YtppaffamlfghjaaDoorWideRef
import Derived.Laws.CopyOwn
namespace Go.Proofs.YtppaffamlfghjaaDoor
open Go.RowKit

theorem turnedMix_q (x : UInt64) (i j k : Nat) (hi : 1 ≤ i) (hi2 : i < 64) (hj : 1 ≤ j) (hj2 : j < 64) (hk : 1 ≤ k) (hk2 : k < 64) (W : World) :
    Calls Tryd.prog 65 #[.int .u64 (x.toNat : Int), .int .i64 (i : Int), .int .i64 (j : Int), .int .i64 (k : Int)] W fun e w' => e = .returned (.int .u64 ((tmix x i j k).toNat : Int)) ∧ w' = W :=
  (turnedMix_any x i j k W hi hi2 hj hj2 hk hk2).mono fun _ _ ⟨h, h'⟩ => ⟨h, h'.symm⟩

/-- A quiet call behind a quiet region. -/
theorem quiet_behind {P : Program} {f : FuncId} {args : Array Value} {w : World} {a n : Nat} {v : Value} (h : ∀ W, Calls P f args W fun e w' => e = .returned v ∧ w' = W) :
    Calls P f args (w.drewN (a + n)) fun e w'' => e = .returned v ∧ ∃ m, w'' = w.drewN (a + m) :=
  (h _).mono fun _ _ ⟨he, hm⟩ => ⟨he, n, hm⟩

theorem Tryd.size64u : (Tryd.prog.info? 25).map (·.size) = some 1 := by kernel_rfl

theorem u_notc (x : UInt64) : bits .xor .u64 (if IntKind.u64.signed = true then -1 else IntKind.u64.max) (x.toNat : Int) = ((~~~x).toNat : Int) := u_not x

theorem taken_cell {W : World} {ty g : Nat} {l : List UInt64} (h : HoldsW W ty g l) (m j : Nat) (v : Value) (hj : ((l.take m).map uv)[j]? = some v) : W.cell? ((⟨g, 0, none⟩ : Addr).add j) = some v := by
  rw [List.getElem?_map] at hj
  obtain ⟨x, hx, rfl⟩ := Option.map_eq_some_iff.1 hj
  obtain ⟨hj1, hj2⟩ := List.getElem?_eq_some_iff.1 hx
  have hl : j < l.length := by rw [List.length_take] at hj1; omega
  rw [List.getElem_take] at hj2
  have := h.cell hl
  rw [Addr.add_mid, Nat.zero_add, this, ← hj2, List.getD_eq_getElem?_getD, List.getElem?_eq_getElem hl]
  rfl

/-- The numbers of a state, moved by one. -/
def moved (x : St) : List UInt64 := [x.a, x.a, x.b, x.c, x.d, x.e, x.f, x.g]

set_option maxRecDepth 100000 in
set_option maxHeartbeats 1000000 in
theorem blockIn_any (A : Option Addr) (n c B : Nat) (l : List UInt8) (s : St) (w : World) (h : Sees w B A n c (l.map bv)) (hB : B ≤ w.heap.size) (hn : 128 ≤ n) (hm : n ≤ 2147483647) (L : Laid w) :
    Calls Tryd.prog 53 #[sv s, .slice A n c] w fun e w' => e = .returned (sv (blk s l)) ∧ Below w.heap.size w w' := by
  obtain ⟨a0, a1, ab, asz⟩ := two_new w 43 43 #[.int .u64 (s.a.toNat : Int), .int .u64 (s.b.toNat : Int), .int .u64 (s.c.toNat : Int), .int .u64 (s.d.toNat : Int), .int .u64 (s.e.toNat : Int), .int .u64 (s.f.toNat : Int), .int .u64 (s.g.toNat : Int), .int .u64 (s.h.toNat : Int)]
    #[.int .u64 0, .int .u64 0, .int .u64 0, .int .u64 0, .int .u64 0, .int .u64 0, .int .u64 0, .int .u64 0] s.list [0, 0, 0, 0, 0, 0, 0, 0] rfl rfl
  have hw0 := h.upTo ab hB
  rw [sv_eq]
  go_enter Tryd.func53, Tryd.ntmps53
  go_wp2_with (first
    | (go_at_call 64
       refine (mixed_any _ _ _ B l _ hw0 (by rw [asz]; omega) hn hm).mono ?_
       rintro e w1 ⟨rfl, hb1⟩
       have a0 := a0.keep hb1 (by rw [asz]; omega)
       have a1 := a1.keep hb1 (by rw [asz]; omega)
       have ab1 := ab.trans (hb1.mono (by rw [asz]; omega))
       have sz1 := hb1.size
       rw [asz] at sz1
       have z5 := holds_zero w1 81 80
       have b5 := ab1.alloc ab1.size (.cells (zcells 80) 81)
       have c0 := a0.alloc (.cells (zcells 80) 81)
       have c1 := a1.alloc (.cells (zcells 80) 81)
       have s5 : (w1.alloc (.cells (zcells 80) 81)).heap.size = w1.heap.size + 1 := World.size_alloc ..)
    | (with_reducible refine wpList_store_w rfl 81 (.tmp 5) (.tmp 13) rfl w1.heap.size (wsl l 80) 80 rfl rfl (wsl_length l 80) (List.replicate 80 0) (by with_unfolding_all exact z5) Tryd.info64 (by simp) w.heap.size w (by with_unfolding_all exact b5) (by omega) ?_
       intro w2 g5 o2 s2e b2
       have c0 : HoldsW w2 43 w.heap.size s.list := (o2 _ (by omega)).trans (by with_unfolding_all exact c0)
       have c1 : HoldsW w2 43 (w.heap.size + 1) [0, 0, 0, 0, 0, 0, 0, 0] := (o2 _ (by omega)).trans (by with_unfolding_all exact c1)
       have s2 : w1.heap.size + 1 ≤ w2.heap.size := Nat.le_of_eq (s2e.trans (by with_unfolding_all exact s5)).symm
       clear s2e
       have z7 : HoldsW (w2.alloc (.cells #[.int .u64 0, .int .u64 0, .int .u64 0, .int .u64 0, .int .u64 0, .int .u64 0, .int .u64 0, .int .u64 0] 43)) 43 w2.heap.size [0, 0, 0, 0, 0, 0, 0, 0] := holds_new _ _ _ _ _ rfl rfl
       have b7 := b2.alloc b2.size (.cells #[.int .u64 0, .int .u64 0, .int .u64 0, .int .u64 0, .int .u64 0, .int .u64 0, .int .u64 0, .int .u64 0] 43)
       have c0a := c0.alloc (.cells #[.int .u64 0, .int .u64 0, .int .u64 0, .int .u64 0, .int .u64 0, .int .u64 0, .int .u64 0, .int .u64 0] 43)
       have c1a := c1.alloc (.cells #[.int .u64 0, .int .u64 0, .int .u64 0, .int .u64 0, .int .u64 0, .int .u64 0, .int .u64 0, .int .u64 0] 43)
       have g5a := g5.alloc (.cells #[.int .u64 0, .int .u64 0, .int .u64 0, .int .u64 0, .int .u64 0, .int .u64 0, .int .u64 0, .int .u64 0] 43))
    | (with_reducible refine wpList_load_st rfl 43 (.tmp 2) rfl w.heap.size rfl s c0 Tryd.underlying43 Tryd.info8 ?_)
    | (with_reducible refine wpList_store_st rfl 43 (.tmp 6) (.tmp 14) rfl w2.heap.size s rfl rfl [0, 0, 0, 0, 0, 0, 0, 0] z7 Tryd.info8 rfl w.heap.size w b7 (by omega) ?_
       intro w3 g7 o5 s5' b3
       have c0 := c0a.oth o5 (by omega)
       have c1 := c1a.oth o5 (by omega)
       have g5 := g5a.oth o5 (by omega)))
  clear a0 a1 ab asz hw0
  go_loopw [15] (fun v wr => ∃ k : Nat, k ≤ 80 ∧ v = .int .i64 k ∧ HoldsW wr 43 w2.heap.size (rounds l s k).list ∧ HoldsW wr 81 w1.heap.size (wsl l 80) ∧ HoldsW wr 43 w.heap.size s.list ∧ HoldsW wr 43 (w.heap.size + 1) [0, 0, 0, 0, 0, 0, 0, 0] ∧ Below w.heap.size w wr)
    (fun v _ => 80 - (intOf v).toNat)
  case atStart => exact ⟨0, Nat.zero_le _, rfl, g7, g5, c0, c1, b3⟩
  case round =>
    clear g7 g5 c0 c1 b3 z7 b7 c0a c1a g5a o5 s5' z5 b5 s5 b2 o2 hb1 ab1
    obtain ⟨k, hk, rfl, g7, g5, c0, c1, hb⟩ := hrel
    have Lr := L.keep hb L.size
    have h4 : 4 ≤ w.heap.size := L.size
    by_cases hlt : k < 80
    · have hlt2 : (k : Int) < 80 := by omega
      have hnext : Hid (rounds l s (k + 1) = rnd (rounds l s k) (kk k) (ww l k)) := Lib.hid rfl
      generalize rounds l s k = x at *
      have x0 := g7.cell (j := 0) (by simp [St.list])
      have x1 := g7.cell (j := 1) (by simp [St.list])
      have x2 := g7.cell (j := 2) (by simp [St.list])
      have x3 := g7.cell (j := 3) (by simp [St.list])
      have x4 := g7.cell (j := 4) (by simp [St.list])
      have x5 := g7.cell (j := 5) (by simp [St.list])
      have x6 := g7.cell (j := 6) (by simp [St.list])
      have x7 := g7.cell (j := 7) (by simp [St.list])
      simp only [St.list, List.getD_cons_zero, List.getD_cons_succ] at x0 x1 x2 x3 x4 x5 x6 x7
      have hcw := g5.cell (j := k) (by rw [wsl_length]; exact hlt)
      rw [wsl_at l hlt hlt] at hcw
      have hck : wr.cell? ⟨3, k, none⟩ = some (.int .u64 ((kk k).toNat : Int)) := Lr.2 k hlt
      have QE : Hid (∀ W, Calls Tryd.prog 65 #[.int .u64 (x.e.toNat : Int), .int .i64 14, .int .i64 18, .int .i64 41] W fun e w' => e = .returned (.int .u64 ((tmix x.e 14 18 41).toNat : Int)) ∧ w' = W) := Lib.hid fun W => turnedMix_q x.e 14 18 41 (by omega) (by omega) (by omega) (by omega) (by omega) (by omega) W
      have QA : Hid (∀ W, Calls Tryd.prog 65 #[.int .u64 (x.a.toNat : Int), .int .i64 28, .int .i64 34, .int .i64 39] W fun e w' => e = .returned (.int .u64 ((tmix x.a 28 34 39).toNat : Int)) ∧ w' = W) := Lib.hid fun W => turnedMix_q x.a 28 34 39 (by omega) (by omega) (by omega) (by omega) (by omega) (by omega) W
      go_wp2
      go_quiet ((go_at_call 65; with_reducible refine Calls.quiet_of_same (QE.out _)))
      simp only [u_notc, u_and, u_or, u_addw]
      generalize ht1 : x.h + tmix x.e 14 18 41 + ((x.e &&& x.f) ||| (~~~x.e &&& x.g)) + kk k + ww l k = T1
      have HT1 := Lib.hid ht1
      clear ht1
      go_wp2
      go_quiet ((go_at_call 65; with_reducible exact quiet_behind QA.out))
      simp only [u_and, u_or, u_addw]
      generalize ht2 : tmix x.a 28 34 39 + ((x.a &&& x.b) ||| (x.a &&& x.c) ||| (x.b &&& x.c)) = T2
      have HT2 := Lib.hid ht2
      clear ht2
      go_wp2
      go_still_tail 2, (by kernel_rfl)
      change wpList _ _ _ _ _ (World.drew _)
      refine wpList_copy_splice rfl (.tmp 66) (.tmp 67) _ _ rfl 25 Tryd.underlying93 Tryd.size64u (some ⟨w2.heap.size, 1, none⟩) (some ⟨w2.heap.size, 0, none⟩) 7 7 7 8 rfl rfl w2.heap.size 1 (x.list.map uv) 43 (by exact g7) ((x.list.take 7).map uv) rfl (fun _ => ⟨rfl, _, rfl, fun j v hj => ?_⟩) (by simp [St.list]) (by intro u hu; obtain ⟨y, _, rfl⟩ := List.mem_map.1 hu; rfl) w2.heap.size wr (by exact (below_drewN (below_drewN (Below.refl _ wr) _) _).drew) (Nat.le_refl _) ?_
      · exact taken_cell (W := ((wr.drewN _).drewN _).drew) (by exact g7) 7 j v hj
      intro W4 Hg hb4
      have G4 : HoldsW W4 43 w2.heap.size (moved x) := Hg.out
      have D5 := g5.keep hb4 (by omega)
      have E0 := c0.keep hb4 (by omega)
      have E1 := c1.keep hb4 (by omega)
      have B4 := hb.trans (hb4.mono (by omega))
      have y4 := G4.cell (j := 4) (by simp [moved])
      have y0 := G4.cell (j := 0) (by simp [moved])
      simp only [moved, List.getD_cons_zero, List.getD_cons_succ] at y4 y0
      have f4 := G4.frozen 4
      have f0 := G4.frozen 0
      clear Hg hb4 g7 g5 c0 c1 hb x0 x1 x2 x3 x4 x5 x6 x7 hcw hck
      have HG : Hid (HoldsW ((W4.setCell ⟨w2.heap.size, 4, none⟩ (.int .u64 ((x.d + T1).toNat : Int))).setCell ⟨w2.heap.size, 0, none⟩ (.int .u64 ((T1 + T2).toNat : Int))) 43 w2.heap.size (rounds l s (k + 1)).list) := Lib.hid (by
        have := (G4.set 4 (x.d + T1)).set 0 (T1 + T2)
        rw [hnext.out, ← HT1.out, ← HT2.out]
        rw [← HT1.out, ← HT2.out] at this
        exact this)
      have u1 : IntKind.u64.wrap ((x.d.toNat : Int) + (T1.toNat : Int)) = ((x.d + T1).toNat : Int) := u_addw _ _
      have u2 : IntKind.u64.wrap ((T1.toNat : Int) + (T2.toNat : Int)) = ((T1 + T2).toNat : Int) := u_addw _ _
      have v1 : ((x.d.toNat : Int) + (T1.toNat : Int)) % 18446744073709551616 = ((x.d + T1).toNat : Int) := u_add _ _
      have v2 : ((T1.toNat : Int) + (T2.toNat : Int)) % 18446744073709551616 = ((T1 + T2).toNat : Int) := u_add _ _
      generalize x.d + T1 = Z1 at *
      generalize T1 + T2 = Z2 at *
      go_wp2
      go_roundw
      case rel => exact ⟨k + 1, by omega, by go_num, HG.out, (D5.setOther _ _ (by simp; omega)).setOther _ _ (by simp; omega), (E0.setOther _ _ (by simp; omega)).setOther _ _ (by simp; omega), (E1.setOther _ _ (by simp; omega)).setOther _ _ (by simp; omega), (B4.setCell (by simp; omega) _).setCell (by simp; omega) _⟩
      case measure => simp [intOf]; omega
    · rw [show (k : Int) = 80 by omega]
      obtain rfl : k = 80 := by omega
      have hx : Hid (blk s l = (rounds l s 80).add s) := Lib.hid rfl
      generalize rounds l s 80 = x at *
      clear g5
      go_wp2_with (first
        | (with_reducible refine wpList_load_st rfl 43 (.tmp 6) rfl w2.heap.size rfl x g7 Tryd.underlying43 Tryd.info8 ?_))
      rw [sv_eq x]
      go_wp2
      go_loopw [80] (fun v wq => ∃ k : Nat, k ≤ 8 ∧ v = .int .i64 k ∧ HoldsW wq 43 w.heap.size (sums x s k) ∧ HoldsW wq 43 (w.heap.size + 1) [0, 0, 0, 0, 0, 0, 0, 0] ∧ Below w.heap.size w wq)
        (fun v _ => 8 - (intOf v).toNat)
      case atStart => exact ⟨0, Nat.zero_le _, rfl, c0, c1, hb⟩
      case round =>
        clear g7 c0 c1 hb
        obtain ⟨k, hk, rfl, hS, hR, hb⟩ := hrel
        by_cases hlt : k < 8
        · have hlt2 : (k : Int) < 8 := by omega
          have hix := fun W => run_index_eight x k W hlt
          have hc := hS.cell (j := k) (by rw [sums_length x s k hk]; exact hlt)
          rw [sums_at x s hlt] at hc
          have hf := hS.frozen k
          have hset := Lib.hid (sums_set x s hlt)
          generalize s.list.getD k 0 = p at *
          generalize x.list.getD k 0 = q at *
          have u3 : IntKind.u64.wrap ((p.toNat : Int) + (q.toNat : Int)) = ((p + q).toNat : Int) := u_addw _ _
          have v3 : ((p.toNat : Int) + (q.toNat : Int)) % 18446744073709551616 = ((p + q).toNat : Int) := u_add _ _
          generalize p + q = pq at *
          go_wp2
          go_roundw
          case rel => exact ⟨k + 1, by omega, by go_num, by rw [← hset.out]; exact hS.set k pq, hR.setOther _ _ (by simp), hb.setCell (Nat.le_refl _) _⟩
          case measure => simp [intOf]; omega
        · rw [show (k : Int) = 8 by omega]
          obtain rfl : k = 8 := by omega
          have hS8 : HoldsW wr 43 w.heap.size (x.add s).list := hS
          clear hS
          go_wp2_with (first
            | (with_reducible refine wpList_load_st rfl 43 (.tmp 2) rfl w.heap.size rfl (x.add s) hS8 Tryd.underlying43 Tryd.info8 ?_)
            | (with_reducible refine wpList_store_st rfl 43 (.tmp 4) (.tmp 91) rfl (w.heap.size + 1) (x.add s) rfl rfl _ hR Tryd.info8 rfl w.heap.size w hb (by omega) ?_; intro w9 Hg _ _ hb9))
          rw [hx.out]
          exact bodyPost_ret (results_cell_row rfl _ _ _ _ _ _ _ rfl Hg Tryd.underlying43 rfl (by rw [Tryd.info8, (st_cells _).1])) rfl ⟨rfl, hb9⟩
end Go.Proofs.YtppaffamlfghjaaDoor
