/-
  A block goes in: the document's way.
-/
import Derived.Test.YtppaffamlfghjaaDoorWideWords
namespace Go.Proofs.YtppaffamlfghjaaDoor
open Go.RowKit

def kzs : List Int := kks.map fun x => (x.toNat : Int)
theorem kzs_eq : Value.agg (kzs.map (Value.int .u64)).toArray = .agg (kks.map uv).toArray := by unfold kzs; rw [List.map_map]; rfl
theorem Tryd.size22 : (Tryd.prog.info? 25).map (·.size) = some 1 := by kernel_rfl
theorem Tryd.zero53 : ((Tryd.prog.info? 81).bind (·.zero)).map (·.cells.size) = some kzs.length := by kernel_rfl

set_option maxRecDepth 100000 in
set_option maxHeartbeats 1000000 in
theorem constants_any (w : World) :
    Calls Tryd.prog 56 #[] w fun e w' => e = .returned (.agg (kks.map uv).toArray) ∧ Below w.heap.size w w' := by
  have e1 : ∀ o, (w.alloc o).heap.size = w.heap.size + 1 := fun o => World.size_alloc ..
  have z0 := holds_zero w 81 80
  have bz : Below w.heap.size w (w.alloc (.cells (zcells 80) 81)) := (Below.refl _ w).alloc (Nat.le_refl _) _
  go_enter Tryd.func56, Tryd.ntmps56
  go_wp2_with (first
    | (with_reducible refine wpList_buildFlatArrTo rfl 81 25 80 _ rfl .u64 kzs (some 1) rfl Tryd.underlying81 Tryd.size22 Tryd.zero53 (by kernel_rfl) ?_)
    | (with_reducible refine wpList_store_w rfl 81 (.tmp 0) (.tmp 1) rfl w.heap.size kks 80 rfl (by with_unfolding_all exact kzs_eq) rfl (List.replicate 80 0) (by with_unfolding_all exact z0) Tryd.info64 (by simp) w.heap.size w (by with_unfolding_all exact bz) (Nat.le_refl _) ?_; intro w2 Hg _ _ hb2))
  exact bodyPost_ret (results_cell_row rfl _ _ _ _ _ _ _ rfl Hg Tryd.underlying81 rfl (by rw [Tryd.info64]; rfl)) rfl ⟨rfl, hb2⟩

theorem turned_q (x : UInt64) (k : Nat) (h1 : 1 ≤ k) (h2 : k < 64) (W : World) :
    Calls Tryd.prog 57 #[.int .u64 (x.toNat : Int), .int .u64 (k : Int)] W fun e w' => e = .returned (.int .u64 ((rotr x k).toNat : Int)) ∧ w' = W :=
  (turned_any x k W h1 h2).mono fun _ _ ⟨h, h'⟩ => ⟨h, h'.symm⟩

/-- Eight sums, k of them done; the other way round. -/
def sums2 (x s : St) (k : Nat) : List UInt64 := (x.add s).list.take k ++ x.list.drop k
theorem sums2_length (x s : St) (k : Nat) (hk : k ≤ 8) : (sums2 x s k).length = 8 := by simp [sums2, St.list]; omega
theorem sums2_at (x s : St) {k : Nat} (hk : k < 8) : (sums2 x s k).getD k 0 = x.list.getD k 0 := by
  match k, hk with
  | 0, _ => rfl
  | 1, _ => rfl
  | 2, _ => rfl
  | 3, _ => rfl
  | 4, _ => rfl
  | 5, _ => rfl
  | 6, _ => rfl
  | 7, _ => rfl
theorem sums2_set' (x s : St) {k : Nat} (hk : k < 8) : (sums2 x s k).set k (s.list.getD k 0 + x.list.getD k 0) = sums2 x s (k + 1) := by
  match k, hk with
  | 0, _ => rfl
  | 1, _ => rfl
  | 2, _ => rfl
  | 3, _ => rfl
  | 4, _ => rfl
  | 5, _ => rfl
  | 6, _ => rfl
  | 7, _ => rfl
theorem sums2_set (x s : St) {k : Nat} (hk : k < 8) : (sums2 x s k).set k (x.list.getD k 0 + s.list.getD k 0) = sums2 x s (k + 1) := by
  rw [UInt64.add_comm]; exact sums2_set' x s hk

theorem two_new (w : World) (t1 t2 : TypeId) (c1 c2 : Array Value) (l1 l2 : List UInt64) (h1 : c1 = (l1.map uv).toArray) (h2 : c2 = (l2.map uv).toArray) :
    HoldsW ((w.alloc (.cells c1 t1)).alloc (.cells c2 t2)) t1 w.heap.size l1 ∧ HoldsW ((w.alloc (.cells c1 t1)).alloc (.cells c2 t2)) t2 (w.heap.size + 1) l2 ∧
    Below w.heap.size w ((w.alloc (.cells c1 t1)).alloc (.cells c2 t2)) ∧ ((w.alloc (.cells c1 t1)).alloc (.cells c2 t2)).heap.size = w.heap.size + 2 := by
  have e1 : (w.alloc (.cells c1 t1)).heap.size = w.heap.size + 1 := World.size_alloc ..
  have a1 : HoldsW (w.alloc (.cells c1 t1)) t1 w.heap.size l1 := holds_new w t1 _ c1 l1 rfl h1
  have a2 : HoldsW ((w.alloc (.cells c1 t1)).alloc (.cells c2 t2)) t2 (w.heap.size + 1) l2 := holds_new _ t2 _ c2 l2 e1.symm h2
  exact ⟨a1.alloc _, a2, ((Below.refl _ w).alloc (Nat.le_refl _) _).alloc (by rw [e1]; omega) _, by rw [World.size_alloc, e1]⟩

theorem HoldsW.oth {w w' : World} {ty g g' : Nat} {l : List UInt64} (h : HoldsW w ty g l) (ho : ∀ k, k ≠ g' → w'.heap[k]? = w.heap[k]?) (hn : g ≠ g') : HoldsW w' ty g l := (ho g hn).trans h

set_option maxRecDepth 100000 in
set_option maxHeartbeats 1000000 in
theorem block_any (A : Option Addr) (n c B : Nat) (l : List UInt8) (s : St) (w : World) (h : Sees w B A n c (l.map bv)) (hB : B ≤ w.heap.size) (hn : 128 ≤ n) (hm : n ≤ 2147483647) :
    Calls Tryd.prog 43 #[sv s, .slice A n c] w fun e w' => e = .returned (sv (blk s l)) ∧ Below w.heap.size w w' := by
  obtain ⟨a0, a1, ab, asz⟩ := two_new w 43 43 #[.int .u64 (s.a.toNat : Int), .int .u64 (s.b.toNat : Int), .int .u64 (s.c.toNat : Int), .int .u64 (s.d.toNat : Int), .int .u64 (s.e.toNat : Int), .int .u64 (s.f.toNat : Int), .int .u64 (s.g.toNat : Int), .int .u64 (s.h.toNat : Int)]
    #[.int .u64 0, .int .u64 0, .int .u64 0, .int .u64 0, .int .u64 0, .int .u64 0, .int .u64 0, .int .u64 0] s.list [0, 0, 0, 0, 0, 0, 0, 0] rfl rfl
  have hw0 := h.upTo ab hB
  rw [sv_eq]
  go_enter Tryd.func43, Tryd.ntmps43
  go_wp2_with (first
    | (go_at_call 55
       refine (words_any _ _ _ B l _ hw0 (by rw [asz]; omega) hn hm).mono ?_
       rintro e w1 ⟨rfl, hb1⟩
       have a0 := a0.keep hb1 (by rw [asz]; omega)
       have a1 := a1.keep hb1 (by rw [asz]; omega)
       have ab1 := ab.trans (hb1.mono (by rw [asz]; omega))
       have sz1 := hb1.size
       rw [asz] at sz1
       have z5 := holds_zero w1 81 80
       have b5 := ab1.alloc ab1.size (.cells (zcells 80) 81)
       have c0 := a0.alloc (.cells (zcells 80) 81)
       have c1 := a1.alloc (.cells (zcells 80) 81)
       have s5 : (w1.alloc (.cells (zcells 80) 81)).heap.size = w1.heap.size + 1 := World.size_alloc ..)
    | (with_reducible refine wpList_store_w rfl 81 (.tmp 5) (.tmp 17) rfl w1.heap.size (wsl l 80) 80 rfl rfl (wsl_length l 80) (List.replicate 80 0) (by with_unfolding_all exact z5) Tryd.info64 (by simp) w.heap.size w (by with_unfolding_all exact b5) (by omega) ?_
       intro w2 g5 o2 s2e b2
       have c0 : HoldsW w2 43 w.heap.size s.list := (o2 _ (by omega)).trans (by with_unfolding_all exact c0)
       have c1 : HoldsW w2 43 (w.heap.size + 1) [0, 0, 0, 0, 0, 0, 0, 0] := (o2 _ (by omega)).trans (by with_unfolding_all exact c1)
       have s2 : w1.heap.size + 1 ≤ w2.heap.size := Nat.le_of_eq (s2e.trans (by with_unfolding_all exact s5)).symm
       clear s2e)
    | (go_at_call 56
       refine (constants_any _).mono ?_
       rintro e w3 ⟨rfl, hb3⟩
       have c0 := c0.keep hb3 (by omega)
       have c1 := c1.keep hb3 (by omega)
       have g5 := g5.keep hb3 (by omega)
       have b3 := b2.trans (hb3.mono (by omega))
       have s3 := hb3.size
       have z6 := holds_zero w3 81 80
       have b6 := b3.alloc b3.size (.cells (zcells 80) 81)
       have c0 := c0.alloc (.cells (zcells 80) 81)
       have c1 := c1.alloc (.cells (zcells 80) 81)
       have g5 := g5.alloc (.cells (zcells 80) 81)
       have s6 : (w3.alloc (.cells (zcells 80) 81)).heap.size = w3.heap.size + 1 := World.size_alloc ..)
    | (with_reducible refine wpList_store_w rfl 81 (.tmp 6) (.tmp 18) rfl w3.heap.size kks 80 rfl rfl rfl (List.replicate 80 0) (by with_unfolding_all exact z6) Tryd.info64 (by simp) w.heap.size w (by with_unfolding_all exact b6) (by omega) ?_
       intro w4 g6 o4 s4e b4
       have c0 : HoldsW w4 43 w.heap.size s.list := (o4 _ (by omega)).trans (by with_unfolding_all exact c0)
       have c1 : HoldsW w4 43 (w.heap.size + 1) [0, 0, 0, 0, 0, 0, 0, 0] := (o4 _ (by omega)).trans (by with_unfolding_all exact c1)
       have g5 : HoldsW w4 81 w1.heap.size (wsl l 80) := (o4 _ (by omega)).trans (by with_unfolding_all exact g5)
       have s4 : w3.heap.size + 1 ≤ w4.heap.size := Nat.le_of_eq (s4e.trans (by with_unfolding_all exact s6)).symm
       clear s4e
       have z7 : HoldsW (w4.alloc (.cells #[.int .u64 0, .int .u64 0, .int .u64 0, .int .u64 0, .int .u64 0, .int .u64 0, .int .u64 0, .int .u64 0] 43)) 43 w4.heap.size [0, 0, 0, 0, 0, 0, 0, 0] := holds_new _ _ _ _ _ rfl rfl
       have b7 := b4.alloc b4.size (.cells #[.int .u64 0, .int .u64 0, .int .u64 0, .int .u64 0, .int .u64 0, .int .u64 0, .int .u64 0, .int .u64 0] 43)
       have c0a := c0.alloc (.cells #[.int .u64 0, .int .u64 0, .int .u64 0, .int .u64 0, .int .u64 0, .int .u64 0, .int .u64 0, .int .u64 0] 43)
       have c1a := c1.alloc (.cells #[.int .u64 0, .int .u64 0, .int .u64 0, .int .u64 0, .int .u64 0, .int .u64 0, .int .u64 0, .int .u64 0] 43)
       have g5a := g5.alloc (.cells #[.int .u64 0, .int .u64 0, .int .u64 0, .int .u64 0, .int .u64 0, .int .u64 0, .int .u64 0, .int .u64 0] 43)
       have g6a := g6.alloc (.cells #[.int .u64 0, .int .u64 0, .int .u64 0, .int .u64 0, .int .u64 0, .int .u64 0, .int .u64 0, .int .u64 0] 43)
       have s7 : (w4.alloc (.cells #[.int .u64 0, .int .u64 0, .int .u64 0, .int .u64 0, .int .u64 0, .int .u64 0, .int .u64 0, .int .u64 0] 43)).heap.size = w4.heap.size + 1 := World.size_alloc ..)
    | (with_reducible refine wpList_load_st rfl 43 (.tmp 2) rfl w.heap.size rfl s c0 Tryd.underlying43 Tryd.info8 ?_)
    | (with_reducible refine wpList_store_st rfl 43 (.tmp 7) (.tmp 19) rfl w4.heap.size s rfl rfl [0, 0, 0, 0, 0, 0, 0, 0] z7 Tryd.info8 rfl w.heap.size w b7 (by omega) ?_
       intro w5 g7 o5 s5' b5'
       have c0 := c0a.oth o5 (by omega)
       have c1 := c1a.oth o5 (by omega)
       have g5 := g5a.oth o5 (by omega)
       have g6 := g6a.oth o5 (by omega)))
  clear a0 a1 ab asz hw0
  go_loopw [8] (fun v wr => ∃ k : Nat, k ≤ 80 ∧ v = .int .i64 k ∧ HoldsW wr 43 w4.heap.size (rounds l s k).list ∧ HoldsW wr 81 w1.heap.size (wsl l 80) ∧ HoldsW wr 81 w3.heap.size kks ∧ HoldsW wr 43 w.heap.size s.list ∧ HoldsW wr 43 (w.heap.size + 1) [0, 0, 0, 0, 0, 0, 0, 0] ∧ Below w.heap.size w wr)
    (fun v _ => 80 - (intOf v).toNat)
  case atStart => exact ⟨0, Nat.zero_le _, rfl, g7, g5, g6, c0, c1, b5'⟩
  case round =>
    clear g7 g5 g6 c0 c1 b5' z7 b7 c0a c1a g5a g6a o5 s5' z5 b5 s5 z6 b6 s6 b2 o2 b3 b4 o4 hb1 hb3 ab1
    obtain ⟨k, hk, rfl, g7, g5, g6, c0, c1, hb⟩ := hrel
    by_cases hlt : k < 80
    · have hlt2 : (k : Int) < 80 := by omega
      have hnext : Hid (rounds l s (k + 1) = rnd (rounds l s k) (kk k) (ww l k)) := Lib.hid rfl
      generalize rounds l s k = x at *
      have x0 := g7.cell (j := 0) (by simp [St.list])
      have x1 := g7.cell (j := 1) (by simp [St.list])
      have x2 := g7.cell (j := 2) (by simp [St.list])
      have x3 := g7.cell (j := 3) (by simp [St.list])
      have x4 := g7.cell (j := 4) (by simp [St.list])
      have x5 := g7.cell (j := 5) (by simp [St.list])
      have x6 := g7.cell (j := 6) (by simp [St.list])
      have x7 := g7.cell (j := 7) (by simp [St.list])
      simp only [St.list, List.getD_cons_zero, List.getD_cons_succ] at x0 x1 x2 x3 x4 x5 x6 x7
      have hcw := g5.cell (j := k) (by rw [wsl_length]; exact hlt)
      rw [wsl_at l hlt hlt] at hcw
      have hck : wr.cell? ⟨w3.heap.size, k, none⟩ = some (.int .u64 ((kk k).toNat : Int)) := g6.cell (j := k) hlt
      have Q6 : Hid (∀ W, Calls Tryd.prog 57 #[.int .u64 (x.e.toNat : Int), .int .u64 14] W fun e w' => e = .returned (.int .u64 ((rotr x.e 14).toNat : Int)) ∧ w' = W) := Lib.hid fun W => turned_q x.e 14 (by omega) (by omega) W
      have Q11 : Hid (∀ W, Calls Tryd.prog 57 #[.int .u64 (x.e.toNat : Int), .int .u64 18] W fun e w' => e = .returned (.int .u64 ((rotr x.e 18).toNat : Int)) ∧ w' = W) := Lib.hid fun W => turned_q x.e 18 (by omega) (by omega) W
      have Q25 : Hid (∀ W, Calls Tryd.prog 57 #[.int .u64 (x.e.toNat : Int), .int .u64 41] W fun e w' => e = .returned (.int .u64 ((rotr x.e 41).toNat : Int)) ∧ w' = W) := Lib.hid fun W => turned_q x.e 41 (by omega) (by omega) W
      go_wp2
      go_quiet ((go_at_call 57; (first | with_reducible refine Calls.quiet_of_same (Q6.out _) | with_reducible refine Calls.quiet_of_same (Q11.out _) | with_reducible refine Calls.quiet_of_same (Q25.out _))))
      simp only [u_xor, u_not, u_and, u_or, u_addw]
      generalize ht1 : x.h + (rotr x.e 14 ^^^ rotr x.e 18 ^^^ rotr x.e 41) + ((x.e &&& x.f) ||| (~~~x.e &&& x.g)) + kk k + ww l k = T1
      generalize hgr : ((x.a &&& x.b) ||| (x.a &&& x.c) ||| (x.b &&& x.c)) = G
      have Esum2 : Value.agg #[.int .u64 (IntKind.u64.wrap ((T1.toNat : Int) + IntKind.u64.wrap (bits .xor .u64 (bits .xor .u64 ((rotr x.a 28).toNat : Int) ((rotr x.a 34).toNat : Int)) ((rotr x.a 39).toNat : Int) + (G.toNat : Int)))), .int .u64 (x.a.toNat : Int), .int .u64 (x.b.toNat : Int), .int .u64 (x.c.toNat : Int), .int .u64 (IntKind.u64.wrap ((x.d.toNat : Int) + (T1.toNat : Int))), .int .u64 (x.e.toNat : Int), .int .u64 (x.f.toNat : Int), .int .u64 (x.g.toNat : Int)] = sv (rounds l s (k + 1)) := by
        rw [hnext.out, u_xor, u_xor, u_addw, u_addw, u_addw]
        subst ht1 hgr
        rfl
      have M2 : Hid (∀ W, Calls Tryd.prog 57 #[.int .u64 (x.a.toNat : Int), .int .u64 28] W (GaveU W (rotr x.a 28))) := Lib.hid fun W => turned_any x.a 28 W (by omega) (by omega)
      have M13 : Hid (∀ W, Calls Tryd.prog 57 #[.int .u64 (x.a.toNat : Int), .int .u64 34] W (GaveU W (rotr x.a 34))) := Lib.hid fun W => turned_any x.a 34 W (by omega) (by omega)
      have M22 : Hid (∀ W, Calls Tryd.prog 57 #[.int .u64 (x.a.toNat : Int), .int .u64 39] W (GaveU W (rotr x.a 39))) := Lib.hid fun W => turned_any x.a 39 W (by omega) (by omega)
      have g7d : ∀ m, HoldsW (wr.drewN m) 43 w4.heap.size x.list := fun m => g7
      have hbd : ∀ m, Below w.heap.size w (wr.drewN m) := fun m => below_drewN hb m
      go_wp2_with (first
        | (go_at_call 57; (first | with_reducible refine (M2.out _).mono ?_ | with_reducible refine (M13.out _).mono ?_ | with_reducible refine (M22.out _).mono ?_); rintro e w' ⟨rfl, rfl⟩)
        | (with_reducible refine wpList_store_st rfl 43 (.tmp 7) (.tmp 103) rfl w4.heap.size (rounds l s (k + 1)) rfl rfl _ (g7d _) Tryd.info8 rfl w.heap.size w (hbd _) (by omega) ?_
           intro w6 h6 o6 s6 b6))
      go_roundw
      case rel => exact ⟨k + 1, by omega, by go_num, h6, HoldsW.oth (w := wr.drewN _) g5 o6 (by omega), HoldsW.oth (w := wr.drewN _) g6 o6 (by omega), HoldsW.oth (w := wr.drewN _) c0 o6 (by omega), HoldsW.oth (w := wr.drewN _) c1 o6 (by omega), b6⟩
      case measure => simp [intOf]; omega
    · rw [show (k : Int) = 80 by omega]
      obtain rfl : k = 80 := by omega
      have hx : Hid (blk s l = (rounds l s 80).add s) := Lib.hid rfl
      generalize rounds l s 80 = x at *
      clear g5 g6
      go_wp2
      go_loopw [15] (fun v wr => ∃ k : Nat, k ≤ 8 ∧ v = .int .i64 k ∧ HoldsW wr 43 w4.heap.size (sums2 x s k) ∧ HoldsW wr 43 w.heap.size s.list ∧ HoldsW wr 43 (w.heap.size + 1) [0, 0, 0, 0, 0, 0, 0, 0] ∧ Below w.heap.size w wr)
        (fun v _ => 8 - (intOf v).toNat)
      case atStart => exact ⟨0, Nat.zero_le _, rfl, g7, c0, c1, hb⟩
      case round =>
        clear g7 c0 c1 hb
        obtain ⟨k, hk, rfl, g7, c0, c1, hb⟩ := hrel
        by_cases hlt : k < 8
        · have hlt2 : (k : Int) < 8 := by omega
          have hcx := g7.cell (j := k) (by rw [sums2_length x s k hk]; exact hlt)
          rw [sums2_at x s hlt] at hcx
          have hcs := c0.cell (j := k) (by simpa [St.list] using hlt)
          have hf := g7.frozen k
          have hset := Lib.hid (sums2_set x s hlt)
          generalize s.list.getD k 0 = p at *
          generalize x.list.getD k 0 = q at *
          go_wp2
          go_region
          simp only [u_addw]
          go_wp2
          go_roundw
          case rel => exact ⟨k + 1, by omega, by go_num, by rw [← hset.out]; exact g7.set k (q + p), c0.setOther _ _ (by simp; omega), c1.setOther _ _ (by simp; omega), (hb.setCell (by simp; omega) _).drew⟩
          case measure => simp [intOf]; omega
        · rw [show (k : Int) = 8 by omega]
          obtain rfl : k = 8 := by omega
          have hS8 : HoldsW wr 43 w4.heap.size (x.add s).list := g7
          clear g7 c0
          go_wp2_with (first
            | (with_reducible refine wpList_load_st rfl 43 (.tmp 7) rfl w4.heap.size rfl (x.add s) hS8 Tryd.underlying43 Tryd.info8 ?_)
            | (with_reducible refine wpList_store_st rfl 43 (.tmp 4) (.tmp 117) rfl (w.heap.size + 1) (x.add s) rfl rfl _ c1 Tryd.info8 rfl w.heap.size w hb (by omega) ?_; intro w7 Hg _ _ hb7))
          rw [hx.out]
          exact bodyPost_ret (results_cell_row rfl _ _ _ _ _ _ _ rfl Hg Tryd.underlying43 rfl (by rw [Tryd.info8, (st_cells _).1])) rfl ⟨rfl, hb7⟩
end Go.Proofs.YtppaffamlfghjaaDoor
