/-
  End: the document's.
-/
import Derived.Test.YtppaffamlfghjaaDoorWideRefMore2
import Derived.Test.YtppaffamlfghjaaDoorWideEnd
namespace Go.Proofs.YtppaffamlfghjaaDoor
open Go.RowKit

/-- The bytes below k; the others are 0. -/
def outL (s : St) (k : Nat) : List UInt8 := (List.range 64).map fun j => if j < k then outAt s j else 0
theorem outL_length (s : St) (k : Nat) : (outL s k).length = 64 := by simp [outL]
theorem outL_full (s : St) : outL s 64 = out64 s := by
  unfold outL out64
  refine List.map_congr_left fun j hj => ?_
  rw [if_pos (by simpa using hj)]
theorem outL_set (s : St) (k : Nat) : (outL s k).set k (outAt s k) = outL s (k + 1) := by
  refine List.ext_getElem (by simp [outL]) fun j h1 h2 => ?_
  rw [List.getElem_set]
  simp only [outL, List.getElem_map, List.getElem_range]
  split
  · next e => subst e; rw [if_pos (by omega)]
  · next e => by_cases h : j < k
              · rw [if_pos h, if_pos (by omega)]
              · rw [if_neg h, if_neg (by omega)]

theorem out_byte (x : UInt64) (r : Nat) : (x.toNat : Int) / 2 ^ (56 - 8 * r) % 256 = ((UInt8.ofNat (x.toNat / 2 ^ (56 - 8 * r))).toNat : Int) := by
  rw [UInt8.toNat_ofNat', two_pow_cast, ← Int.natCast_ediv]
  exact (Int.natCast_emod _ 256).symm

theorem holdsB_zero (w : World) (g : Nat) (hg : g = w.heap.size) : HoldsB (w.alloc (.cells ((List.replicate 64 (0 : UInt8)).map bv).toArray 48)) 48 g (List.replicate 64 0) := holdsB_new w _ g _ _ hg rfl

theorem byte_at (q j : Nat) : Value.int .u8 ((q : Int) / 2 ^ (8 * (7 - j)) % 256) = bv (UInt8.ofNat (q / 256 ^ (8 - 1 - j))) := by
  unfold bv
  rw [UInt8.toNat_ofNat', two_pow_cast, ← Int.natCast_ediv, show (256 : Nat) = 2 ^ 8 by rfl, ← Nat.pow_mul]
  congr 1

theorem hcells_at (s : St) (A : Option Addr) (n c m : Nat) {j : Nat} (hj : j < 8) : (hcells s A n c m)[j]? = some (.int .u64 ((s.list.getD j 0).toNat : Int)) := by
  match j, hj with
  | 0, _ => rfl
  | 1, _ => rfl
  | 2, _ => rfl
  | 3, _ => rfl
  | 4, _ => rfl
  | 5, _ => rfl
  | 6, _ => rfl
  | 7, _ => rfl

theorem hx_start (w : World) : HoldsH (w.alloc (.cells #[.int .u64 0, .int .u64 0, .int .u64 0, .int .u64 0, .int .u64 0, .int .u64 0, .int .u64 0, .int .u64 0, .slice none 0 0, .int .u64 0] 45)) w.heap.size sz none 0 0 0 := holdsH_new w _ _ _ _ _ _ _ rfl rfl

/-- The three blocks that the call begins with. -/
theorem re_start (w : World) (s : St) (A : Option Addr) (n c m : Nat) (c1 c2 c3 : Array Value) (h1 : c1 = hcells s A n c m) (h2 : c2 = ((List.replicate 64 (0 : UInt8)).map bv).toArray) (h3 : c3 = ((List.replicate 64 (0 : UInt8)).map bv).toArray) :
    HoldsH (((w.alloc (.cells c1 45)).alloc (.cells c2 48)).alloc (.cells c3 48)) w.heap.size s A n c m ∧ HoldsB (((w.alloc (.cells c1 45)).alloc (.cells c2 48)).alloc (.cells c3 48)) 48 (w.heap.size + 1) (List.replicate 64 0) ∧
    HoldsB (((w.alloc (.cells c1 45)).alloc (.cells c2 48)).alloc (.cells c3 48)) 48 (w.heap.size + 1 + 1) (List.replicate 64 0) ∧
    Below w.heap.size w (((w.alloc (.cells c1 45)).alloc (.cells c2 48)).alloc (.cells c3 48)) := by
  obtain ⟨a1, a2, ab, hs⟩ := e_start w s A n c m c1 c2 h1 h2
  exact ⟨a1.alloc _, a2.alloc _, holdsB_new _ _ _ c3 _ hs.symm h3, ab.alloc (by rw [hs]; omega) _⟩

set_option maxRecDepth 100000 in
set_option maxHeartbeats 4000000 in
theorem REnd_bad (A : Option Addr) (n c m : Nat) (s : St) (w : World) (hn : n ≤ 1000000) (hmay : (decide (n < 128) && ((n : Int) == (m : Int) % 128)) = false) :
    Calls Tryd.prog 25 #[hv s A n c m] w (GaveE w (List.replicate 64 0) 1) := by
  have HM : Hid (∀ W, Calls Tryd.prog 42 #[hv s A n c m] W fun e w' => e = .returned (.bool false) ∧ Below W.heap.size W w') := Lib.hid fun W => by
    have := May_any s A n c m W (by omega)
    rwa [hmay] at this
  clear hmay
  obtain ⟨H0, H1, H2, HB⟩ := re_start w s A n c m #[.int .u64 (s.a.toNat : Int), .int .u64 (s.b.toNat : Int), .int .u64 (s.c.toNat : Int), .int .u64 (s.d.toNat : Int), .int .u64 (s.e.toNat : Int), .int .u64 (s.f.toNat : Int), .int .u64 (s.g.toNat : Int), .int .u64 (s.h.toNat : Int), .slice A n c, .int .u64 (m : Int)] _ _ rfl rfl rfl
  rw [hv_cells]
  unfold hcells
  go_enter Tryd.func25, Tryd.ntmps25
  go_wp2_with (first
    | (with_reducible refine wpList_buildTo rfl 48 #[] rfl (some 12) rfl (((List.replicate 64 (0 : UInt8)).map bv).toArray) (by with_unfolding_all exact builtB32) ?_)
    | (with_reducible refine wpList_store_b rfl 48 (.tmp 4) (.tmp 12) rfl (w.heap.size + 1 + 1) (List.replicate 64 0) (by simp) rfl rfl (List.replicate 64 0) (by with_unfolding_all exact H2) Tryd.infoB32 (by simp) w.heap.size w (by with_unfolding_all exact HB) (by omega) ?_
       intro w2 G2 o2 s2 GB
       have G0 : HoldsH w2 w.heap.size s A n c m := (o2 _ (by omega)).trans (by with_unfolding_all exact H0)
       have G1 : HoldsB w2 48 (w.heap.size + 1) (List.replicate 64 0) := (o2 _ (by omega)).trans (by with_unfolding_all exact H1)
       clear o2 s2)
    | (with_reducible refine wpList_load_h rfl (.tmp 1) rfl w.heap.size rfl s A n c m G0 Tryd.underlying45 Tryd.infoH ?_)
    | (go_at_call 42
       refine (HM.out _).mono ?_
       rintro e w3 ⟨rfl, hb3⟩
       have G1 := G1.keep hb3 G1.lt
       have G2 := G2.keep hb3 G2.lt
       have GB := GB.trans (hb3.mono GB.size))
    | (with_reducible refine wpList_load_b rfl 48 (.tmp 4) rfl (w.heap.size + 1 + 1) rfl (List.replicate 64 0) (by simp) G2 Tryd.underlying48 Tryd.infoB32 ?_)
    | (with_reducible refine wpList_store_b rfl 48 (.tmp 2) (.tmp 17) rfl (w.heap.size + 1) (List.replicate 64 0) (by simp) rfl rfl _ G1 Tryd.infoB32 (by simp) w.heap.size w GB (by omega) ?_; intro w4 Hg _ _ hb4))
  exact bodyPost_ret (results_cell_tmp rfl _ _ (w.heap.size + 1) _ _ _ _ rfl Hg Tryd.underlying48 rfl (by rw [Tryd.infoB32, (b_cells _ (by simp)).1])) rfl ⟨rfl, hb4⟩

set_option maxRecDepth 100000 in
set_option maxHeartbeats 4000000 in
theorem REnd_ok (A : Option Addr) (n c m B : Nat) (r : List UInt8) (s : St) (w : World) (h : Sees w B A n c (r.map bv)) (hB : B ≤ w.heap.size) (hn : n < 128) (hmay : (decide (n < 128) && ((n : Int) == (m : Int) % 128)) = true) :
    Calls Tryd.prog 25 #[hv s A n c m] w (GaveE w (endOf s r m) 0) := by
  obtain ⟨i0, hi0, hz0, hz1, hz2⟩ := info_parts Tryd.infoU8
  have Hz2 := Lib.hid hz2
  clear hz2
  have hlr : r.length = n := by have := h.len; simpa using this
  have HM : Hid (∀ W, Calls Tryd.prog 42 #[hv s A n c m] W fun e w' => e = .returned (.bool true) ∧ Below W.heap.size W w') := Lib.hid fun W => by
    have := May_any s A n c m W (by omega)
    rwa [hmay] at this
  have Hmay := Lib.hid hmay
  clear hmay
  have hw8 : IntKind.u64.wrap ((m : Int) * 8) = ((m * 8 % 18446744073709551616 : Nat) : Int) := by rw [IntKind.wrap_u64]; omega
  have hw61 : (m : Int) / 2305843009213693952 = ((m * 8 / 18446744073709551616 : Nat) : Int) := by omega
  obtain ⟨M, hM⟩ : ∃ M, M = 128 - (n + 16) % 128 := ⟨_, rfl⟩
  have hTail : Hid (endOf s r m = out64 (absorb s (r ++ ((((128 : UInt8) :: List.replicate (M - 1) 0) ++ beBytes 8 (m * 8 / 18446744073709551616)) ++ beBytes 8 (m * 8 % 18446744073709551616))))) := Lib.hid (by unfold endOf tailOf; rw [hlr, hM]; simp only [List.append_assoc, List.cons_append])
  have hq64 : m * 8 % 18446744073709551616 < 18446744073709551616 := Nat.mod_lt _ (by omega)
  generalize m * 8 % 18446744073709551616 = q at *
  generalize m * 8 / 18446744073709551616 = p at *
  have HMn := Lib.hid hM
  have hM2 : M ≤ 128 := by omega
  have hM1 : 1 ≤ M := by omega
  clear hM
  obtain ⟨H0, H1, H2, HB⟩ := re_start w s A n c m #[.int .u64 (s.a.toNat : Int), .int .u64 (s.b.toNat : Int), .int .u64 (s.c.toNat : Int), .int .u64 (s.d.toNat : Int), .int .u64 (s.e.toNat : Int), .int .u64 (s.f.toNat : Int), .int .u64 (s.g.toNat : Int), .int .u64 (s.h.toNat : Int), .slice A n c, .int .u64 (m : Int)] _ _ rfl rfl rfl
  rw [hv_cells]
  unfold hcells
  go_enter Tryd.func25, Tryd.ntmps25
  go_wp2_with (first
    | (with_reducible refine wpList_buildTo rfl 48 #[] rfl (some 12) rfl (((List.replicate 64 (0 : UInt8)).map bv).toArray) (by with_unfolding_all exact builtB32) ?_)
    | (with_reducible refine wpList_store_b rfl 48 (.tmp 4) (.tmp 12) rfl (w.heap.size + 1 + 1) (List.replicate 64 0) (by simp) rfl rfl (List.replicate 64 0) (by with_unfolding_all exact H2) Tryd.infoB32 (by simp) w.heap.size w (by with_unfolding_all exact HB) (by omega) ?_
       intro w2 G2 o2 s2 GB
       have G0 : HoldsH w2 w.heap.size s A n c m := (o2 _ (by omega)).trans (by with_unfolding_all exact H0)
       have G1 : HoldsB w2 48 (w.heap.size + 1) (List.replicate 64 0) := (o2 _ (by omega)).trans (by with_unfolding_all exact H1)
       clear o2 s2)
    | (with_reducible refine wpList_load_h rfl (.tmp 1) rfl w.heap.size rfl s A n c m G0 Tryd.underlying45 Tryd.infoH ?_)
    | (go_at_call 42
       refine (HM.out _).mono ?_
       rintro e w3 ⟨rfl, hb3⟩
       have G0 := G0.keep hb3 G0.lt
       have G1 := G1.keep hb3 G1.lt
       have G2 := G2.keep hb3 G2.lt
       have GB := GB.trans (hb3.mono GB.size)))
  clear H0 H1 H2 HB
  have hz3 := G2.lt
  have hsz1 : (w3.alloc (.cells #[.int .u8 128] 5)).heap.size = w3.heap.size + 1 := World.size_alloc ..
  have own0 : (w3.alloc (.cells #[.int .u8 128] 5)).ownsRow w3.heap.size 5 1 (.slice (some ⟨w3.heap.size, 0, none⟩) 1 1) 1 ((((128 : UInt8) :: List.replicate 0 0)).map bv) := World.ownsRow_lit w3 #[.int .u8 128] 1 (Nat.le_refl _) (by simp [maxLen]) rfl
  go_loopw [6] (fun v wr => ∃ (k : Nat) (A' : Option Addr) (c' : Nat), k + 1 ≤ M ∧ v = .slice A' (k + 1) c' ∧ wr.ownsRow w3.heap.size 5 1 (.slice A' (k + 1) c') (k + 1) (((128 : UInt8) :: List.replicate k 0).map bv) ∧ Below w3.heap.size w3 wr)
    (fun v _ => 128 - lenV v)
  case atStart => exact ⟨0, _, _, hM1, rfl, own0, (Below.refl _ w3).alloc (Nat.le_refl _) _⟩
  case round =>
    clear own0 hsz1
    obtain ⟨k, A', c', hk, rfl, hown, hb⟩ := hrel
    have K0 := G0.keep hb G0.lt
    obtain ⟨_, _, _, _, _, _, _, _, k8, k9⟩ := K0.all
    have hM3 := HMn.out
    by_cases hlt : k + 1 < M
    · have hne : (((n : Int) + ((k : Int) + 1)) % 128 != 112) = true := by rw [bne_iff_ne]; omega
      go_wp2_with (first
        | (at_builtin; refine wpList_append_sees _ rfl (.tmp 27) (.tmp 28) _ rfl w3.heap.size 5 i0 _ 1 Tryd.underlying24 hi0 hz0 hz1 Hz2.out rfl (.slice A' (k + 1) c') (k + 1) _ rfl (hown.alloc _) (wr.heap.size + 1) (some ⟨wr.heap.size, 0, none⟩) 1 1 [_] rfl (Sees.one _ _ _) (by intro u hu; simp at hu; subst hu; rfl) (by simp only [maxLen]; omega) (by omega) (by have := hb.size; simp; omega) w3.heap.size w3 (hb.alloc hb.size _) (Nat.le_refl _) ?_; intro A5 c5 w5 hown5 hb5))
      have hown6 : w5.ownsRow w3.heap.size 5 1 (.slice A5 (k + 1 + 1) c5) (k + 1 + 1) (((128 : UInt8) :: List.replicate (k + 1) 0).map bv) := by
        have e : (((128 : UInt8) :: List.replicate (k + 1) 0).map bv) = (((128 : UInt8) :: List.replicate k 0).map bv) ++ [.int .u8 0] := by
          rw [List.replicate_succ', List.map_cons, List.map_append, List.map_cons]; rfl
        rw [e]; exact hown5
      go_roundw
      case rel => exact ⟨k + 1, A5, c5, by omega, rfl, hown6, hb5⟩
      case measure => simp [lenV]; omega
    · have hne : (((n : Int) + ((k : Int) + 1)) % 128 != 112) = false := by rw [bne_eq_false_iff_eq]; omega
      obtain rfl : M = k + 1 := by omega
      rw [Nat.add_sub_cancel] at hTail
      have K1 := G1.keep hb G1.lt
      have K2 := G2.keep hb G2.lt
      have KB := GB.trans (hb.mono GB.size)
      have F0 := G0
      have F1 := G1
      have F2 := G2
      have FB := GB
      clear hM3 HMn G0 G1 G2 GB K0
      go_wp2
      go_loopw [6, 7] (fun v i wr => ∃ (j : Nat) (A' : Option Addr) (c' : Nat), j ≤ 8 ∧ i = .int .i64 (7 - j) ∧ v = .slice A' (k + 1 + j) c' ∧ wr.ownsRow w3.heap.size 5 1 (.slice A' (k + 1 + j) c') (k + 1 + j) ((((128 : UInt8) :: List.replicate k 0) ++ beTo 8 p j).map bv) ∧ Below w3.heap.size w3 wr)
        (fun _ i _ => (intOf i + 1).toNat)
      case atStart => exact ⟨0, A', c', Nat.zero_le _, by simp, rfl, by simpa [beTo] using hown, hb⟩
      case round =>
        clear hown hb K1 K2 KB k8 k9 hne
        obtain ⟨j, A', c', hj, rfl, rfl, hown, hb⟩ := hrel
        have K0 := F0.keep hb F0.lt
        obtain ⟨_, _, _, _, _, _, _, _, k8, k9⟩ := K0.all
        by_cases hlj : j < 8
        · have hge : (0 : Int) ≤ 7 - j := by omega
          have hge8 : (0 : Int) ≤ 8 * (7 - j) := by omega
          go_wp2_with (first
            | (at_builtin; refine wpList_append_sees _ rfl (.tmp 34) (.tmp 43) _ rfl w3.heap.size 5 i0 _ 1 Tryd.underlying24 hi0 hz0 hz1 Hz2.out rfl (.slice A' (k + 1 + j) c') (k + 1 + j) _ rfl (hown.alloc _) (wr.heap.size + 1) (some ⟨wr.heap.size, 0, none⟩) 1 1 [_] rfl (Sees.one _ _ _) (by intro u hu; simp at hu; subst hu; rfl) (by simp only [maxLen]; omega) (by omega) (by have := hb.size; simp; omega) w3.heap.size w3 (hb.alloc hb.size _) (Nat.le_refl _) ?_; intro A5 c5 w5 hown5 hb5))
          rw [byte_at, show [bv (UInt8.ofNat (p / 256 ^ (8 - 1 - j)))] = [UInt8.ofNat (p / 256 ^ (8 - 1 - j))].map bv from rfl, ← List.map_append, List.append_assoc, ← beTo_succ] at hown5
          go_roundw
          case rel => exact ⟨j + 1, A5, c5, by omega, by go_num, rfl, hown5, hb5⟩
          case measure => simp [intOf]; omega
        · rw [show (7 : Int) - (j : Int) = -1 by omega]
          obtain rfl : j = 8 := by omega
          have hown2 : wr.ownsRow w3.heap.size 5 1 (.slice A' (k + 1 + 8) c') (k + 1 + 8) ((((128 : UInt8) :: List.replicate k 0) ++ beBytes 8 p).map bv) := hown
          go_wp2
          go_loopw [6, 8] (fun v i wr => ∃ (j : Nat) (A' : Option Addr) (c' : Nat), j ≤ 8 ∧ i = .int .i64 (7 - j) ∧ v = .slice A' (k + 1 + 8 + j) c' ∧ wr.ownsRow w3.heap.size 5 1 (.slice A' (k + 1 + 8 + j) c') (k + 1 + 8 + j) (((((128 : UInt8) :: List.replicate k 0) ++ beBytes 8 p) ++ beTo 8 q j).map bv) ∧ Below w3.heap.size w3 wr)
            (fun _ i _ => (intOf i + 1).toNat)
          case atStart => exact ⟨0, A', c', Nat.zero_le _, by simp, rfl, by simpa [beTo] using hown2, hb⟩
          case round =>
            clear hown hown2 hb k8 k9
            obtain ⟨j, A', c', hj, rfl, rfl, hown, hb⟩ := hrel
            have K0 := F0.keep hb F0.lt
            obtain ⟨_, _, _, _, _, _, _, _, k8, k9⟩ := K0.all
            by_cases hlj : j < 8
            · have hge : (0 : Int) ≤ 7 - j := by omega
              have hge8 : (0 : Int) ≤ 8 * (7 - j) := by omega
              go_wp2_with (first
                | (at_builtin; refine wpList_append_sees _ rfl (.tmp 49) (.tmp 58) _ rfl w3.heap.size 5 i0 _ 1 Tryd.underlying24 hi0 hz0 hz1 Hz2.out rfl (.slice A' (k + 1 + 8 + j) c') (k + 1 + 8 + j) _ rfl (hown.alloc _) (wr.heap.size + 1) (some ⟨wr.heap.size, 0, none⟩) 1 1 [_] rfl (Sees.one _ _ _) (by intro u hu; simp at hu; subst hu; rfl) (by simp only [maxLen]; omega) (by omega) (by have := hb.size; simp; omega) w3.heap.size w3 (hb.alloc hb.size _) (Nat.le_refl _) ?_; intro A5 c5 w5 hown5 hb5))
              rw [byte_at, show [bv (UInt8.ofNat (q / 256 ^ (8 - 1 - j)))] = [UInt8.ofNat (q / 256 ^ (8 - 1 - j))].map bv from rfl, ← List.map_append, List.append_assoc, ← beTo_succ] at hown5
              go_roundw
              case rel => exact ⟨j + 1, A5, c5, by omega, by go_num, rfl, hown5, hb5⟩
              case measure => simp [intOf]; omega
            · rw [show (7 : Int) - (j : Int) = -1 by omega]
              obtain rfl : j = 8 := by omega
              have K1 := F1.keep hb F1.lt
              have K2 := F2.keep hb F2.lt
              have KB := FB.trans (hb.mono FB.size)
              have hsT := Sees.of_own hown
              have hTf : ((((128 : UInt8) :: List.replicate k 0) ++ beBytes 8 p) ++ beTo 8 q 8) = ((((128 : UInt8) :: List.replicate k 0) ++ beBytes 8 p) ++ beBytes 8 q) := rfl
              rw [hTf] at hsT
              generalize ((((128 : UInt8) :: List.replicate k 0) ++ beBytes 8 p) ++ beBytes 8 q) = T at *
              obtain ⟨N', hN'⟩ : ∃ N', (left (r ++ T)).length = N' := ⟨_, rfl⟩
              have RM := RMore_ok A A' n c (k + 1 + 8 + 8) c' m wr.heap.size r T s wr ((h.upTo KB hB).more (Nat.le_trans hB KB.size)) hsT (Nat.le_refl _) hn (by omega) N' hN' Hmay.out
              clear hown hTf hsT hN' k8
              generalize absorb s (r ++ T) = t at *
              generalize left (r ++ T) = rest at *
              generalize (m + (k + 1 + 8 + 8)) % 18446744073709551616 = mm at *
              go_wp2_with (first
                | (with_reducible refine wpList_load_h rfl (.tmp 1) rfl w.heap.size rfl s A n c m K0 Tryd.underlying45 Tryd.infoH ?_)
                | (go_at_call 23
                   (with_reducible refine RM.mono ?_)
                   rintro e w7 ⟨A7, c7, rfl, hs7, hb7⟩
                   have J1 := K1.keep hb7 K1.lt
                   have J2 := K2.keep hb7 K2.lt
                   have JB := KB.trans (hb7.mono KB.size)
                   have hz7 := hb7.size
                   have J1a := J1.alloc (.cells #[.int .u64 0, .int .u64 0, .int .u64 0, .int .u64 0, .int .u64 0, .int .u64 0, .int .u64 0, .int .u64 0, .slice none 0 0, .int .u64 0] 45)
                   have J2a := J2.alloc (.cells #[.int .u64 0, .int .u64 0, .int .u64 0, .int .u64 0, .int .u64 0, .int .u64 0, .int .u64 0, .int .u64 0, .slice none 0 0, .int .u64 0] 45)
                   have JBa := JB.alloc JB.size (.cells #[.int .u64 0, .int .u64 0, .int .u64 0, .int .u64 0, .int .u64 0, .int .u64 0, .int .u64 0, .int .u64 0, .slice none 0 0, .int .u64 0] 45)
                   have l1 := J1.lt
                   have l2 := J2.lt)
                | (with_reducible refine wpList_store_h rfl (.tmp 9) (.tmp 64) rfl w7.heap.size t A7 N' c7 mm rfl rfl sz none 0 0 0 (by with_unfolding_all exact hx_start w7) Tryd.infoH w.heap.size w (by with_unfolding_all exact JBa) (by omega) ?_
                   intro w9 H8 o9 s9 P
                   have P1 : HoldsB w9 48 (w.heap.size + 1) (List.replicate 64 0) := (o9 _ (by omega)).trans (by with_unfolding_all exact J1a)
                   have P2 : HoldsB w9 48 (w.heap.size + 1 + 1) (List.replicate 64 0) := (o9 _ (by omega)).trans (by with_unfolding_all exact J2a)
                   clear o9 s9))
              go_loopw [11] (fun v wr => ∃ k : Nat, k ≤ 64 ∧ v = .int .i64 k ∧ HoldsH wr w7.heap.size t A7 N' c7 mm ∧ HoldsB wr 48 (w.heap.size + 1) (List.replicate 64 0) ∧ HoldsB wr 48 (w.heap.size + 1 + 1) (outL t k) ∧ Below w.heap.size w wr)
                (fun v _ => 64 - (intOf v).toNat)
              case atStart => exact ⟨0, Nat.zero_le _, rfl, H8, P1, P2, P⟩
              case round =>
                clear H8 P1 P2 P
                obtain ⟨k, hk, rfl, H8, P1, P2, P⟩ := hrel
                by_cases hlt : k < 64
                · have hlt2 : (k : Int) < 64 := by omega
                  have hc := (H8.at (k / 8)).trans (hcells_at t A7 N' c7 mm (j := k / 8) (by omega))
                  have ho := P2.cell (j := k) (by rw [outL_length]; exact hlt)
                  have hf := P2.frozen k
                  have hset := Lib.hid (outL_set t k)
                  have hat : Hid (outAt t k = UInt8.ofNat ((t.list.getD (k / 8) 0).toNat / 2 ^ (56 - 8 * (k % 8)))) := Lib.hid rfl
                  have eq4 : (k : Int).tdiv 8 = ((k / 8 : Nat) : Int) := by rw [Int.tdiv_eq_ediv_of_nonneg (by omega)]; omega
                  have em4 : (k : Int).tmod 8 = ((k % 8 : Nat) : Int) := by rw [Int.tmod_eq_emod_of_nonneg (by omega)]; omega
                  have lq : ((k / 8 : Nat) : Int) < 8 := by omega
                  have hr4 : k % 8 < 8 := by omega
                  have hob : Hid (((t.list.getD (k / 8) 0).toNat : Int) / 2 ^ (8 * (7 - k % 8)) % 256 = ((UInt8.ofNat ((t.list.getD (k / 8) 0).toNat / 2 ^ (8 * (7 - k % 8)))).toNat : Int)) := Lib.hid (by have := out_byte (t.list.getD (k / 8) 0) (k % 8); rwa [show 56 - 8 * (k % 8) = 8 * (7 - k % 8) by omega] at this)
                  rw [show 56 - 8 * (k % 8) = 8 * (7 - k % 8) by omega] at hat
                  generalize t.list.getD (k / 8) 0 = x at *
                  generalize k / 8 = qq at *
                  generalize k % 8 = rr at *
                  have lr : (rr : Int) < 8 := by omega
                  have lr2 : (0 : Int) ≤ 7 - rr := by omega
                  have lr3 : (0 : Int) ≤ 8 * (7 - rr) := by omega
                  have wr1 : IntKind.i64.wrap (7 - (rr : Int)) = 7 - rr := by simp only [IntKind.wrap, IntKind.bits, IntKind.signed]; simp; omega
                  have wr2 : IntKind.i64.wrap (8 * (7 - (rr : Int))) = 8 * (7 - rr) := by simp only [IntKind.wrap, IntKind.bits, IntKind.signed]; simp; omega
                  go_wp2
                  go_roundw
                  case rel => exact ⟨k + 1, by omega, by go_num, H8.setOther _ _ (by simp; omega), P1.setOther _ _ (by simp), by rw [hob.out, ← hat.out, ← hset.out]; exact P2.set k _, P.setCell (by simp; omega) _⟩
                  case measure => simp [intOf]; omega
                · rw [show (k : Int) = 64 by omega]
                  obtain rfl : k = 64 := by omega
                  rw [outL_full] at P2
                  go_wp2_with (first
                    | (with_reducible refine wpList_load_b rfl 48 (.tmp 4) rfl (w.heap.size + 1 + 1) rfl (out64 t) (out64_length t) P2 Tryd.underlying48 Tryd.infoB32 ?_)
                    | (with_reducible refine wpList_store_b rfl 48 (.tmp 2) (.tmp 84) rfl (w.heap.size + 1) (out64 t) (out64_length t) rfl rfl _ P1 Tryd.infoB32 (by simp) w.heap.size w P (by omega) ?_; intro w12 Hg _ _ hb12))
                  exact bodyPost_ret (results_cell_tmp rfl _ _ (w.heap.size + 1) _ _ _ _ rfl Hg Tryd.underlying48 rfl (by rw [Tryd.infoB32, (b_cells _ (out64_length t)).1])) rfl ⟨by rw [hTail.out]; rfl, hb12⟩
end Go.Proofs.YtppaffamlfghjaaDoor
