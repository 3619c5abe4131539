/-
  A text goes on, by a block or more, where a rest was: the program's way.
-/
import Derived.Test.YtppaffamlfghjaaDoorShaGoOn2
import Derived.Deep.RegionWith
namespace Go.Proofs.YtppaffamlfghjaaDoor
open Go.RowKit

theorem fill_first (s : St) (r b : List UInt8) (q : Nat) (hr : r.length + q = 64) (hb : q ≤ b.length) :
    absorb (blk s (r ++ b.take q)) (b.drop q) = absorb s (r ++ b) ∧ left (b.drop q) = left (r ++ b) := by
  have hl : 64 ≤ (r ++ b).length := by rw [List.length_append]; omega
  have e1 : (r ++ b).take 64 = r ++ b.take q := by
    rw [List.take_append, List.take_of_length_le (by omega)]
    congr 2; omega
  have e2 : (r ++ b).drop 64 = b.drop q := by
    rw [List.drop_append, List.drop_of_length_le (by omega), List.nil_append]
    congr 1; omega
  constructor
  · rw [absorb_long s hl, e2, ← blk_take s (r ++ b), e1]
  · rw [left_long hl, e2]

theorem chain_facts (w w4 : World) (g : Nat) (t : St) {s : St} (A : Option Addr) (n c mm : Nat) (F0 : HoldsH w4 g s A n c mm) (F1 : HoldsH w4 (g + 1) sz none 0 0 0) (FB : Below w.heap.size w w4) (hg : w.heap.size ≤ g) :
    HoldsH ((((((((w4.setCell ⟨g, 0, none⟩ (.int .u32 (t.a.toNat : Int))).setCell ⟨g, 1, none⟩ (.int .u32 (t.b.toNat : Int))).setCell ⟨g, 2, none⟩ (.int .u32 (t.c.toNat : Int))).setCell ⟨g, 3, none⟩ (.int .u32 (t.d.toNat : Int))).setCell ⟨g, 4, none⟩ (.int .u32 (t.e.toNat : Int))).setCell ⟨g, 5, none⟩ (.int .u32 (t.f.toNat : Int))).setCell ⟨g, 6, none⟩ (.int .u32 (t.g.toNat : Int))).setCell ⟨g, 7, none⟩ (.int .u32 (t.h.toNat : Int))) g t A n c mm ∧
    HoldsH ((((((((w4.setCell ⟨g, 0, none⟩ (.int .u32 (t.a.toNat : Int))).setCell ⟨g, 1, none⟩ (.int .u32 (t.b.toNat : Int))).setCell ⟨g, 2, none⟩ (.int .u32 (t.c.toNat : Int))).setCell ⟨g, 3, none⟩ (.int .u32 (t.d.toNat : Int))).setCell ⟨g, 4, none⟩ (.int .u32 (t.e.toNat : Int))).setCell ⟨g, 5, none⟩ (.int .u32 (t.f.toNat : Int))).setCell ⟨g, 6, none⟩ (.int .u32 (t.g.toNat : Int))).setCell ⟨g, 7, none⟩ (.int .u32 (t.h.toNat : Int))) (g + 1) sz none 0 0 0 ∧
    Below w.heap.size w ((((((((w4.setCell ⟨g, 0, none⟩ (.int .u32 (t.a.toNat : Int))).setCell ⟨g, 1, none⟩ (.int .u32 (t.b.toNat : Int))).setCell ⟨g, 2, none⟩ (.int .u32 (t.c.toNat : Int))).setCell ⟨g, 3, none⟩ (.int .u32 (t.d.toNat : Int))).setCell ⟨g, 4, none⟩ (.int .u32 (t.e.toNat : Int))).setCell ⟨g, 5, none⟩ (.int .u32 (t.f.toNat : Int))).setCell ⟨g, 6, none⟩ (.int .u32 (t.g.toNat : Int))).setCell ⟨g, 7, none⟩ (.int .u32 (t.h.toNat : Int))) := by
  have hn : ∀ j, g + 1 ≠ Addr.block ⟨g, j, none⟩ := fun j => by simp
  exact ⟨F0.setState t, (((((((F1.setOther _ _ (hn 0)).setOther _ _ (hn 1)).setOther _ _ (hn 2)).setOther _ _ (hn 3)).setOther _ _ (hn 4)).setOther _ _ (hn 5)).setOther _ _ (hn 6)).setOther _ _ (hn 7),
    (((((((FB.setCell (p := ⟨g, 0, none⟩) hg _).setCell (p := ⟨g, 1, none⟩) hg _).setCell (p := ⟨g, 2, none⟩) hg _).setCell (p := ⟨g, 3, none⟩) hg _).setCell (p := ⟨g, 4, none⟩) hg _).setCell (p := ⟨g, 5, none⟩) hg _).setCell (p := ⟨g, 6, none⟩) hg _).setCell (p := ⟨g, 7, none⟩) hg _⟩

theorem mid_facts (w W2 : World) (g : Nat) (s : St) (A A2 : Option Addr) (n c q c2 mm : Nat) (r t : List UInt8) (H0 : HoldsH W2 g s A n c mm) (H1 : HoldsH W2 (g + 1) sz none 0 0 0) (HB : Below g w W2) (HS : W2.heap.size = g + 1 + 1)
    (h0 : Sees W2 (g + 1 + 1) A n c (r.map bv)) (h2 : Sees W2 (g + 1 + 1) A2 q c2 (t.map bv)) :
    SeesL (W2.drew.alloc (.cells #[.slice A n c, .slice A2 q c2] 24)) (g + 1 + 1 + 1) (some ⟨g + 1 + 1, 0, none⟩) 2 2 [r, t] ∧ HoldsH (W2.drew.alloc (.cells #[.slice A n c, .slice A2 q c2] 24)) g s A n c mm ∧
    HoldsH (W2.drew.alloc (.cells #[.slice A n c, .slice A2 q c2] 24)) (g + 1) sz none 0 0 0 ∧ Below g w (W2.drew.alloc (.cells #[.slice A n c, .slice A2 q c2] 24)) ∧ (W2.drew.alloc (.cells #[.slice A n c, .slice A2 q c2] 24)).heap.size = g + 1 + 1 + 1 := by
  have HS' : W2.drew.heap.size = g + 1 + 1 := HS
  exact ⟨SeesL.two _ _ _ HS' h0.drew h2.drew, HoldsH.alloc (W := W2.drew) H0 _, HoldsH.alloc (W := W2.drew) H1 _, HB.drew.alloc (by rw [HS']; omega) _, by rw [World.size_alloc, HS']⟩

set_option maxRecDepth 100000 in
set_option maxHeartbeats 8000000 in
theorem goOn_some (A A2 : Option Addr) (n c n2 c2 m B q : Nat) (r b : List UInt8) (s : St) (w : World) (h : Sees w B A n c (r.map bv)) (h2 : Sees w B A2 n2 c2 (b.map bv)) (hB : B ≤ w.heap.size) (hn0 : 0 < n) (hq : n + q = 64) (hq1 : 1 ≤ q) (hn2 : q ≤ n2) (hm2 : n2 ≤ 1000000) (N' : Nat) (hN' : (left (r ++ b)).length = N') (L0 : Laid w) :
    Calls Tryd.prog 33 #[hv s A n c m, .slice A2 n2 c2] w (GaveH w (absorb s (r ++ b)) N' (left (r ++ b)) ((m + n2) % 18446744073709551616)) := by
  have hlr : Hid (r.length = n) := Lib.hid (by have := h.len; simpa using this)
  have hlb : Hid (b.length = n2) := Lib.hid (by have := h2.len; simpa using this)
  have hNl := Lib.hid hN'
  clear hN'
  have hff := Lib.hid (fill_first s r b q (by rw [hlr.out]; exact hq) (by rw [hlb.out]; exact hn2))
  have hge0 : ¬ (n : Int) + n2 < 64 := by omega
  have hn1 : (0 : Int) < n := by omega
  have hmis : (64 : Int) - n = q := by omega
  have hqn : (q : Int) ≤ n2 := by omega
  have hc2 : n2 ≤ c2 := h2.le
  have hqc : (q : Int) ≤ c2 := by omega
  have hq0 : (0 : Int) ≤ q := by omega
  have hwm : IntKind.u64.wrap ((m : Int) + (n2 : Int)) = (((m + n2) % 18446744073709551616 : Nat) : Int) := by rw [IntKind.wrap_u64]; omega
  have hTN : Hid ((r ++ b.take q).length = 64) := Lib.hid (by rw [List.length_append, List.length_take, hlr.out, hlb.out]; omega)
  generalize (m + n2) % 18446744073709551616 = mm at *
  obtain ⟨H0, H1, HB, HS⟩ := h_start w s A n c mm #[.int .u32 (s.a.toNat : Int), .int .u32 (s.b.toNat : Int), .int .u32 (s.c.toNat : Int), .int .u32 (s.d.toNat : Int), .int .u32 (s.e.toNat : Int), .int .u32 (s.f.toNat : Int), .int .u32 (s.g.toNat : Int), .int .u32 (s.h.toNat : Int), .slice A n c, .int .u64 (mm : Int)]
    #[.int .u32 0, .int .u32 0, .int .u32 0, .int .u32 0, .int .u32 0, .int .u32 0, .int .u32 0, .int .u32 0, .slice none 0 0, .int .u64 0] rfl rfl
  have hk2 : Sees w B A2 q c2 ((b.take q).map bv) := by rw [List.map_take]; exact h2.take hn2
  have h0' := (h.upTo HB hB).more (show B ≤ w.heap.size + 1 + 1 by omega)
  have h2' := (hk2.upTo HB hB).more (show B ≤ w.heap.size + 1 + 1 by omega)
  have hd2 := h2.drop hn2
  obtain ⟨ab, ao, _, rfl, hab, _, _⟩ := h2.cell (k := 0) (by omega)
  rw [← List.map_drop] at hd2
  have MF := mid_facts w _ w.heap.size s A _ n c q c2 mm r (b.take q) H0 H1 HB HS h0' h2'
  obtain ⟨k0, k1, k2, k3, k4, k5, k6, k7, k8, _⟩ := H0.all
  have hcq : q ≤ c2 := by omega
  rcases Nat.lt_or_eq_of_le hcq with hcq | hcq
  all_goals
   first | (subst hcq; obtain rfl : q = n2 := by omega) | skip
   first | rw [if_pos rfl, Nat.sub_self] at hd2 | (rw [if_neg (by omega)] at hd2; simp only [Option.map_some, Addr.add_mid] at hd2)
   rw [hv_cells]
   unfold hcells
   go_enter Tryd.func33, Tryd.ntmps33
   go_wp2
   go_region_with (first
    | (go_at_call 38
       refine (Concat_as _ 2 2 (w.heap.size + 1 + 1 + 1) [r, b.take q] (r ++ b.take q) 64 _ (by simp) hTN.out MF.1 (by rw [MF.2.2.2.2]; exact Nat.le_refl _) (by omega) (by omega)).mono ?_
       rintro e w3 ⟨A3, c3, rfl, hown, hb3⟩
       have G0 := MF.2.1.keep hb3 (by rw [MF.2.2.2.2]; omega)
       have G1 := MF.2.2.1.keep hb3 (by rw [MF.2.2.2.2]; omega)
       have GB := MF.2.2.2.1.trans (hb3.mono (by rw [MF.2.2.2.2]; omega))
       have hs3 := Sees.of_own hown
       have hz3 := hb3.size
       rw [MF.2.2.2.2] at hz3
       obtain ⟨g0, g1, g2, g3, g4, g5, g6, g7, _, _⟩ := G0.all)
    | (go_at_call 46
       have BI := blockIn_any A3 64 c3 _ (r ++ b.take q) s w3 hs3 (Nat.le_refl _) (by omega) (by omega) (L0.keep GB L0.size)
       generalize blk s (r ++ b.take q) = t at *
       rw [sv_eq s, sv_eq t] at BI
       (with_reducible refine BI.mono ?_)
       rintro e w4 ⟨rfl, hb4⟩
       have F0 := G0.keep hb4 (by omega)
       have F1 := G1.keep hb4 (by omega)
       have FB := GB.trans (hb4.mono (by omega))
       obtain ⟨f0, f1, f2, f3, f4, f5, f6, f7, _, _⟩ := F0.all
       have fz := F0.frozen))
   all_goals
    have CF := chain_facts w w4 w.heap.size t A n c mm F0 F1 FB (Nat.le_refl _)
    clear hown hb3 hb4 BI fz f0 f1 f2 f3 f4 f5 f6 f7 g0 g1 g2 g3 g4 g5 g6 g7 k0 k1 k2 k3 k4 k5 k6 k7 k8 G0 G1 GB hs3 MF H0 H1 HB HS F0 F1 FB h0' h2'
    go_wp2
    go_loopw [1] (fun v wr => ∃ (s1 : St) (b1 : List UInt8) (A1 : Option Addr) (n1 c1 : Nat), v = .slice A1 n1 c1 ∧ n1 ≤ 1000000 ∧ Sees wr w.heap.size A1 n1 c1 (b1.map bv) ∧ absorb s1 b1 = absorb s (r ++ b) ∧ left b1 = left (r ++ b) ∧ HoldsH wr w.heap.size s1 A n c mm ∧ HoldsH wr (w.heap.size + 1) sz none 0 0 0 ∧ Below w.heap.size w wr)
      (fun v _ => lenV v)
    case atStart => exact ⟨t, b.drop q, _, _, _, rfl, by omega, (hd2.upTo CF.2.2 hB).more hB, hff.out.1, hff.out.2, CF.1, CF.2.1, CF.2.2⟩
    case round =>
      clear CF
      obtain ⟨s1, b1, A1, n1, c1, rfl, hn1, hs1, ha, hl, H0, H1, HB⟩ := hrel
      have hlen : b1.length = n1 := by have := hs1.len; simpa using this
      have HL := Lib.hid hlen
      by_cases hlt : n1 < 64
      · have hlt2 : ¬ (64 : Int) ≤ n1 := by omega
        have ha2 : absorb s (r ++ b) = s1 := by rw [← ha]; exact absorb_short s1 (by omega)
        have hl2 : left (r ++ b) = b1 := by rw [← hl]; exact left_short (by omega)
        obtain rfl : N' = n1 := by rw [← hNl.out, hl2, hlen]
        have Ha2 := Lib.hid ha2
        have Hl2 := Lib.hid hl2
        clear hlen ha hl ha2 hl2
        go_wp2_with (first
          | (go_at_call 32
             refine (Clone_any _ _ _ _ _ _ hs1 HB.size (by omega)).mono ?_
             rintro e w3 ⟨A3, c3, rfl, hown, hb3⟩
             have H0' := H0.keep hb3 H0.lt
             have H1' := H1.keep hb3 H1.lt
             have HB' := HB.trans (hb3.mono HB.size)
             have hz1 := H1.lt
             have hz3 := hb3.size
             obtain ⟨_, _, _, _, _, _, _, _, k8, _⟩ := H0'.all
             have f8 := H0'.frozen 8
             have L := H0'.setRest A3 N' c3
             have Z := H1'.setOther ⟨w.heap.size, 8, none⟩ (.slice A3 N' c3) (by simp)
             have HB2 := HB'.setCell (p := ⟨w.heap.size, 8, none⟩) (Nat.le_refl _) (.slice A3 N' c3)
             clear hb3)
          | (with_reducible refine wpList_load_h rfl (.tmp 2) rfl w.heap.size rfl s1 A3 N' c3 mm L Tryd.underlying27 Tryd.infoH ?_)
          | (with_reducible refine wpList_store_h rfl (.tmp 4) (.tmp 62) rfl (w.heap.size + 1) s1 A3 N' c3 mm rfl rfl sz none 0 0 0 Z Tryd.infoH w.heap.size w HB2 (by omega) ?_; intro w5 Hg ho hsz hb5))
        exact bodyPost_ret (results_cell_row rfl _ _ (w.heap.size + 1) _ _ _ _ rfl Hg Tryd.underlying27 rfl (by rw [Tryd.infoH]; rfl)) rfl
          ⟨A3, c3, by rw [Ha2.out]; rfl, by rw [Hl2.out]; exact (seesIn_of_own (own_keep hown fun k hk => (ho k (by omega)).trans (heap_setCell_other w3 _ k _ (by simp; omega)))).imp (fun b _ hx => Nat.le_trans HB.size hx), hb5⟩
      · have hge : (64 : Int) ≤ n1 := by omega
        have hz1 := H1.lt
        have hle1 := hs1.le
        obtain ⟨k0, k1, k2, k3, k4, k5, k6, k7, _, _⟩ := H0.all
        have hd := hs1.drop (k := 64) (by omega)
        have hc1 : 64 ≤ c1 := by omega
        obtain ⟨ab, ao, _, rfl, _, _, _⟩ := hs1.cell (k := 0) (by omega)
        rw [← List.map_drop] at hd
        have habs := Lib.hid ((absorb_long s1 (l := b1) (by omega)).symm.trans ha)
        have hlef := Lib.hid ((left_long (l := b1) (by omega)).symm.trans hl)
        clear hlen ha hl
        rcases Nat.lt_or_eq_of_le hc1 with hc64 | hc64
        all_goals
         first | (subst hc64; obtain rfl : n1 = 64 := by omega) | skip
         first | rw [if_pos rfl] at hd | rw [if_neg (by omega)] at hd
         have BI := Lib.hid (blockIn_any _ _ _ _ _ s1 wr hs1 HB.size (by omega) (by omega) (L0.keep HB L0.size))
         rw [sv_eq s1] at BI
         go_wp2_with (first
          | (go_at_call 46
             (with_reducible refine BI.out.mono ?_)
             rintro e w3 ⟨rfl, hb3⟩
             have H0' := H0.keep hb3 H0.lt
             have H1' := H1.keep hb3 H1.lt
             have HB' := HB.trans (hb3.mono HB.size)
             have hd' := hd.below (hb3.mono HB.size))
          | ((with_reducible refine wpList_store_state rfl (.tmp 58) (.tmp 57) rfl w.heap.size (blk s1 b1) rfl rfl s1 A n c mm H0' Tryd.info8 w.heap.size w HB' (Nat.le_refl _) ?_); intro w4 Hg ho hsz hb4))
         go_roundw
         case rel => exact ⟨blk s1 b1, b1.drop 64, _, _, _, rfl, by omega, hd'.keep (fun p hp => cell_of_heap (ho p.block (by omega))), habs.out, hlef.out, Hg, H1'.oth ho (by omega), hb4⟩
         case measure => simp [lenV] <;> omega
end Go.Proofs.YtppaffamlfghjaaDoor
