/-
  A text goes on, by a block or more: the program's way.
-/
import Derived.Test.YtppaffamlfghjaaDoorShaGoOn
namespace Go.Proofs.YtppaffamlfghjaaDoor
open Go.RowKit

theorem World.heap_setCells_blk (w : World) (g o : Nat) (vs : List Value) (k : Nat) (hk : k ≠ g) : (w.setCells g o vs).heap[k]? = w.heap[k]? := by
  induction vs generalizing w o with
  | nil => rfl
  | cons v vs ih =>
    have := ih (w.setCell ⟨g, o, none⟩ v) (o + 1)
    exact this.trans (heap_setCell_other w ⟨g, o, none⟩ k v hk)

theorem cell_of_heap {w w' : World} {p : Addr} (h : w'.heap[p.block]? = w.heap[p.block]?) : w'.cell? p = w.cell? p := by
  unfold World.cell?
  rw [h]

/-- 'h.State = s'. -/
theorem wpList_store_state {P : Program} {ops : Array Oper} {rest : List Oper} {o : Oper} {a : Act} {w : World} {Q : Exit → Act → World → Prop} (hgd : o.guard = none) (x y : Operand) (ho : o.op = .store 23 x y)
    (g : Nat) (t : St) (hx : a.eval x = .pointer (some ⟨g, 0, none⟩)) (hy : a.eval y = sv t)
    (s : St) (A : Option Addr) (n c m : Nat) (hg : HoldsH w g s A n c m) (hi : (P.info? 23).map (·.size) = some 8) (D : Nat) (w0 : World) (hb : Below D w0 w) (hD : D ≤ g)
    (h : ∀ w' : World, HoldsH w' g t A n c m → (∀ k, k ≠ g → w'.heap[k]? = w.heap[k]?) → w'.heap.size = w.heap.size → Below D w0 w' → wpList P ops Q rest (a.put o.dst undef) w') : wpList P ops Q (o :: rest) a w := by
  refine wpList_store_mid hgd _ x y ho g 0 t.cells hx hy (fun j hj => ?_) (by rw [hi]; rfl) (by simp [St.cells, uv, Value.oneCell']) (h _ ?_ (fun k hk => ?_) ?_ ?_)
  · have hj8 : j < 8 := hj
    refine ⟨?_, hg.frozen _⟩
    rw [hg.at]
    match j, hj8 with
    | 0, _ => rfl
    | 1, _ => rfl
    | 2, _ => rfl
    | 3, _ => rfl
    | 4, _ => rfl
    | 5, _ => rfl
    | 6, _ => rfl
    | 7, _ => rfl
  · exact hg.setState t
  · exact (World.heap_setCells_blk w g 0 _ k hk)
  · exact (by simp [World.setCells, St.cells])
  · exact (((((((hb.setCell (p := ⟨g, 0, none⟩) hD _).setCell (p := ⟨g, 1, none⟩) hD _).setCell (p := ⟨g, 2, none⟩) hD _).setCell (p := ⟨g, 3, none⟩) hD _).setCell (p := ⟨g, 4, none⟩) hD _).setCell (p := ⟨g, 5, none⟩) hD _).setCell (p := ⟨g, 6, none⟩) hD _).setCell (p := ⟨g, 7, none⟩) hD _
set_option maxRecDepth 100000 in
set_option maxHeartbeats 1000000 in
theorem goOn_none (A A2 : Option Addr) (n c n2 c2 m B : Nat) (r b : List UInt8) (s : St) (w : World) (h : Sees w B A n c (r.map bv)) (h2 : Sees w B A2 n2 c2 (b.map bv)) (hB : B ≤ w.heap.size) (hn0 : n = 0) (hn2 : 64 ≤ n2) (hm2 : n2 ≤ 1000000) (N' : Nat) (hN' : (left (r ++ b)).length = N') (L0 : Laid w) :
    Calls Tryd.prog 33 #[hv s A n c m, .slice A2 n2 c2] w (GaveH w (absorb s (r ++ b)) N' (left (r ++ b)) ((m + n2) % 18446744073709551616)) := by
  have hlr : Hid (r.length = n) := Lib.hid (by have := h.len; simpa using this)
  have hNl := Lib.hid hN'
  clear hN'
  have hr : r = [] := List.eq_nil_of_length_eq_zero (by rw [hlr.out, hn0])
  subst hn0
  have hge1 : ¬ (n2 : Int) < 64 := by omega
  have hwm : IntKind.u64.wrap ((m : Int) + (n2 : Int)) = (((m + n2) % 18446744073709551616 : Nat) : Int) := by rw [IntKind.wrap_u64]; omega
  generalize (m + n2) % 18446744073709551616 = mm at *
  have HST := h_start w s A 0 c mm #[.int .u32 (s.a.toNat : Int), .int .u32 (s.b.toNat : Int), .int .u32 (s.c.toNat : Int), .int .u32 (s.d.toNat : Int), .int .u32 (s.e.toNat : Int), .int .u32 (s.f.toNat : Int), .int .u32 (s.g.toNat : Int), .int .u32 (s.h.toNat : Int), .slice A ((0 : Nat) : Nat) c, .int .u64 (mm : Int)]
    #[.int .u32 0, .int .u32 0, .int .u32 0, .int .u32 0, .int .u32 0, .int .u32 0, .int .u32 0, .int .u32 0, .slice none 0 0, .int .u64 0] rfl rfl
  rw [hv_cells]
  unfold hcells
  go_enter Tryd.func33, Tryd.ntmps33
  go_wp2
  go_loopw [1] (fun v wr => ∃ (s1 : St) (b1 : List UInt8) (A1 : Option Addr) (n1 c1 : Nat), v = .slice A1 n1 c1 ∧ n1 ≤ 1000000 ∧ Sees wr w.heap.size A1 n1 c1 (b1.map bv) ∧ absorb s1 b1 = absorb s (r ++ b) ∧ left b1 = left (r ++ b) ∧ HoldsH wr w.heap.size s1 A 0 c mm ∧ HoldsH wr (w.heap.size + 1) sz none 0 0 0 ∧ Below w.heap.size w wr)
    (fun v _ => lenV v)
  case atStart => exact ⟨s, b, A2, n2, c2, rfl, hm2, (h2.upTo HST.2.2.1 hB).more hB, by rw [hr]; rfl, by rw [hr]; rfl, HST.1, HST.2.1, HST.2.2.1⟩
  case round =>
    clear HST
    obtain ⟨s1, b1, A1, n1, c1, rfl, hn1, hs1, ha, hl, H0, H1, HB⟩ := hrel
    have hlen : b1.length = n1 := by have := hs1.len; simpa using this
    have HL := Lib.hid hlen
    by_cases hlt : n1 < 64
    · have hlt2 : ¬ (64 : Int) ≤ n1 := by omega
      have ha2 : absorb s (r ++ b) = s1 := by rw [← ha]; exact absorb_short s1 (by omega)
      have hl2 : left (r ++ b) = b1 := by rw [← hl]; exact left_short (by omega)
      obtain rfl : N' = n1 := by rw [← hNl.out, hl2, hlen]
      have Ha2 := Lib.hid ha2
      have Hl2 := Lib.hid hl2
      clear hlen ha hl ha2 hl2
      go_wp2_with (first
        | (go_at_call 32
           refine (Clone_any _ _ _ _ _ _ hs1 HB.size (by omega)).mono ?_
           rintro e w3 ⟨A3, c3, rfl, hown, hb3⟩
           have H0' := H0.keep hb3 H0.lt
           have H1' := H1.keep hb3 H1.lt
           have HB' := HB.trans (hb3.mono HB.size)
           have hz1 := H1.lt
           have hz3 := hb3.size
           obtain ⟨_, _, _, _, _, _, _, _, k8, _⟩ := H0'.all
           have f8 := H0'.frozen 8
           have L := H0'.setRest A3 N' c3
           have Z := H1'.setOther ⟨w.heap.size, 8, none⟩ (.slice A3 N' c3) (by simp)
           have HB2 := HB'.setCell (p := ⟨w.heap.size, 8, none⟩) (Nat.le_refl _) (.slice A3 N' c3)
           clear hb3)
        | (with_reducible refine wpList_load_h rfl (.tmp 2) rfl w.heap.size rfl s1 A3 N' c3 mm L Tryd.underlying27 Tryd.infoH ?_)
        | (with_reducible refine wpList_store_h rfl (.tmp 4) (.tmp 62) rfl (w.heap.size + 1) s1 A3 N' c3 mm rfl rfl sz none 0 0 0 Z Tryd.infoH w.heap.size w HB2 (by omega) ?_; intro w5 Hg ho hsz hb5))
      exact bodyPost_ret (results_cell_row rfl _ _ (w.heap.size + 1) _ _ _ _ rfl Hg Tryd.underlying27 rfl (by rw [Tryd.infoH]; rfl)) rfl
        ⟨A3, c3, by rw [Ha2.out]; rfl, by rw [Hl2.out]; exact (seesIn_of_own (own_keep hown fun k hk => (ho k (by omega)).trans (heap_setCell_other w3 _ k _ (by simp; omega)))).imp (fun b _ hx => Nat.le_trans HB.size hx), hb5⟩
    · have hge : (64 : Int) ≤ n1 := by omega
      have hz1 := H1.lt
      have hle1 := hs1.le
      obtain ⟨k0, k1, k2, k3, k4, k5, k6, k7, _, _⟩ := H0.all
      have hd := hs1.drop (k := 64) (by omega)
      have hc1 : 64 ≤ c1 := by omega
      obtain ⟨ab, ao, _, rfl, _, _, _⟩ := hs1.cell (k := 0) (by omega)
      rw [← List.map_drop] at hd
      have habs := Lib.hid ((absorb_long s1 (l := b1) (by omega)).symm.trans ha)
      have hlef := Lib.hid ((left_long (l := b1) (by omega)).symm.trans hl)
      clear hlen ha hl
      rcases Nat.lt_or_eq_of_le hc1 with hc64 | hc64
      all_goals
       first | (subst hc64; obtain rfl : n1 = 64 := by omega) | skip
       first | rw [if_pos rfl] at hd | rw [if_neg (by omega)] at hd
       have BI := Lib.hid (blockIn_any _ _ _ _ _ s1 wr hs1 HB.size (by omega) (by omega) (L0.keep HB L0.size))
       rw [sv_eq s1] at BI
       go_wp2_with (first
        | (go_at_call 46
           (with_reducible refine BI.out.mono ?_)
           rintro e w3 ⟨rfl, hb3⟩
           have H0' := H0.keep hb3 H0.lt
           have H1' := H1.keep hb3 H1.lt
           have HB' := HB.trans (hb3.mono HB.size)
           have hd' := hd.below (hb3.mono HB.size))
        | ((with_reducible refine wpList_store_state rfl (.tmp 58) (.tmp 57) rfl w.heap.size (blk s1 b1) rfl rfl s1 A 0 c mm H0' Tryd.info8 w.heap.size w HB' (Nat.le_refl _) ?_); intro w4 Hg ho hsz hb4))
       go_roundw
       case rel => exact ⟨blk s1 b1, b1.drop 64, _, _, _, rfl, by omega, hd'.keep (fun p hp => cell_of_heap (ho p.block (by omega))), habs.out, hlef.out, Hg, H1'.oth ho (by omega), hb4⟩
       case measure => simp [lenV] <;> omega
end Go.Proofs.YtppaffamlfghjaaDoor
