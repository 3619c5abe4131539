/-
  Begin, More: the program's.
-/
import Derived.Test.YtppaffamlfghjaaDoorWideGoOn
namespace Go.Proofs.YtppaffamlfghjaaDoor
open Go.RowKit

set_option maxRecDepth 100000 in
set_option maxHeartbeats 400000 in
theorem Begin_any (w : World) (L : Laid w) :
    Calls Tryd.prog 27 #[] w fun e w' => e = .returned (hv st0 none 0 0 0) ∧ Below w.heap.size w w' := by
  have hsz := L.size
  have l0 : ∀ o, (w.alloc o).cell? ⟨1, 0, none⟩ = some (.int .u64 7640891576956012808) := fun o => (World.cell?_alloc_lt _ _ _ (show 1 < w.heap.size by omega)).trans (L.1 0 (by omega))
  have l1 : ∀ o, (w.alloc o).cell? ⟨1, 1, none⟩ = some (.int .u64 13503953896175478587) := fun o => (World.cell?_alloc_lt _ _ _ (show 1 < w.heap.size by omega)).trans (L.1 1 (by omega))
  have l2 : ∀ o, (w.alloc o).cell? ⟨1, 2, none⟩ = some (.int .u64 4354685564936845355) := fun o => (World.cell?_alloc_lt _ _ _ (show 1 < w.heap.size by omega)).trans (L.1 2 (by omega))
  have l3 : ∀ o, (w.alloc o).cell? ⟨1, 3, none⟩ = some (.int .u64 11912009170470909681) := fun o => (World.cell?_alloc_lt _ _ _ (show 1 < w.heap.size by omega)).trans (L.1 3 (by omega))
  have l4 : ∀ o, (w.alloc o).cell? ⟨1, 4, none⟩ = some (.int .u64 5840696475078001361) := fun o => (World.cell?_alloc_lt _ _ _ (show 1 < w.heap.size by omega)).trans (L.1 4 (by omega))
  have l5 : ∀ o, (w.alloc o).cell? ⟨1, 5, none⟩ = some (.int .u64 11170449401992604703) := fun o => (World.cell?_alloc_lt _ _ _ (show 1 < w.heap.size by omega)).trans (L.1 5 (by omega))
  have l6 : ∀ o, (w.alloc o).cell? ⟨1, 6, none⟩ = some (.int .u64 2270897969802886507) := fun o => (World.cell?_alloc_lt _ _ _ (show 1 < w.heap.size by omega)).trans (L.1 6 (by omega))
  have l7 : ∀ o, (w.alloc o).cell? ⟨1, 7, none⟩ = some (.int .u64 6620516959819538809) := fun o => (World.cell?_alloc_lt _ _ _ (show 1 < w.heap.size by omega)).trans (L.1 7 (by omega))
  have h0 := (holdsH_new w w.heap.size (hcells sz none 0 0 0) sz none 0 0 0 rfl rfl)
  have hb := (Below.refl w.heap.size w).alloc (Nat.le_refl _) (.cells (hcells sz none 0 0 0) 45)
  go_enter Tryd.func27, Tryd.ntmps27
  go_wp2_with (with_reducible refine wpList_store_h rfl (.tmp 0) (.tmp 2) rfl w.heap.size st0 none 0 0 0 rfl (by with_unfolding_all rfl) sz none 0 0 0 (by with_unfolding_all exact h0) Tryd.infoH w.heap.size w (by with_unfolding_all exact hb) (Nat.le_refl _) ?_; intro w2 Hg ho hs hb2)
  exact bodyPost_ret (results_cell_row rfl _ _ w.heap.size _ _ _ _ rfl Hg Tryd.underlying45 rfl (by rw [Tryd.infoH]; rfl)) rfl ⟨rfl, hb2⟩

/-- What More gives: the text, and the error. -/
def GaveM (w : World) (s : St) (n : Nat) (l : List UInt8) (m : Nat) (err : Int) (e : Ending) (w' : World) : Prop :=
  ∃ A c, e = .returned (.tuple #[hv s A n c m, .int .i64 err]) ∧ SeesIn w' A n c (l.map bv) (fun b => w.heap.size ≤ b) ∧ Below w.heap.size w w'

set_option maxRecDepth 100000 in
set_option maxHeartbeats 1000000 in
theorem More_ok (A A2 : Option Addr) (n c n2 c2 m B N' : Nat) (r b : List UInt8) (s : St) (w : World) (h : Sees w B A n c (r.map bv)) (h2 : Sees w B A2 n2 c2 (b.map bv)) (hB : B ≤ w.heap.size) (hn : n < 128) (hmay : ((n : Int) == (m : Int) % 128) = true) (hm2 : n2 ≤ 1000000) (hN' : (left (r ++ b)).length = N') (L0 : Laid w) :
    Calls Tryd.prog 22 #[hv s A n c m, .slice A2 n2 c2] w (GaveM w (absorb s (r ++ b)) N' (left (r ++ b)) ((m + n2) % 18446744073709551616) 0) := by
  have HT : Hid (∀ W, Calls Tryd.prog 40 #[hv s A n c m] W fun e w' => e = .returned (.bool true) ∧ Below W.heap.size W w') := Lib.hid fun W => by
    have := isText_any s A n c m W (by omega)
    rwa [hmay] at this
  have HST := h_start w s A n c m #[.int .u64 (s.a.toNat : Int), .int .u64 (s.b.toNat : Int), .int .u64 (s.c.toNat : Int), .int .u64 (s.d.toNat : Int), .int .u64 (s.e.toNat : Int), .int .u64 (s.f.toNat : Int), .int .u64 (s.g.toNat : Int), .int .u64 (s.h.toNat : Int), .slice A n c, .int .u64 (m : Int)]
    #[.int .u64 0, .int .u64 0, .int .u64 0, .int .u64 0, .int .u64 0, .int .u64 0, .int .u64 0, .int .u64 0, .slice none 0 0, .int .u64 0] rfl rfl
  obtain ⟨H0, H1, HB, HS⟩ := HST
  clear hmay
  have HG : Hid (∀ W, Below w.heap.size w W → Calls Tryd.prog 41 #[hv s A n c m, .slice A2 n2 c2] W (GaveH W (absorb s (r ++ b)) N' (left (r ++ b)) ((m + n2) % 18446744073709551616))) := Lib.hid fun W hW =>
    goOn_any A A2 n c n2 c2 m B N' r b s W (h.upTo hW hB) (h2.upTo hW hB) (Nat.le_trans hB hW.size) hn hm2 hN' (L0.keep hW L0.size)
  generalize (m + n2) % 18446744073709551616 = mm at *
  clear hN'
  rw [hv_cells]
  unfold hcells
  go_enter Tryd.func22, Tryd.ntmps22
  go_wp2_with (first
    | (with_reducible refine wpList_load_h rfl (.tmp 2) rfl w.heap.size rfl s A n c m (by with_unfolding_all exact H0) Tryd.underlying45 Tryd.infoH ?_)
    | (go_at_call 40
       refine (HT.out _).mono ?_
       rintro e w3 ⟨rfl, hb3⟩
       have G0 := H0.keep hb3 H0.lt
       have G1 := H1.keep hb3 H1.lt
       have GB := HB.trans (hb3.mono HB.size))
    | (with_reducible refine wpList_load_h rfl (.tmp 2) rfl w.heap.size rfl s A n c m G0 Tryd.underlying45 Tryd.infoH ?_)
    | (go_at_call 41
       refine (HG.out _ GB).mono ?_
       rintro e w4 ⟨A4, c4, rfl, hs4, hb4⟩
       have F1 := G1.keep hb4 G1.lt
       have FB := GB.trans (hb4.mono GB.size))
    | (with_reducible refine wpList_store_h rfl (.tmp 4) (.tmp 16) rfl (w.heap.size + 1) _ A4 N' c4 mm rfl rfl sz none 0 0 0 F1 Tryd.infoH w.heap.size w FB (by omega) ?_; intro w5 Hg ho hsz hb5))
  have hz := G1.lt
  exact bodyPost_ret (results_cell_tmp rfl _ _ (w.heap.size + 1) _ _ _ _ rfl Hg Tryd.underlying45 rfl (by rw [Tryd.infoH]; rfl)) rfl
    ⟨A4, c4, rfl, (hs4.keep (Nat.le_of_eq hsz.symm) (fun b _ hx => ho b (by omega))).imp (fun b _ hx => Nat.le_trans GB.size hx), hb5⟩

set_option maxRecDepth 100000 in
set_option maxHeartbeats 1000000 in
theorem More_bad (A A2 : Option Addr) (n c n2 c2 m B : Nat) (r : List UInt8) (s : St) (w : World) (h : Sees w B A n c (r.map bv)) (hB : B ≤ w.heap.size) (hn : n ≤ 1000000) (hmay : ((n : Int) == (m : Int) % 128) = false) :
    Calls Tryd.prog 22 #[hv s A n c m, .slice A2 n2 c2] w (GaveM w s n r m 1) := by
  have HT : Hid (∀ W, Calls Tryd.prog 40 #[hv s A n c m] W fun e w' => e = .returned (.bool false) ∧ Below W.heap.size W w') := Lib.hid fun W => by
    have := isText_any s A n c m W (by omega)
    rwa [hmay] at this
  have HST := h_start w s A n c m #[.int .u64 (s.a.toNat : Int), .int .u64 (s.b.toNat : Int), .int .u64 (s.c.toNat : Int), .int .u64 (s.d.toNat : Int), .int .u64 (s.e.toNat : Int), .int .u64 (s.f.toNat : Int), .int .u64 (s.g.toNat : Int), .int .u64 (s.h.toNat : Int), .slice A n c, .int .u64 (m : Int)]
    #[.int .u64 0, .int .u64 0, .int .u64 0, .int .u64 0, .int .u64 0, .int .u64 0, .int .u64 0, .int .u64 0, .slice none 0 0, .int .u64 0] rfl rfl
  obtain ⟨H0, H1, HB, HS⟩ := HST
  clear hmay
  rw [hv_cells]
  unfold hcells
  go_enter Tryd.func22, Tryd.ntmps22
  go_wp2_with (first
    | (with_reducible refine wpList_load_h rfl (.tmp 2) rfl w.heap.size rfl s A n c m (by with_unfolding_all exact H0) Tryd.underlying45 Tryd.infoH ?_)
    | (go_at_call 40
       refine (HT.out _).mono ?_
       rintro e w3 ⟨rfl, hb3⟩
       have G0 := H0.keep hb3 H0.lt
       have G1 := H1.keep hb3 H1.lt
       have GB := HB.trans (hb3.mono HB.size)
       have hs3 := h.upTo GB hB
       have hz := G1.lt
       obtain ⟨_, _, _, _, _, _, _, _, g8, _⟩ := G0.all)
    | (go_at_call 32
       refine (Clone_any _ _ _ _ _ _ hs3 (Nat.le_trans hB GB.size) (by omega)).mono ?_
       rintro e w4 ⟨A4, c4, rfl, hown, hb4⟩
       have F0 := G0.keep hb4 G0.lt
       have F1 := G1.keep hb4 G1.lt
       have FB := GB.trans (hb4.mono GB.size)
       have hs4 := (seesIn_of_own hown)
       obtain ⟨_, _, _, _, _, _, _, _, f8, _⟩ := F0.all
       have fz := F0.frozen 8
       have L := F0.setRest A4 n c4
       have Z := F1.setOther ⟨w.heap.size, 8, none⟩ (.slice A4 n c4) (by simp)
       have FB2 := FB.setCell (p := ⟨w.heap.size, 8, none⟩) (Nat.le_refl _) (.slice A4 n c4))
    | (with_reducible refine wpList_load_h rfl (.tmp 2) rfl w.heap.size rfl s A4 n c4 m L Tryd.underlying45 Tryd.infoH ?_)
    | (with_reducible refine wpList_store_h rfl (.tmp 4) (.tmp 13) rfl (w.heap.size + 1) s A4 n c4 m rfl rfl sz none 0 0 0 Z Tryd.infoH w.heap.size w FB2 (by omega) ?_; intro w5 Hg ho hsz hb5))
  exact bodyPost_ret (results_cell_tmp rfl _ _ (w.heap.size + 1) _ _ _ _ rfl Hg Tryd.underlying45 rfl (by rw [Tryd.infoH]; rfl)) rfl
    ⟨A4, c4, rfl, (hs4.keep (by rw [hsz, World.size_setCell]; exact Nat.le_refl _) (fun b _ hx => (ho b (by omega)).trans (heap_setCell_other w4 _ b _ (show b ≠ w.heap.size by omega)))).imp (fun b _ hx => Nat.le_trans GB.size hx), hb5⟩
end Go.Proofs.YtppaffamlfghjaaDoor
