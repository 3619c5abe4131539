/-
  A text goes on: the program's way.
-/
import Derived.Test.YtppaffamlfghjaaDoorWideIter
import Derived.Test.YtppaffamlfghjaaDoorWideAppend
import Derived.Sort.CutIn
namespace Go.Proofs.YtppaffamlfghjaaDoor
open Go.RowKit Go.Shelf
attribute [local go_sem] Oper.semAt_some

/-- A state stored into a text's first cells. -/
def stateIn (W : World) (g : Nat) (t : St) : World := (((((((W.setCell ⟨g, 0, none⟩ (.int .u64 (t.a.toNat : Int))).setCell ⟨g, 1, none⟩ (.int .u64 (t.b.toNat : Int))).setCell ⟨g, 2, none⟩ (.int .u64 (t.c.toNat : Int))).setCell ⟨g, 3, none⟩ (.int .u64 (t.d.toNat : Int))).setCell ⟨g, 4, none⟩ (.int .u64 (t.e.toNat : Int))).setCell ⟨g, 5, none⟩ (.int .u64 (t.f.toNat : Int))).setCell ⟨g, 6, none⟩ (.int .u64 (t.g.toNat : Int))).setCell ⟨g, 7, none⟩ (.int .u64 (t.h.toNat : Int))
theorem stateIn_oth (W : World) (g : Nat) (t : St) (k : Nat) (hk : k ≠ g) : (stateIn W g t).heap[k]? = W.heap[k]? := by
  unfold stateIn
  rw [heap_setCell_other _ _ k _ hk, heap_setCell_other _ _ k _ hk, heap_setCell_other _ _ k _ hk, heap_setCell_other _ _ k _ hk, heap_setCell_other _ _ k _ hk, heap_setCell_other _ _ k _ hk, heap_setCell_other _ _ k _ hk, heap_setCell_other _ _ k _ hk]
theorem stateIn_size (W : World) (g : Nat) (t : St) : (stateIn W g t).heap.size = W.heap.size := by
  simp [stateIn]
theorem stateIn_below {D : Nat} {w W : World} (h : Below D w W) (g : Nat) (t : St) (hg : D ≤ g) : Below D w (stateIn W g t) :=
  (((((((h.setCell (p := ⟨g, 0, none⟩) hg _).setCell (p := ⟨g, 1, none⟩) hg _).setCell (p := ⟨g, 2, none⟩) hg _).setCell (p := ⟨g, 3, none⟩) hg _).setCell (p := ⟨g, 4, none⟩) hg _).setCell (p := ⟨g, 5, none⟩) hg _).setCell (p := ⟨g, 6, none⟩) hg _).setCell (p := ⟨g, 7, none⟩) hg _

/-- Between two blocks. -/
def GoI (w : World) (s : St) (A : Option Addr) (n c m : Nat) (pre : List Blk) (W : World) : Prop :=
  HoldsH W w.heap.size (folded s pre) A n c m ∧ HoldsH W (w.heap.size + 1) sz none 0 0 0 ∧ Below w.heap.size w W
theorem GoI.keep {w A' B' : World} {s : St} {A : Option Addr} {n c m : Nat} {pre : List Blk} (h : GoI w s A n c m pre A') (hb : Below A'.heap.size A' B') : GoI w s A n c m pre B' :=
  ⟨h.1.keep hb h.1.lt, h.2.1.keep hb h.2.1.lt, h.2.2.trans (hb.mono h.2.2.size)⟩
theorem GoI.put {w A' : World} {s : St} {A : Option Addr} {n c m l : Nat} {o : Obj} (o' : Obj) {pre : List Blk} (h : GoI w s A n c m pre A') (hl : w.heap.size + 1 < l) (_ : A'.heap[l]? = some o) : GoI w s A n c m pre (A'.putObj l o') :=
  ⟨(World.putObj_heap_other (by omega)).trans h.1, (World.putObj_heap_other (by omega)).trans h.2.1, h.2.2.grown (grownBy_putObj' A' l o') h.2.2.size (fun k e => by cases e; omega)⟩
/-- What a block more leaves. -/
theorem go_step_in {w W w5 : World} {s : St} {A : Option Addr} {n c m B : Nat} {pre : List Blk} {x : Blk} (h : GoI w s A n c m pre W) (hb : Below W.heap.size W w5) :
    KeepsFrom B W (stateIn w5 w.heap.size (blk (folded s pre) x.l)) ∧ KeepsC w.heap.size W (stateIn w5 w.heap.size (blk (folded s pre) x.l)) ∧ GoI w s A n c m (pre ++ [x]) (stateIn w5 w.heap.size (blk (folded s pre) x.l)) := by
  have h5 := h.keep hb
  have hg : ∀ k o, W.heap[k]? = some o → w5.heap[k]? = some o := fun k o ho => (hb.block k (Array.getElem?_eq_some_iff.1 ho).1).trans ho
  refine ⟨⟨by rw [stateIn_size]; exact hb.size, fun k o _ ho hc => ?_⟩, ⟨by rw [stateIn_size]; exact hb.size, fun k o hk ho _ => (stateIn_oth _ _ _ k hk).trans (hg k o ho)⟩, ?_, ?_, stateIn_below h5.2.2 _ _ (Nat.le_refl _)⟩
  · refine (stateIn_oth _ _ _ k ?_).trans (hg k o ho)
    rintro rfl
    rw [show W.heap[w.heap.size]? = _ from h.1] at ho
    cases ho
    cases hc
  · rw [folded_snoc]; exact h5.1.setState _
  · exact (stateIn_oth _ _ _ _ (by omega)).trans h5.2.1

set_option maxRecDepth 100000 in
set_option maxHeartbeats 2000000 in
theorem goOn_any (A A2 : Option Addr) (n c n2 c2 m B N' : Nat) (r b : List UInt8) (s : St) (w : World) (h : Sees w B A n c (r.map bv)) (h2 : Sees w B A2 n2 c2 (b.map bv)) (hB : B ≤ w.heap.size) (hn : n < 128) (hm2 : n2 ≤ 1000000) (hN' : (left (r ++ b)).length = N') (L : Laid w) :
    Calls Tryd.prog 41 #[hv s A n c m, .slice A2 n2 c2] w (GaveH w (absorb s (r ++ b)) N' (left (r ++ b)) ((m + n2) % 18446744073709551616)) := by
  have hNv := Lib.hid hN'
  clear hN'
  obtain ⟨W2, hW2⟩ : ∃ W2, W2 = ((w.alloc (.cells #[.int .u64 (s.a.toNat : Int), .int .u64 (s.b.toNat : Int), .int .u64 (s.c.toNat : Int), .int .u64 (s.d.toNat : Int), .int .u64 (s.e.toNat : Int), .int .u64 (s.f.toNat : Int), .int .u64 (s.g.toNat : Int), .int .u64 (s.h.toNat : Int), .slice A n c, .int .u64 (m : Int)] 45)).alloc (.cells #[.int .u64 0, .int .u64 0, .int .u64 0, .int .u64 0, .int .u64 0, .int .u64 0, .int .u64 0, .int .u64 0, .slice none 0 0, .int .u64 0] 45)) := ⟨_, rfl⟩
  obtain ⟨H0, H1, HB, HS⟩ := h_start w s A n c m #[.int .u64 (s.a.toNat : Int), .int .u64 (s.b.toNat : Int), .int .u64 (s.c.toNat : Int), .int .u64 (s.d.toNat : Int), .int .u64 (s.e.toNat : Int), .int .u64 (s.f.toNat : Int), .int .u64 (s.g.toNat : Int), .int .u64 (s.h.toNat : Int), .slice A n c, .int .u64 (m : Int)]
    #[.int .u64 0, .int .u64 0, .int .u64 0, .int .u64 0, .int .u64 0, .int .u64 0, .int .u64 0, .int .u64 0, .slice none 0 0, .int .u64 0] rfl rfl
  rw [← hW2] at H0 H1 HB HS
  have HB4 := (HB.alloc HB.size (.cells #[.slice A n c] 24)).alloc (by rw [World.size_alloc, HS]; omega) (.cells #[.slice A2 n2 c2] 24)
  have HS4 : ((W2.alloc (.cells #[.slice A n c] 24)).alloc (.cells #[.slice A2 n2 c2] 24)).heap.size = w.heap.size + 1 + 1 + 1 + 1 := by rw [World.size_alloc, World.size_alloc, HS]
  have I0 : GoI w s A n c m [] ((W2.alloc (.cells #[.slice A n c] 24)).alloc (.cells #[.slice A2 n2 c2] 24)) := ⟨(H0.alloc _).alloc _, (H1.alloc _).alloc _, HB4⟩
  have b1 := ((Boxed.new W2 24 (.slice A n c)).alloc (.cells #[.slice A2 n2 c2] 24)).cell
  have b2 := (Boxed.new (W2.alloc (.cells #[.slice A n c] 24)) 24 (.slice A2 n2 c2)).cell
  rw [HS] at b1
  rw [World.size_alloc, HS] at b2
  have hr4 := (h.upTo HB4 hB).more hB
  have hb4 := (h2.upTo HB4 hB).more hB
  clear H0 H1 HB
  rw [hv_cells]
  refine (callsIn_wide (n := 6)).1 ?_
  refine callsIn_of_wp_marks Tryd.func41 rfl trivial ?_ rfl
  simp only [Tryd.ntmps41, List.size_toArray, List.length_cons, List.length_nil, Nat.reduceAdd, Nat.reduceSub, Array.replicate_succ, Array.replicate_zero, List.push_toArray, List.append_toArray, List.nil_append, List.cons_append]
  unfold hcells
  gi_wp2_with (refine ⟨trivial, ?_⟩; gi_at_call 52; refine (blocks_in _ _ _ _ _ _ _ _).mono ?_; rintro e w' ⟨rfl, rfl⟩)
  rw [← hW2]
  have hZ4 := Lib.hid HS4
  refine range_goes (by omega) (gf := 63) (lb := #[.pointer (some ⟨w.heap.size + 1 + 1, 0, none⟩), .pointer (some ⟨w.heap.size + 1 + 1 + 1, 0, none⟩)]) rfl (enters_of Tryd.func63 (by kernel_rfl) rfl) (fun _ => rfl)
    (blocks1_goes 5 (by omega) w.heap.size (w.heap.size + 1 + 1) (w.heap.size + 1 + 1 + 1) A A2 n c n2 c2 r b _ hr4 hb4 (by rw [HS4]; omega) hn hm2 b1 b2 (by omega) (by omega))
    (GoI w s A n c m) (fun _ _ _ hi hb => hi.keep hb) (fun _ _ l o o' hi hl ho _ => hi.put o' (by rw [HS4] at hl; omega) ho)
    (fun x A' l o o' hv hl ho => by unfold Blk.vis; rw [World.putObj_size]; exact Sees.put o' hv hl ho) I0
    (fun x => { tmps := #[.agg #[.int .u64 (s.a.toNat : Int), .int .u64 (s.b.toNat : Int), .int .u64 (s.c.toNat : Int), .int .u64 (s.d.toNat : Int), .int .u64 (s.e.toNat : Int), .int .u64 (s.f.toNat : Int), .int .u64 (s.g.toNat : Int), .int .u64 (s.h.toNat : Int), .slice A n c, .int .u64 (m : Int)], .slice A2 n2 c2, .pointer (some ⟨w.heap.size, 0, none⟩), undef, .pointer (some ⟨w.heap.size + 1, 0, none⟩), .slice x.A 128 x.c, .pointer (some ⟨w.heap.size, 8, none⟩), .slice A n c, .slice A2 n2 c2, .func (.func 63) #[] #[.pointer (some ⟨w.heap.size + 1 + 1, 0, none⟩), .pointer (some ⟨w.heap.size + 1 + 1 + 1, 0, none⟩)], .slice x.A 128 x.c, undef, undef, undef, undef, undef, undef, undef, undef, undef, undef, undef, undef, undef, undef, undef, undef, undef, undef], defers := [] }) ?assign ?body ?done
  case assign =>
    intro l x W K hK
    unfold Blk.enc
    gi_wp2
    exact hK
  case body =>
    clear b1 b2 hr4 hb4 I0 HB4 HS4 HS hW2
    rintro l pre x W hI hv
    have hst := Lib.hid (fun Bk w5 (hb : Below W.heap.size W w5) => go_step_in (B := Bk) (x := x) hI hb)
    have hH := hI.1
    have hHl := hH.lt
    have BI := Lib.hid (blockIn_any x.A 128 x.c W.heap.size x.l (folded s pre) W hv (Nat.le_refl _) (Nat.le_refl _) (by omega) (L.keep hI.2.2 L.size))
    generalize folded s pre = t at *
    rw [sv_eq, sv_eq] at BI
    obtain ⟨k0, k1, k2, k3, k4, k5, k6, k7, k8, k9⟩ := hH.all
    have hHH := Lib.hid hH
    have hII := Lib.hid hI
    clear hH hI
    gi_wp2_with (refine ⟨trivial, ?_⟩; gi_at_call 53; refine (CallsIn.inRound l (callsIn_wide.2 BI.out)).mono ?_; rintro e w5 ⟨rfl, hb5⟩; have h5 := HoldsH.keep hHH.out hb5 hHl; have h5l := h5.lt; obtain ⟨k0, k1, k2, k3, k4, k5, k6, k7, k8, k9⟩ := h5.all; have f0 := h5.frozen 0; have f1 := h5.frozen 1; have f2 := h5.frozen 2; have f3 := h5.frozen 3; have f4 := h5.frozen 4; have f5 := h5.frozen 5; have f6 := h5.frozen 6; have f7 := h5.frozen 7)
    exact hst.out _ w5 hb5
  case done =>
    clear b1 b2 hr4 hb4 I0 HB4 HS4 HS
    rintro D xs W hD hall ⟨hH, hR, hBW⟩ hK
    rw [hall s] at hH
    have hL := Lib.hid (fun W (hW : Below w.heap.size w W) => leftOver_any A A2 n c n2 c2 B N' r b W (h.upTo hW hB) (h2.upTo hW hB) (Nat.le_trans hB hW.size) hn hm2 hNv.out)
    generalize absorb s (r ++ b) = t at *
    generalize left (r ++ b) = rest at *
    have k8 : W.cell? ⟨w.heap.size, 8, none⟩ = some (.slice A n c) := hH.at 8
    obtain ⟨mm, hmm⟩ : ∃ mm, mm = (m + n2) % 18446744073709551616 := ⟨_, rfl⟩
    have hwm : IntKind.u64.wrap ((m : Int) + (n2 : Int)) = ((mm : Nat) : Int) := by rw [IntKind.wrap_u64]; omega
    have hwm2 : IntKind.u64.wrap ((m : Int) + IntKind.u64.wrap (n2 : Int)) = ((mm : Nat) : Int) := by rw [IntKind.wrap_u64, IntKind.wrap_u64]; omega
    have hMM := Lib.hid hmm
    clear hmm
    have hHH := Lib.hid hH
    have hRR := Lib.hid hR
    have hDw := Lib.hid hD
    have hBB := Lib.hid hBW
    clear hH hR
    gi_upto_region 6 with (first
      | (refine ⟨trivial, ?_⟩; gi_at_call 54; refine (callsIn_wide.2 (hL.out _ hBB.out)).mono ?_; rintro e w5 ⟨A5, c5, rfl, hS5, hb5⟩; have h5 := HoldsH.keep hHH.out hb5 hHH.out.lt; have r5 := HoldsH.keep hRR.out hb5 hRR.out.lt; have k58 : w5.cell? ⟨w.heap.size, 8, none⟩ = some (.slice A n c) := h5.at 8; have k59 : w5.cell? ⟨w.heap.size, 9, none⟩ = some (.int .u64 (m : Int)) := h5.at 9; have f8 := h5.frozen 8; have f9 := h5.frozen 9; have l5 := h5.lt)
      | fail)
    have sz5 := hb5.size
    have h6 := (h5.setRest A5 N' c5).setMany mm
    have r6 := (r5.setOther ⟨w.heap.size, 8, none⟩ (.slice A5 N' c5) (by simp)).setOther ⟨w.heap.size, 9, none⟩ (.int .u64 (mm : Int)) (by simp)
    have B6 := ((hBB.out.trans (hb5.mono hBB.out.size)).setCell (p := ⟨w.heap.size, 8, none⟩) (Nat.le_refl _) (.slice A5 N' c5)).setCell (p := ⟨w.heap.size, 9, none⟩) (Nat.le_refl _) (.int .u64 (mm : Int))
    have hgW := hHH.out.lt
    have S6 := SeesIn.keep (w' := (w5.setCell ⟨w.heap.size, 8, none⟩ (.slice A5 N' c5)).setCell ⟨w.heap.size, 9, none⟩ (.int .u64 (mm : Int))) hS5 (by simp) (fun k _ hk => by rw [heap_setCell_other _ _ k _ (by simp; omega), heap_setCell_other _ _ k _ (by simp; omega)])
    have hKd : ((w5.setCell ⟨w.heap.size, 8, none⟩ (.slice A5 N' c5)).setCell ⟨w.heap.size, 9, none⟩ (.int .u64 (mm : Int))).heap[D]? = some (.deferred (some [])) := by
      have hd : w.heap.size + 1 + 1 ≤ D := by have := hDw.out; rw [hZ4.out] at this; omega
      rw [heap_setCell_other _ _ D _ (by simp; omega), heap_setCell_other _ _ D _ (by simp; omega), hb5.block D (Array.getElem?_eq_some_iff.1 hK).1]
      exact hK
    generalize ((w5.setCell ⟨w.heap.size, 8, none⟩ (.slice A5 N' c5)).setCell ⟨w.heap.size, 9, none⟩ (.int .u64 (mm : Int))) = W6 at *
    refine wpIn_wide.2 ?_
    go_wp2_with (first
      | (with_reducible refine wpList_load_h rfl (.tmp 2) rfl w.heap.size rfl t A5 N' c5 mm h6 Tryd.underlying45 Tryd.infoH ?_)
      | (with_reducible refine wpList_store_h rfl (.tmp 4) (.tmp 28) rfl (w.heap.size + 1) t A5 N' c5 mm rfl rfl sz none 0 0 0 r6 Tryd.infoH w.heap.size w B6 (by omega) ?_; intro w7 Hg ho hsz hb7)
      | fail)
    gi_wp2
    have hd1 : w.heap.size + 1 < D := by have := hDw.out; rw [hZ4.out] at this; omega
    have hK7 : w7.heap[D]? = some (.deferred (some [])) := (ho D (by omega)).trans hKd
    refine ⟨by simp, .inl ⟨_, _, rfl, run_takeDeferred hK7, ?_⟩⟩
    have Hg8 : HoldsH (w7.putObj D (.deferred none)) (w.heap.size + 1) t A5 N' c5 mm := (World.putObj_heap_other (by omega)).trans Hg
    have hrl := hRR.out.lt
    have S7 : SeesIn w7 A5 N' c5 (rest.map bv) (fun k => W.heap.size ≤ k) := SeesIn.keep S6 (Nat.le_of_eq hsz.symm) (fun k _ hk => ho k (by omega))
    refine ⟨_, results_cell_row rfl _ _ (w.heap.size + 1) _ _ _ _ rfl Hg8 Tryd.underlying45 rfl (by rw [Tryd.infoH]; rfl), A5, c5, by rw [← hMM.out]; rfl, ⟨by rw [World.putObj_size]; exact Sees.put _ S7.1 hK7 rfl, fun k o e hn => Nat.le_trans hBB.out.size (S7.2 k o e hn)⟩, ?_⟩
    exact hb7.grown (grownBy_putObj' w7 D (.deferred none)) hb7.size (fun k e => by cases e; omega)
end Go.Proofs.YtppaffamlfghjaaDoor
