/-
  A range over a function whose body goes on always, and reads what it is handed: what is handed need be readable only when it is handed over.
-/
import Derived.Test.YtppaffamlfghjaaDoorWideLeft
import Derived.RangeFuncNested
import Derived.RangeFuncBound
import Derived.RangeFuncBox
import Derived.RangeFuncCalls
import Derived.RangeFuncLeaves
import Derived.Shelf.Abstract
import Derived.Shelf.RegionOpen
import Derived.WalkKit
import Derived.OwnWalkIn
import Derived.TacticsInMore
import Derived.LoopNIn
import Derived.LoopIn
namespace Go.Proofs.YtppaffamlfghjaaDoor
open Go.RowKit Go.Shelf

/-- All that is cells lies as it lay, but for block g. -/
def KeepsC (g : Nat) (W W' : World) : Prop := W.heap.size ≤ W'.heap.size ∧ ∀ k o, k ≠ g → W.heap[k]? = some o → o.isCells = true → W'.heap[k]? = some o
theorem KeepsC.refl (g : Nat) (W : World) : KeepsC g W W := ⟨Nat.le_refl _, fun _ _ _ h _ => h⟩
theorem KeepsC.trans {g : Nat} {X Y Z : World} (h : KeepsC g X Y) (k : KeepsC g Y Z) : KeepsC g X Z := ⟨Nat.le_trans h.1 k.1, fun i o hi ho hc => k.2 i o hi (h.2 i o hi ho hc) hc⟩
theorem KeepsC.of_below {g : Nat} {W W' : World} (hb : Below W.heap.size W W') : KeepsC g W W' := ⟨hb.size, fun k _ _ ho _ => (hb.block k (Array.getElem?_eq_some_iff.1 ho).1).trans ho⟩
theorem KeepsC.put {g l : Nat} {W : World} {o : Obj} (o' : Obj) (hl : W.heap[l]? = some o) (ho : o.isCells = false) : KeepsC g W (W.putObj l o') :=
  ⟨by rw [World.putObj_size]; exact Nat.le_refl _, fun k x _ hx hc => (World.putObj_heap_other (by rintro rfl; rw [hl] at hx; cases hx; rw [ho] at hc; cases hc)).trans hx⟩
theorem KeepsC.cell {g : Nat} {W W' : World} {a : Addr} {v : Value} (h : KeepsC g W W') (hg : a.block ≠ g) (hc : W.cell? a = some v) : W'.cell? a = some v := by
  obtain ⟨o, ho, hi⟩ := cells_of_cell hc
  exact (cell_of_heap ((h.2 _ o hg ho hi).trans ho.symm)).trans hc
theorem KeepsC.sees {g : Nat} {W W' : World} {B n c : Nat} {A : Option Addr} {xs : List Value} (h : KeepsC g W W') (hs : Sees W B A n c xs) (hB : B ≤ g) : Sees W' B A n c xs :=
  ⟨hs.len, hs.le, hs.max, hs.nil, fun hp => by
    obtain ⟨b, o, e, hb, hc⟩ := hs.at_ hp
    exact ⟨b, o, e, hb, fun j u hu => h.cell (by show b ≠ g; omega) (hc j u hu)⟩⟩
theorem Sees.put {W : World} {B n c l : Nat} {A : Option Addr} {xs : List Value} {o : Obj} (o' : Obj) (hs : Sees W B A n c xs) (hl : W.heap[l]? = some o) (ho : o.isCells = false) : Sees (W.putObj l o') B A n c xs :=
  ⟨hs.len, hs.le, hs.max, hs.nil, fun hp => by
    obtain ⟨b, of, e, hb, hc⟩ := hs.at_ hp
    exact ⟨b, of, e, hb, fun j u hu => KeepsC.cell (g := b + 1) (KeepsC.put o' hl ho) (by show b ≠ b + 1; omega) (hc j u hu)⟩⟩

/-- What an iterator gives whose rounds all go on. -/
def Goes {α : Type} (P : Program) (n gf : Nat) (lb : Array Value) (encs : α → Array Value) (V : α → World → Prop) (S : List α → Prop) (n₀ : Nat) (w : World) : Prop :=
  ∀ (l : Nat) (J : List α → World → Prop) (W : World), Below w.heap.size w W → (∀ pre A B, J pre A → Below A.heap.size A B → J pre B) →
    (∀ pre x W1, J pre W1 → V x W1 → YieldAt Fence.wide (n - 1) P l (encs x) W1 fun e W' => e = .returned (.bool true) ∧ J (pre ++ [x]) W' ∧ KeepsC n₀ W1 W') →
    J [] W → CallsIn Fence.wide n P gf (#[.func (.yield l) #[] #[]] ++ lb) W fun e W' => (∃ v, e = .returned v) ∧ ∃ xs, S xs ∧ J xs W'

theorem range_goes {P : Program} {α : Type} {g : Operand} {ps : Array Tmp} {assign body : Code} {Q : Exit → Act → World → Prop} {a : Act} {w : World} {n : Nat} (h1 : 1 ≤ n) {gf : Nat} {lb : Array Value} (hg : a.eval g = .func (.func gf) #[] lb)
    (eg : ∀ args w, (callFunc gf args).run P w = .ok (.enter gf args) w) {encs : α → Array Value} (hps : ∀ x, (encs x).size = ps.size) {V : α → World → Prop} {S : List α → Prop} {n₀ : Nat}
    (hseq : Goes P (n - 1) gf lb encs V S n₀ w) (I : List α → World → Prop) (hIb : ∀ pre A B, I pre A → Below A.heap.size A B → I pre B)
    (hIp : ∀ pre A l o o', I pre A → w.heap.size ≤ l → A.heap[l]? = some o → o.isCells = false → I pre (A.putObj l o')) (hVp : ∀ x A l o o', V x A → A.heap[l]? = some o → o.isCells = false → V x (A.putObj l o'))
    (h0 : I [] w) (a₁ : α → Act)
    (hassign : ∀ (l : Nat) (x : α) (W : World) (K : Act → World → Prop), K (a₁ x) W → assign.wpIn (Fence.wide.inRound l) (n - 1 - 1) P (Exit.then K (fun _ _ _ => False)) { tmps := (ps.zip (encs x)).foldl (fun t (p, v) => t.setIfInBounds p v) a.tmps, defers := [] } W)
    (hbody : ∀ (l : Nat) (pre : List α) (x : α) (W : World), I pre W → V x W → body.wpIn (Fence.wide.inRound l) (n - 1 - 1) P (fun e _ W' => e = .normal ∧ KeepsFrom w.heap.size W W' ∧ KeepsC n₀ W W' ∧ I (pre ++ [x]) W') (a₁ x) W)
    (hdone : ∀ (D : Nat) (xs : List α) (W : World), w.heap.size ≤ D → S xs → I xs W → W.heap[D]? = some (.deferred (some [])) → Q .normal { a with defers := { target := .collected D, args := #[] } :: a.defers } W) :
    (Code.rangeFunc g ps assign body).wpIn Fence.wide n P Q a w := by
  refine wpIn_rangeFunc fun fn hfn => ?_
  -- the loop's record: its state and the jump that is pending
  obtain ⟨rec, hrec⟩ : ∃ rec : LoopState → Option Code → Loop, rec = fun st pe => { state := st, pending := pe, fn, tmps := a.tmps, params := ps, assign, body, defers := w.heap.size } := ⟨_, rfl⟩
  obtain ⟨X, hX⟩ : ∃ X, X = (w.alloc (.deferred (some []))).alloc (.loop (rec .ready none)) := ⟨_, rfl⟩
  have bX : Below w.heap.size w X := hX ▸ ((Below.refl _ w).alloc (Nat.le_refl _) _).alloc (by simp) _
  have lX : X.heap[w.heap.size + 1]? = some (.loop (rec .ready none)) := by
    have := World.alloc_heap_new (w.alloc (.deferred (some []))) (.loop (rec .ready none))
    rw [World.size_alloc] at this
    rw [hX]; exact this
  have dX : X.heap[w.heap.size]? = some (.deferred (some [])) := by
    rw [hX]; exact (Below.heap_alloc _ _ _ (by simp)).trans (World.alloc_heap_new w _)
  refine ⟨w.heap.size + 1, [{ target := .collected w.heap.size, args := #[] }], X, { target := .fn (.func gf) lb, args := #[.func (.yield (w.heap.size + 1)) #[] #[]] }, X, gf, #[.func (.yield (w.heap.size + 1)) #[] #[]] ++ lb, X, ?_, ?_, ?_, ?_, fun _ => h1, ?_⟩
  · rw [hX, hrec]; exact run_enterLoop_outer _ _ _ _ _
  · simp only [resolve, hg]; simp [go_sem]
  · intro f' _; trivial
  · simp [invoke, go_sem, eg]
  refine (hseq (w.heap.size + 1) (fun pre W => I pre W ∧ W.heap[w.heap.size + 1]? = some (.loop (rec .ready none)) ∧ W.heap[w.heap.size]? = some (.deferred (some []))) X bX ?_ ?_ ⟨hIb _ _ _ h0 bX, lX, dX⟩).mono ?_
  · rintro pre A B ⟨hi, hl, hd⟩ hb
    exact ⟨hIb _ _ _ hi hb, (hb.block _ (Array.getElem?_eq_some_iff.1 hl).1).trans hl, (hb.block _ (Array.getElem?_eq_some_iff.1 hd).1).trans hd⟩
  · rintro pre x W ⟨hi, hl, hd⟩ hv
    have hlt := (Array.getElem?_eq_some_iff.1 hl).1
    have hy := run_yield (P := P) (args := encs x) hl (by rw [hrec]; exact hps x)
    rw [hrec] at hy
    refine ⟨fn, _, assign, body, hy, roundIn_of_wpIn hfn (hassign _ x W _ ⟨_, run_beginRound hl (by rw [hrec]), ?_⟩)⟩
    -- while the round runs the record is busy
    obtain ⟨Y, hY⟩ : ∃ Y, Y = W.putObj (w.heap.size + 1) (.loop { rec .ready none with state := .busy }) := ⟨_, rfl⟩
    have lY : Y.heap[w.heap.size + 1]? = some (.loop { rec .ready none with state := .busy }) := hY ▸ World.putObj_heap_same hlt
    have dY : Y.heap[w.heap.size]? = some (.deferred (some [])) := hY ▸ (World.putObj_heap_other (by omega)).trans hd
    have bY : KeepsC n₀ W Y := hY ▸ KeepsC.put _ hl rfl
    have iY : I pre Y := hY ▸ hIp _ _ _ _ _ hi (by omega) hl rfl
    have vY : V x Y := hY ▸ hVp _ _ _ _ _ hv hl rfl
    rw [← hY]
    refine wpIn_mono (hbody _ pre x Y iY vY) ?_
    rintro e a3 Z ⟨rfl, hk, hb, hi3⟩
    have lZ := hk.same _ _ (by omega) lY rfl
    have dZ := hk.same _ _ (Nat.le_refl _) dY rfl
    have hr := run_endRound (P := P) none lZ
    have lZ2 : (Z.putObj (w.heap.size + 1) (.loop (rec .ready none))).heap[w.heap.size + 1]? = some (.loop (rec .ready none)) := World.putObj_heap_same (Array.getElem?_eq_some_iff.1 lZ).1
    rw [hrec] at hr lZ2 ⊢
    rw [hrec] at lZ
    exact ⟨_, _, hr, rfl, ⟨hIp _ _ _ _ _ hi3 (by omega) lZ rfl, lZ2, (World.putObj_heap_other (by omega)).trans dZ⟩, (bY.trans hb).trans (KeepsC.put _ lZ rfl)⟩
  · rintro e Z ⟨⟨v, rfl⟩, xs, hS, hi, hl, hd⟩
    have hr := run_endLoop (P := P) hl (by rw [hrec]; simp)
    rw [hrec] at hr hl
    exact ⟨none, _, hr, hdone _ xs _ (Nat.le_refl _) hS (hIp _ _ _ _ _ hi (by omega) hl rfl) ((World.putObj_heap_other (by omega)).trans hd)⟩
end Go.Proofs.YtppaffamlfghjaaDoor
