/-
  The document's numbers modulo P: a root of a quotient, its first steps.
-/
import Derived.Deep.CutBlock
import Derived.Deep.DeepCutAuto
import Derived.Test.YtlfkohanfeejfaaDoorMas
namespace Go.Proofs.YtlfkohanfeejfaaDoor
open Go.RowKit

section
attribute [local go_sem ↓] load_fe

/-- The blocks that a root's call begins with. -/
structure RB (w : World) (m n : Nat) (W : World) : Prop where
  a : HoldsN W 24 w.heap.size (lims m)
  b : HoldsN W 24 (w.heap.size + 1) (lims n)
  c : HoldsN W 24 (w.heap.size + 2) (lims 0)
  d : Below w.heap.size w W
theorem RB.size {w W : World} {m n : Nat} (h : RB w m n W) : w.heap.size + 3 ≤ W.heap.size := h.c.lt
theorem RB.drew {w W : World} {m n : Nat} (h : RB w m n W) : RB w m n W.drew := ⟨h.a, h.b, h.c, h.d.drew⟩
theorem RB.alloc {w W : World} {m n : Nat} (h : RB w m n W) (o : Obj) : RB w m n (W.alloc o) := ⟨h.a.alloc o, h.b.alloc o, h.c.alloc o, h.d.alloc h.d.size o⟩
theorem RB.keep {w W W' : World} {m n : Nat} (h : RB w m n W) (hb : Below W.heap.size W W') : RB w m n W' := ⟨h.a.keep hb h.a.lt, h.b.keep hb h.b.lt, h.c.keep hb h.c.lt, h.d.trans (hb.mono h.d.size)⟩
theorem RB.oth {w W W' : World} {m n g : Nat} (h : RB w m n W) (ho : ∀ k, k ≠ g → W'.heap[k]? = W.heap[k]?) (hb : Below w.heap.size w W') (hg : w.heap.size + 3 ≤ g) : RB w m n W' := ⟨h.a.oth ho (by omega), h.b.oth ho (by omega), h.c.oth ho (by omega), hb⟩

/-- What the first region leaves: the quotient, in a block of its own. -/
def Quot (w : World) (m n q : Nat) (vp : Value) (wx : World) : Prop := ∃ g, vp = .pointer (some ⟨g, 0, none⟩) ∧ w.heap.size + 3 ≤ g ∧ HoldsN wx 24 g (lims q) ∧ RB w m n wx

theorem zero_new (W : World) : HoldsN (W.alloc (.cells #[.int .u64 0, .int .u64 0, .int .u64 0, .int .u64 0] 24)) 24 W.heap.size (lims 0) := holdsN_new W _ _ _ _ rfl (by kernel_rfl)

theorem results_cell_slot {P : Program} {fn : Func} {p q : Tmp} {ty : TypeId} (h : fn.results = #[.cell p ty, .tmp q]) (tmps : Array Value) (w : World) (g : Nat) (t : TypeId) (cs : Array Value) (fr : Nat × Nat) (d : TypeDesc)
    (hp : tmps.getD p undef = .pointer (some ⟨g, 0, none⟩)) (hg : w.heap[g]? = some (.cells cs t fr))
    (hu : P.underlying ty = some d) (hd : (match d with | .struct _ | .array _ _ => true | _ => false) = true) (hi : (P.info? ty).map (·.size) = some cs.size) :
    (results fn tmps).run P w = .ok (.tuple #[.agg cs, tmps.getD q undef]) w := by
  have hp' : tmps[p]?.getD undef = .pointer (some ⟨g, 0, none⟩) := by simpa using hp
  simp [results, h, hp', asAddr, run_loadVar_row w g t ty cs fr d hg hu hd hi]

/-- What is tried in turn. -/
def xs (x i : F) : Nat → F
  | 0 => x
  | k + 1 => xs x i k * i
def failed (x i u v : F) (k : Nat) : Prop := (1 ≤ k → v * (x * x) ≠ u) ∧ (2 ≤ k → v * ((x * i) * (x * i)) ≠ u)
theorem rootAt_hit {x i u v : F} : ∀ {k : Nat}, k < 2 → failed x i u v k → v * (xs x i k * xs x i k) = u → rootAt i x u v = (even (xs x i k), true)
  | 0, _, _, h => by unfold rootAt; exact if_pos h
  | 1, _, hf, h => by unfold rootAt; rw [if_neg (hf.1 (Nat.le_refl _))]; exact if_pos h
theorem rootAt_miss {x i u v : F} (h : failed x i u v 2) : rootAt i x u v = (0, false) := by
  unfold rootAt; rw [if_neg (h.1 (by omega)), if_neg (h.2 (Nat.le_refl _))]
theorem failed_zero (x i u v : F) : failed x i u v 0 := ⟨fun h => by omega, fun h => by omega⟩
theorem failed_succ {x i u v : F} : ∀ {k : Nat}, k < 2 → failed x i u v k → v * (xs x i k * xs x i k) ≠ u → failed x i u v (k + 1)
  | 0, _, _, h => ⟨fun _ => h, fun h => by omega⟩
  | 1, _, hf, h => ⟨fun _ => hf.1 (Nat.le_refl _), fun _ => h⟩

set_option maxRecDepth 100000 in
set_option maxHeartbeats 4000000 in
theorem rRoot_any (m n : Nat) (w : World) (hm : m < big) (hn : n < big) :
    Calls Tryd.prog 27 #[fev m, fev n] w fun e w' => e = .returned (.tuple #[fev (froot (toF m) (toF n)).1.val, .bool (froot (toF m) (toF n)).2]) ∧ Below w.heap.size w w' := by
  obtain ⟨hA, hB, hC, hb, hsz⟩ := fe_start3 w m n 0 _ _ #[.int .u64 0, .int .u64 0, .int .u64 0, .int .u64 0] rfl rfl (by kernel_rfl)
  have R0 : RB w m n _ := ⟨hA, hB, hC, hb⟩
  clear hA hB hC hb hsz
  obtain ⟨q, hq⟩ : ∃ q, q = toF m * finv (toF n) := ⟨_, rfl⟩
  have IV : Hid (∀ W, Calls Tryd.prog 59 #[.agg ((lims n).map nv).toArray] W fun e w' => e = .returned (.agg ((lims (finv (toF n)).val).map nv).toArray) ∧ Below W.heap.size W w') := Lib.hid fun W => rInv_any n W hn
  have MQ : Hid (∀ W, Calls Tryd.prog 26 #[.agg ((lims m).map nv).toArray, .agg ((lims (finv (toF n)).val).map nv).toArray] W fun e w' => e = .returned (.agg ((lims q.val).map nv).toArray) ∧ Below W.heap.size W w') := Lib.hid fun W => by
    have := rMul_any m (finv (toF n)).val W hm (F.lt_big _)
    rw [toF_of, ← hq] at this
    exact this
  have Hq := Lib.hid hq
  clear hq
  obtain ⟨R, hRR⟩ : ∃ R, R = froot (toF m) (toF n) := ⟨_, rfl⟩
  rw [fev_eq m, fev_eq n, ← hRR]
  have HRR := Lib.hid hRR
  clear hRR
  generalize (finv (toF n)).val = iv at *
  go_enter Tryd.func27, Tryd.ntmps27
  go_upto_region 1 with (fail)
  generalize ((w.alloc (.cells ((lims m).map nv).toArray 24)).alloc (.cells ((lims n).map nv).toArray 24)).alloc (.cells #[.int .u64 0, .int .u64 0, .int .u64 0, .int .u64 0] 24) = wv at *
  go_cut [6] (fun vp wx => Quot w m n q.val vp wx)
  case first =>
    refine wp_region_noPanic ?_
    refine wp_region_held_drew (S := (fun W => (loadFe 24 ⟨w.heap.size, 0, none⟩).run Tryd.prog W = .ok (.agg ((lims m).map nv).toArray) W ∧ (loadFe 24 ⟨w.heap.size + 1, 0, none⟩).run Tryd.prog W = .ok (.agg ((lims n).map nv).toArray) W)) (by kernel_rfl) (by (try dsimp only); (first | exact ⟨run_loadFe (w := wv.drew) R0.a, run_loadFe (w := wv.drew) R0.b⟩ | exact ⟨run_loadFe (R0.drew.alloc _).a, run_loadFe (R0.drew.alloc _).b⟩ | exact ⟨run_loadFe X1.a, run_loadFe X1.b⟩ | exact ⟨run_loadFe (X1.alloc _).a, run_loadFe (X1.alloc _).b⟩ | exact ⟨run_loadFe X2.a, run_loadFe X2.b⟩ | exact ⟨run_loadFe (X2.alloc _).a, run_loadFe (X2.alloc _).b⟩ | exact ⟨run_loadFe X3.a, run_loadFe X3.b⟩)) (fun hHeld => ?_)
    refine wpAnyH_take (i := 0) (v := ?_) rfl (by kernel_rfl) (by kernel_rfl) (by kernel_rfl) (fun _ _ _ h => h) (Or.inl ⟨by rfl, ?_⟩) (by assumption) ?_
    rotate_left
    · intro w hSw; (try dsimp only at hSw); go_simp <;> with_reducible rfl
    try simp only [Act.put, List.getElem_toArray, List.getElem_cons_zero, List.setIfInBounds_toArray, List.set_cons_zero, List.set_cons_succ]
    refine wpAnyH_take (i := 1) (v := ?_) rfl (by kernel_rfl) (by kernel_rfl) (by kernel_rfl) (fun _ _ _ h => h) (Or.inl ⟨by rfl, ?_⟩) (by assumption) ?_
    rotate_left
    · intro w hSw; (try dsimp only at hSw); go_simp <;> with_reducible rfl
    try simp only [Act.put, List.getElem_toArray, List.getElem_cons_succ, List.getElem_cons_zero, List.setIfInBounds_toArray, List.set_cons_zero, List.set_cons_succ]
    refine wpAnyH_ready (rs := [2, 4]) (by kernel_rfl) (by simp) ?_
    refine AllReadyH.cons rfl (fun K hK => ?_) ?_
    · skip
      go_simp
      (first | (go_at_call 59; refine (IV.out _).mono ?_; rintro e w1 ⟨rfl, hb1⟩; have X1 : RB w m n w1 := (by first | exact R0.drew.keep hb1 | exact (R0.drew.alloc _).keep hb1); (try (have Z1 : HoldsN w1 24 wv.heap.size (lims 0) := (by exact HoldsN.keep (zero_new wv.drew) hb1 (Nat.lt_of_lt_of_eq (Nat.lt_succ_self _) (World.size_alloc ..).symm))))) | (go_at_call 26; refine (MQ.out _).mono ?_; rintro e w2 ⟨rfl, hb2⟩; have X2 : RB w m n w2 := (by first | exact X1.keep hb2 | exact (X1.alloc _).keep hb2); (try (have Z2 : HoldsN w2 24 wv.heap.size (lims 0) := (by exact Z1.keep hb2 Z1.lt))); (try (have Z3 : HoldsN w2 24 w1.heap.size (lims 0) := (by exact HoldsN.keep (zero_new w1) hb2 (Nat.lt_of_lt_of_eq (Nat.lt_succ_self _) (World.size_alloc ..).symm))))) | (have x2 := X2.d; refine step_store_fe (by rfl) 24 (.tmp 6) (.tmp 14) (by rfl) wv.heap.size q.val (by rfl) (by rfl) (lims 0) Z2 Tryd.infoFe (lims_length 0) w.heap.size w X2.d R0.d.size ?_; intro w3 H3 o3 s3 B3; have X3 := X2.oth o3 B3 R0.size; have g3 := R0.size) | (have x2 := X2.d; refine step_store_fe (by rfl) 24 (.tmp 6) (.tmp 14) (by rfl) w1.heap.size q.val (by rfl) (by rfl) (lims 0) Z3 Tryd.infoFe (lims_length 0) w.heap.size w X2.d X1.d.size ?_; intro w3 H3 o3 s3 B3; have X3 := X2.oth o3 B3 X1.size; have g3 := X1.size) | (have x2 := X2.d; refine step_store_fe (by rfl) 24 (.tmp 6) (.tmp 14) (by rfl) w2.heap.size q.val (by rfl) (by rfl) (lims 0) (zero_new w2) Tryd.infoFe (lims_length 0) w.heap.size w (X2.alloc _).d X2.d.size ?_; intro w3 H3 o3 s3 B3; have X3 := (X2.alloc _).oth o3 B3 X2.size; have g3 := X2.size))
      dsimp only
      refine hK.out _ _ ?_ (fun hHeld => ?_)
      · (try dsimp only); (first | exact ⟨run_loadFe (w := wv.drew) R0.a, run_loadFe (w := wv.drew) R0.b⟩ | exact ⟨run_loadFe (R0.drew.alloc _).a, run_loadFe (R0.drew.alloc _).b⟩ | exact ⟨run_loadFe X1.a, run_loadFe X1.b⟩ | exact ⟨run_loadFe (X1.alloc _).a, run_loadFe (X1.alloc _).b⟩ | exact ⟨run_loadFe X2.a, run_loadFe X2.b⟩ | exact ⟨run_loadFe (X2.alloc _).a, run_loadFe (X2.alloc _).b⟩ | exact ⟨run_loadFe X3.a, run_loadFe X3.b⟩)
      clear hK K
      try simp only [Act.put, List.getElem_toArray, List.getElem_cons_succ, List.getElem_cons_zero, List.setIfInBounds_toArray, List.set_cons_zero, List.set_cons_succ]
      refine wpAnyH_ready (rs := [3, 4]) (by kernel_rfl) (by simp) ?_
      refine AllReadyH.cons rfl (fun K hK => ?_) ?_
      · skip
        go_simp
        (first | (go_at_call 59; refine (IV.out _).mono ?_; rintro e w1 ⟨rfl, hb1⟩; have X1 : RB w m n w1 := (by first | exact R0.drew.keep hb1 | exact (R0.drew.alloc _).keep hb1); (try (have Z1 : HoldsN w1 24 wv.heap.size (lims 0) := (by exact HoldsN.keep (zero_new wv.drew) hb1 (Nat.lt_of_lt_of_eq (Nat.lt_succ_self _) (World.size_alloc ..).symm))))) | (go_at_call 26; refine (MQ.out _).mono ?_; rintro e w2 ⟨rfl, hb2⟩; have X2 : RB w m n w2 := (by first | exact X1.keep hb2 | exact (X1.alloc _).keep hb2); (try (have Z2 : HoldsN w2 24 wv.heap.size (lims 0) := (by exact Z1.keep hb2 Z1.lt))); (try (have Z3 : HoldsN w2 24 w1.heap.size (lims 0) := (by exact HoldsN.keep (zero_new w1) hb2 (Nat.lt_of_lt_of_eq (Nat.lt_succ_self _) (World.size_alloc ..).symm))))) | (have x2 := X2.d; refine step_store_fe (by rfl) 24 (.tmp 6) (.tmp 14) (by rfl) wv.heap.size q.val (by rfl) (by rfl) (lims 0) Z2 Tryd.infoFe (lims_length 0) w.heap.size w X2.d R0.d.size ?_; intro w3 H3 o3 s3 B3; have X3 := X2.oth o3 B3 R0.size; have g3 := R0.size) | (have x2 := X2.d; refine step_store_fe (by rfl) 24 (.tmp 6) (.tmp 14) (by rfl) w1.heap.size q.val (by rfl) (by rfl) (lims 0) Z3 Tryd.infoFe (lims_length 0) w.heap.size w X2.d X1.d.size ?_; intro w3 H3 o3 s3 B3; have X3 := X2.oth o3 B3 X1.size; have g3 := X1.size) | (have x2 := X2.d; refine step_store_fe (by rfl) 24 (.tmp 6) (.tmp 14) (by rfl) w2.heap.size q.val (by rfl) (by rfl) (lims 0) (zero_new w2) Tryd.infoFe (lims_length 0) w.heap.size w (X2.alloc _).d X2.d.size ?_; intro w3 H3 o3 s3 B3; have X3 := (X2.alloc _).oth o3 B3 X2.size; have g3 := X2.size))
        dsimp only
        refine hK.out _ _ ?_ (fun hHeld => ?_)
        · (try dsimp only); (first | exact ⟨run_loadFe (w := wv.drew) R0.a, run_loadFe (w := wv.drew) R0.b⟩ | exact ⟨run_loadFe (R0.drew.alloc _).a, run_loadFe (R0.drew.alloc _).b⟩ | exact ⟨run_loadFe X1.a, run_loadFe X1.b⟩ | exact ⟨run_loadFe (X1.alloc _).a, run_loadFe (X1.alloc _).b⟩ | exact ⟨run_loadFe X2.a, run_loadFe X2.b⟩ | exact ⟨run_loadFe (X2.alloc _).a, run_loadFe (X2.alloc _).b⟩ | exact ⟨run_loadFe X3.a, run_loadFe X3.b⟩)
        clear hK K
        try simp only [Act.put, List.getElem_toArray, List.getElem_cons_succ, List.getElem_cons_zero, List.setIfInBounds_toArray, List.set_cons_zero, List.set_cons_succ]
        refine wpAnyH_ready (rs := [4]) (by kernel_rfl) (by simp) ?_
        refine AllReadyH.cons rfl (fun K hK => ?_) AllReadyH.nil
        go_simp
        refine hK.out _ _ ?_ (fun hHeld => ?_)
        · (try dsimp only); (first | exact ⟨run_loadFe (w := wv.drew) R0.a, run_loadFe (w := wv.drew) R0.b⟩ | exact ⟨run_loadFe (R0.drew.alloc _).a, run_loadFe (R0.drew.alloc _).b⟩ | exact ⟨run_loadFe X1.a, run_loadFe X1.b⟩ | exact ⟨run_loadFe (X1.alloc _).a, run_loadFe (X1.alloc _).b⟩ | exact ⟨run_loadFe X2.a, run_loadFe X2.b⟩ | exact ⟨run_loadFe (X2.alloc _).a, run_loadFe (X2.alloc _).b⟩ | exact ⟨run_loadFe X3.a, run_loadFe X3.b⟩)
        clear hK K
        try simp only [Act.put, List.getElem_toArray, List.getElem_cons_succ, List.getElem_cons_zero, List.setIfInBounds_toArray, List.set_cons_zero, List.set_cons_succ]
        refine wpAnyH_ready (rs := [5]) (by kernel_rfl) (by simp) ?_
        refine AllReadyH.cons rfl (fun K hK => ?_) AllReadyH.nil
        (first | (go_at_call 59; refine (IV.out _).mono ?_; rintro e w1 ⟨rfl, hb1⟩; have X1 : RB w m n w1 := (by first | exact R0.drew.keep hb1 | exact (R0.drew.alloc _).keep hb1); (try (have Z1 : HoldsN w1 24 wv.heap.size (lims 0) := (by exact HoldsN.keep (zero_new wv.drew) hb1 (Nat.lt_of_lt_of_eq (Nat.lt_succ_self _) (World.size_alloc ..).symm))))) | (go_at_call 26; refine (MQ.out _).mono ?_; rintro e w2 ⟨rfl, hb2⟩; have X2 : RB w m n w2 := (by first | exact X1.keep hb2 | exact (X1.alloc _).keep hb2); (try (have Z2 : HoldsN w2 24 wv.heap.size (lims 0) := (by exact Z1.keep hb2 Z1.lt))); (try (have Z3 : HoldsN w2 24 w1.heap.size (lims 0) := (by exact HoldsN.keep (zero_new w1) hb2 (Nat.lt_of_lt_of_eq (Nat.lt_succ_self _) (World.size_alloc ..).symm))))) | (have x2 := X2.d; refine step_store_fe (by rfl) 24 (.tmp 6) (.tmp 14) (by rfl) wv.heap.size q.val (by rfl) (by rfl) (lims 0) Z2 Tryd.infoFe (lims_length 0) w.heap.size w X2.d R0.d.size ?_; intro w3 H3 o3 s3 B3; have X3 := X2.oth o3 B3 R0.size; have g3 := R0.size) | (have x2 := X2.d; refine step_store_fe (by rfl) 24 (.tmp 6) (.tmp 14) (by rfl) w1.heap.size q.val (by rfl) (by rfl) (lims 0) Z3 Tryd.infoFe (lims_length 0) w.heap.size w X2.d X1.d.size ?_; intro w3 H3 o3 s3 B3; have X3 := X2.oth o3 B3 X1.size; have g3 := X1.size) | (have x2 := X2.d; refine step_store_fe (by rfl) 24 (.tmp 6) (.tmp 14) (by rfl) w2.heap.size q.val (by rfl) (by rfl) (lims 0) (zero_new w2) Tryd.infoFe (lims_length 0) w.heap.size w (X2.alloc _).d X2.d.size ?_; intro w3 H3 o3 s3 B3; have X3 := (X2.alloc _).oth o3 B3 X2.size; have g3 := X2.size))
        refine hK.out _ _ ?_ (fun hHeld => ?_)
        · (try dsimp only); (first | exact ⟨run_loadFe (w := wv.drew) R0.a, run_loadFe (w := wv.drew) R0.b⟩ | exact ⟨run_loadFe (R0.drew.alloc _).a, run_loadFe (R0.drew.alloc _).b⟩ | exact ⟨run_loadFe X1.a, run_loadFe X1.b⟩ | exact ⟨run_loadFe (X1.alloc _).a, run_loadFe (X1.alloc _).b⟩ | exact ⟨run_loadFe X2.a, run_loadFe X2.b⟩ | exact ⟨run_loadFe (X2.alloc _).a, run_loadFe (X2.alloc _).b⟩ | exact ⟨run_loadFe X3.a, run_loadFe X3.b⟩)
        clear hK K
        try simp only [Act.put, List.getElem_toArray, List.getElem_cons_succ, List.getElem_cons_zero]
        refine wpAnyH_done (by kernel_rfl) ?_ _
        refine NoPanic.normal ?_
        go_wp2_with fail
        go_meet
        exact ⟨_, rfl, g3, H3, X3⟩
      refine AllReadyH.cons rfl (fun K hK => ?_) ?_
      · skip
        go_simp
        refine hK.out _ _ ?_ (fun hHeld => ?_)
        · (try dsimp only); (first | exact ⟨run_loadFe (w := wv.drew) R0.a, run_loadFe (w := wv.drew) R0.b⟩ | exact ⟨run_loadFe (R0.drew.alloc _).a, run_loadFe (R0.drew.alloc _).b⟩ | exact ⟨run_loadFe X1.a, run_loadFe X1.b⟩ | exact ⟨run_loadFe (X1.alloc _).a, run_loadFe (X1.alloc _).b⟩ | exact ⟨run_loadFe X2.a, run_loadFe X2.b⟩ | exact ⟨run_loadFe (X2.alloc _).a, run_loadFe (X2.alloc _).b⟩ | exact ⟨run_loadFe X3.a, run_loadFe X3.b⟩)
        clear hK K
        try simp only [Act.put, List.getElem_toArray, List.getElem_cons_succ, List.getElem_cons_zero, List.setIfInBounds_toArray, List.set_cons_zero, List.set_cons_succ]
        refine wpAnyH_ready (rs := [3]) (by kernel_rfl) (by simp) ?_
        refine AllReadyH.cons rfl (fun K hK => ?_) AllReadyH.nil
        go_simp
        (first | (go_at_call 59; refine (IV.out _).mono ?_; rintro e w1 ⟨rfl, hb1⟩; have X1 : RB w m n w1 := (by first | exact R0.drew.keep hb1 | exact (R0.drew.alloc _).keep hb1); (try (have Z1 : HoldsN w1 24 wv.heap.size (lims 0) := (by exact HoldsN.keep (zero_new wv.drew) hb1 (Nat.lt_of_lt_of_eq (Nat.lt_succ_self _) (World.size_alloc ..).symm))))) | (go_at_call 26; refine (MQ.out _).mono ?_; rintro e w2 ⟨rfl, hb2⟩; have X2 : RB w m n w2 := (by first | exact X1.keep hb2 | exact (X1.alloc _).keep hb2); (try (have Z2 : HoldsN w2 24 wv.heap.size (lims 0) := (by exact Z1.keep hb2 Z1.lt))); (try (have Z3 : HoldsN w2 24 w1.heap.size (lims 0) := (by exact HoldsN.keep (zero_new w1) hb2 (Nat.lt_of_lt_of_eq (Nat.lt_succ_self _) (World.size_alloc ..).symm))))) | (have x2 := X2.d; refine step_store_fe (by rfl) 24 (.tmp 6) (.tmp 14) (by rfl) wv.heap.size q.val (by rfl) (by rfl) (lims 0) Z2 Tryd.infoFe (lims_length 0) w.heap.size w X2.d R0.d.size ?_; intro w3 H3 o3 s3 B3; have X3 := X2.oth o3 B3 R0.size; have g3 := R0.size) | (have x2 := X2.d; refine step_store_fe (by rfl) 24 (.tmp 6) (.tmp 14) (by rfl) w1.heap.size q.val (by rfl) (by rfl) (lims 0) Z3 Tryd.infoFe (lims_length 0) w.heap.size w X2.d X1.d.size ?_; intro w3 H3 o3 s3 B3; have X3 := X2.oth o3 B3 X1.size; have g3 := X1.size) | (have x2 := X2.d; refine step_store_fe (by rfl) 24 (.tmp 6) (.tmp 14) (by rfl) w2.heap.size q.val (by rfl) (by rfl) (lims 0) (zero_new w2) Tryd.infoFe (lims_length 0) w.heap.size w (X2.alloc _).d X2.d.size ?_; intro w3 H3 o3 s3 B3; have X3 := (X2.alloc _).oth o3 B3 X2.size; have g3 := X2.size))
        dsimp only
        refine hK.out _ _ ?_ (fun hHeld => ?_)
        · (try dsimp only); (first | exact ⟨run_loadFe (w := wv.drew) R0.a, run_loadFe (w := wv.drew) R0.b⟩ | exact ⟨run_loadFe (R0.drew.alloc _).a, run_loadFe (R0.drew.alloc _).b⟩ | exact ⟨run_loadFe X1.a, run_loadFe X1.b⟩ | exact ⟨run_loadFe (X1.alloc _).a, run_loadFe (X1.alloc _).b⟩ | exact ⟨run_loadFe X2.a, run_loadFe X2.b⟩ | exact ⟨run_loadFe (X2.alloc _).a, run_loadFe (X2.alloc _).b⟩ | exact ⟨run_loadFe X3.a, run_loadFe X3.b⟩)
        clear hK K
        try simp only [Act.put, List.getElem_toArray, List.getElem_cons_succ, List.getElem_cons_zero, List.setIfInBounds_toArray, List.set_cons_zero, List.set_cons_succ]
        refine wpAnyH_ready (rs := [5]) (by kernel_rfl) (by simp) ?_
        refine AllReadyH.cons rfl (fun K hK => ?_) AllReadyH.nil
        (first | (go_at_call 59; refine (IV.out _).mono ?_; rintro e w1 ⟨rfl, hb1⟩; have X1 : RB w m n w1 := (by first | exact R0.drew.keep hb1 | exact (R0.drew.alloc _).keep hb1); (try (have Z1 : HoldsN w1 24 wv.heap.size (lims 0) := (by exact HoldsN.keep (zero_new wv.drew) hb1 (Nat.lt_of_lt_of_eq (Nat.lt_succ_self _) (World.size_alloc ..).symm))))) | (go_at_call 26; refine (MQ.out _).mono ?_; rintro e w2 ⟨rfl, hb2⟩; have X2 : RB w m n w2 := (by first | exact X1.keep hb2 | exact (X1.alloc _).keep hb2); (try (have Z2 : HoldsN w2 24 wv.heap.size (lims 0) := (by exact Z1.keep hb2 Z1.lt))); (try (have Z3 : HoldsN w2 24 w1.heap.size (lims 0) := (by exact HoldsN.keep (zero_new w1) hb2 (Nat.lt_of_lt_of_eq (Nat.lt_succ_self _) (World.size_alloc ..).symm))))) | (have x2 := X2.d; refine step_store_fe (by rfl) 24 (.tmp 6) (.tmp 14) (by rfl) wv.heap.size q.val (by rfl) (by rfl) (lims 0) Z2 Tryd.infoFe (lims_length 0) w.heap.size w X2.d R0.d.size ?_; intro w3 H3 o3 s3 B3; have X3 := X2.oth o3 B3 R0.size; have g3 := R0.size) | (have x2 := X2.d; refine step_store_fe (by rfl) 24 (.tmp 6) (.tmp 14) (by rfl) w1.heap.size q.val (by rfl) (by rfl) (lims 0) Z3 Tryd.infoFe (lims_length 0) w.heap.size w X2.d X1.d.size ?_; intro w3 H3 o3 s3 B3; have X3 := X2.oth o3 B3 X1.size; have g3 := X1.size) | (have x2 := X2.d; refine step_store_fe (by rfl) 24 (.tmp 6) (.tmp 14) (by rfl) w2.heap.size q.val (by rfl) (by rfl) (lims 0) (zero_new w2) Tryd.infoFe (lims_length 0) w.heap.size w (X2.alloc _).d X2.d.size ?_; intro w3 H3 o3 s3 B3; have X3 := (X2.alloc _).oth o3 B3 X2.size; have g3 := X2.size))
        refine hK.out _ _ ?_ (fun hHeld => ?_)
        · (try dsimp only); (first | exact ⟨run_loadFe (w := wv.drew) R0.a, run_loadFe (w := wv.drew) R0.b⟩ | exact ⟨run_loadFe (R0.drew.alloc _).a, run_loadFe (R0.drew.alloc _).b⟩ | exact ⟨run_loadFe X1.a, run_loadFe X1.b⟩ | exact ⟨run_loadFe (X1.alloc _).a, run_loadFe (X1.alloc _).b⟩ | exact ⟨run_loadFe X2.a, run_loadFe X2.b⟩ | exact ⟨run_loadFe (X2.alloc _).a, run_loadFe (X2.alloc _).b⟩ | exact ⟨run_loadFe X3.a, run_loadFe X3.b⟩)
        clear hK K
        try simp only [Act.put, List.getElem_toArray, List.getElem_cons_succ, List.getElem_cons_zero]
        refine wpAnyH_done (by kernel_rfl) ?_ _
        refine NoPanic.normal ?_
        go_wp2_with fail
        go_meet
        exact ⟨_, rfl, g3, H3, X3⟩
      exact AllReadyH.nil
    refine AllReadyH.cons rfl (fun K hK => ?_) ?_
    · skip
      go_simp
      refine hK.out _ _ ?_ (fun hHeld => ?_)
      · (try dsimp only); (first | exact ⟨run_loadFe (w := wv.drew) R0.a, run_loadFe (w := wv.drew) R0.b⟩ | exact ⟨run_loadFe (R0.drew.alloc _).a, run_loadFe (R0.drew.alloc _).b⟩ | exact ⟨run_loadFe X1.a, run_loadFe X1.b⟩ | exact ⟨run_loadFe (X1.alloc _).a, run_loadFe (X1.alloc _).b⟩ | exact ⟨run_loadFe X2.a, run_loadFe X2.b⟩ | exact ⟨run_loadFe (X2.alloc _).a, run_loadFe (X2.alloc _).b⟩ | exact ⟨run_loadFe X3.a, run_loadFe X3.b⟩)
      clear hK K
      try simp only [Act.put, List.getElem_toArray, List.getElem_cons_succ, List.getElem_cons_zero, List.setIfInBounds_toArray, List.set_cons_zero, List.set_cons_succ]
      refine wpAnyH_ready (rs := [2]) (by kernel_rfl) (by simp) ?_
      refine AllReadyH.cons rfl (fun K hK => ?_) AllReadyH.nil
      go_simp
      (first | (go_at_call 59; refine (IV.out _).mono ?_; rintro e w1 ⟨rfl, hb1⟩; have X1 : RB w m n w1 := (by first | exact R0.drew.keep hb1 | exact (R0.drew.alloc _).keep hb1); (try (have Z1 : HoldsN w1 24 wv.heap.size (lims 0) := (by exact HoldsN.keep (zero_new wv.drew) hb1 (Nat.lt_of_lt_of_eq (Nat.lt_succ_self _) (World.size_alloc ..).symm))))) | (go_at_call 26; refine (MQ.out _).mono ?_; rintro e w2 ⟨rfl, hb2⟩; have X2 : RB w m n w2 := (by first | exact X1.keep hb2 | exact (X1.alloc _).keep hb2); (try (have Z2 : HoldsN w2 24 wv.heap.size (lims 0) := (by exact Z1.keep hb2 Z1.lt))); (try (have Z3 : HoldsN w2 24 w1.heap.size (lims 0) := (by exact HoldsN.keep (zero_new w1) hb2 (Nat.lt_of_lt_of_eq (Nat.lt_succ_self _) (World.size_alloc ..).symm))))) | (have x2 := X2.d; refine step_store_fe (by rfl) 24 (.tmp 6) (.tmp 14) (by rfl) wv.heap.size q.val (by rfl) (by rfl) (lims 0) Z2 Tryd.infoFe (lims_length 0) w.heap.size w X2.d R0.d.size ?_; intro w3 H3 o3 s3 B3; have X3 := X2.oth o3 B3 R0.size; have g3 := R0.size) | (have x2 := X2.d; refine step_store_fe (by rfl) 24 (.tmp 6) (.tmp 14) (by rfl) w1.heap.size q.val (by rfl) (by rfl) (lims 0) Z3 Tryd.infoFe (lims_length 0) w.heap.size w X2.d X1.d.size ?_; intro w3 H3 o3 s3 B3; have X3 := X2.oth o3 B3 X1.size; have g3 := X1.size) | (have x2 := X2.d; refine step_store_fe (by rfl) 24 (.tmp 6) (.tmp 14) (by rfl) w2.heap.size q.val (by rfl) (by rfl) (lims 0) (zero_new w2) Tryd.infoFe (lims_length 0) w.heap.size w (X2.alloc _).d X2.d.size ?_; intro w3 H3 o3 s3 B3; have X3 := (X2.alloc _).oth o3 B3 X2.size; have g3 := X2.size))
      dsimp only
      refine hK.out _ _ ?_ (fun hHeld => ?_)
      · (try dsimp only); (first | exact ⟨run_loadFe (w := wv.drew) R0.a, run_loadFe (w := wv.drew) R0.b⟩ | exact ⟨run_loadFe (R0.drew.alloc _).a, run_loadFe (R0.drew.alloc _).b⟩ | exact ⟨run_loadFe X1.a, run_loadFe X1.b⟩ | exact ⟨run_loadFe (X1.alloc _).a, run_loadFe (X1.alloc _).b⟩ | exact ⟨run_loadFe X2.a, run_loadFe X2.b⟩ | exact ⟨run_loadFe (X2.alloc _).a, run_loadFe (X2.alloc _).b⟩ | exact ⟨run_loadFe X3.a, run_loadFe X3.b⟩)
      clear hK K
      try simp only [Act.put, List.getElem_toArray, List.getElem_cons_succ, List.getElem_cons_zero, List.setIfInBounds_toArray, List.set_cons_zero, List.set_cons_succ]
      refine wpAnyH_ready (rs := [3]) (by kernel_rfl) (by simp) ?_
      refine AllReadyH.cons rfl (fun K hK => ?_) AllReadyH.nil
      go_simp
      (first | (go_at_call 59; refine (IV.out _).mono ?_; rintro e w1 ⟨rfl, hb1⟩; have X1 : RB w m n w1 := (by first | exact R0.drew.keep hb1 | exact (R0.drew.alloc _).keep hb1); (try (have Z1 : HoldsN w1 24 wv.heap.size (lims 0) := (by exact HoldsN.keep (zero_new wv.drew) hb1 (Nat.lt_of_lt_of_eq (Nat.lt_succ_self _) (World.size_alloc ..).symm))))) | (go_at_call 26; refine (MQ.out _).mono ?_; rintro e w2 ⟨rfl, hb2⟩; have X2 : RB w m n w2 := (by first | exact X1.keep hb2 | exact (X1.alloc _).keep hb2); (try (have Z2 : HoldsN w2 24 wv.heap.size (lims 0) := (by exact Z1.keep hb2 Z1.lt))); (try (have Z3 : HoldsN w2 24 w1.heap.size (lims 0) := (by exact HoldsN.keep (zero_new w1) hb2 (Nat.lt_of_lt_of_eq (Nat.lt_succ_self _) (World.size_alloc ..).symm))))) | (have x2 := X2.d; refine step_store_fe (by rfl) 24 (.tmp 6) (.tmp 14) (by rfl) wv.heap.size q.val (by rfl) (by rfl) (lims 0) Z2 Tryd.infoFe (lims_length 0) w.heap.size w X2.d R0.d.size ?_; intro w3 H3 o3 s3 B3; have X3 := X2.oth o3 B3 R0.size; have g3 := R0.size) | (have x2 := X2.d; refine step_store_fe (by rfl) 24 (.tmp 6) (.tmp 14) (by rfl) w1.heap.size q.val (by rfl) (by rfl) (lims 0) Z3 Tryd.infoFe (lims_length 0) w.heap.size w X2.d X1.d.size ?_; intro w3 H3 o3 s3 B3; have X3 := X2.oth o3 B3 X1.size; have g3 := X1.size) | (have x2 := X2.d; refine step_store_fe (by rfl) 24 (.tmp 6) (.tmp 14) (by rfl) w2.heap.size q.val (by rfl) (by rfl) (lims 0) (zero_new w2) Tryd.infoFe (lims_length 0) w.heap.size w (X2.alloc _).d X2.d.size ?_; intro w3 H3 o3 s3 B3; have X3 := (X2.alloc _).oth o3 B3 X2.size; have g3 := X2.size))
      dsimp only
      refine hK.out _ _ ?_ (fun hHeld => ?_)
      · (try dsimp only); (first | exact ⟨run_loadFe (w := wv.drew) R0.a, run_loadFe (w := wv.drew) R0.b⟩ | exact ⟨run_loadFe (R0.drew.alloc _).a, run_loadFe (R0.drew.alloc _).b⟩ | exact ⟨run_loadFe X1.a, run_loadFe X1.b⟩ | exact ⟨run_loadFe (X1.alloc _).a, run_loadFe (X1.alloc _).b⟩ | exact ⟨run_loadFe X2.a, run_loadFe X2.b⟩ | exact ⟨run_loadFe (X2.alloc _).a, run_loadFe (X2.alloc _).b⟩ | exact ⟨run_loadFe X3.a, run_loadFe X3.b⟩)
      clear hK K
      try simp only [Act.put, List.getElem_toArray, List.getElem_cons_succ, List.getElem_cons_zero, List.setIfInBounds_toArray, List.set_cons_zero, List.set_cons_succ]
      refine wpAnyH_ready (rs := [5]) (by kernel_rfl) (by simp) ?_
      refine AllReadyH.cons rfl (fun K hK => ?_) AllReadyH.nil
      (first | (go_at_call 59; refine (IV.out _).mono ?_; rintro e w1 ⟨rfl, hb1⟩; have X1 : RB w m n w1 := (by first | exact R0.drew.keep hb1 | exact (R0.drew.alloc _).keep hb1); (try (have Z1 : HoldsN w1 24 wv.heap.size (lims 0) := (by exact HoldsN.keep (zero_new wv.drew) hb1 (Nat.lt_of_lt_of_eq (Nat.lt_succ_self _) (World.size_alloc ..).symm))))) | (go_at_call 26; refine (MQ.out _).mono ?_; rintro e w2 ⟨rfl, hb2⟩; have X2 : RB w m n w2 := (by first | exact X1.keep hb2 | exact (X1.alloc _).keep hb2); (try (have Z2 : HoldsN w2 24 wv.heap.size (lims 0) := (by exact Z1.keep hb2 Z1.lt))); (try (have Z3 : HoldsN w2 24 w1.heap.size (lims 0) := (by exact HoldsN.keep (zero_new w1) hb2 (Nat.lt_of_lt_of_eq (Nat.lt_succ_self _) (World.size_alloc ..).symm))))) | (have x2 := X2.d; refine step_store_fe (by rfl) 24 (.tmp 6) (.tmp 14) (by rfl) wv.heap.size q.val (by rfl) (by rfl) (lims 0) Z2 Tryd.infoFe (lims_length 0) w.heap.size w X2.d R0.d.size ?_; intro w3 H3 o3 s3 B3; have X3 := X2.oth o3 B3 R0.size; have g3 := R0.size) | (have x2 := X2.d; refine step_store_fe (by rfl) 24 (.tmp 6) (.tmp 14) (by rfl) w1.heap.size q.val (by rfl) (by rfl) (lims 0) Z3 Tryd.infoFe (lims_length 0) w.heap.size w X2.d X1.d.size ?_; intro w3 H3 o3 s3 B3; have X3 := X2.oth o3 B3 X1.size; have g3 := X1.size) | (have x2 := X2.d; refine step_store_fe (by rfl) 24 (.tmp 6) (.tmp 14) (by rfl) w2.heap.size q.val (by rfl) (by rfl) (lims 0) (zero_new w2) Tryd.infoFe (lims_length 0) w.heap.size w (X2.alloc _).d X2.d.size ?_; intro w3 H3 o3 s3 B3; have X3 := (X2.alloc _).oth o3 B3 X2.size; have g3 := X2.size))
      refine hK.out _ _ ?_ (fun hHeld => ?_)
      · (try dsimp only); (first | exact ⟨run_loadFe (w := wv.drew) R0.a, run_loadFe (w := wv.drew) R0.b⟩ | exact ⟨run_loadFe (R0.drew.alloc _).a, run_loadFe (R0.drew.alloc _).b⟩ | exact ⟨run_loadFe X1.a, run_loadFe X1.b⟩ | exact ⟨run_loadFe (X1.alloc _).a, run_loadFe (X1.alloc _).b⟩ | exact ⟨run_loadFe X2.a, run_loadFe X2.b⟩ | exact ⟨run_loadFe (X2.alloc _).a, run_loadFe (X2.alloc _).b⟩ | exact ⟨run_loadFe X3.a, run_loadFe X3.b⟩)
      clear hK K
      try simp only [Act.put, List.getElem_toArray, List.getElem_cons_succ, List.getElem_cons_zero]
      refine wpAnyH_done (by kernel_rfl) ?_ _
      refine NoPanic.normal ?_
      go_wp2_with fail
      go_meet
      exact ⟨_, rfl, g3, H3, X3⟩
    exact AllReadyH.nil
  case rest =>
    obtain ⟨g, rfl, lg, HQ, R1⟩ := hcut
    obtain ⟨x0, hx0⟩ : ∃ x, x = half8 q := ⟨_, rfl⟩
    obtain ⟨im, him⟩ : ∃ x, x = fI := ⟨_, rfl⟩
    have hR : Hid (R = rootAt im x0 (toF m) (toF n)) := Lib.hid (by rw [HRR.out, hx0, him, Hq.out]; rfl)
    have P1 : Hid (∀ W, Calls Tryd.prog 60 #[.agg ((lims q.val).map nv).toArray, .agg #[.int .u64 18446744073709551614, .int .u64 18446744073709551615, .int .u64 18446744073709551615, .int .u64 1152921504606846975]] W fun e w' => e = .returned (.agg ((lims x0.val).map nv).toArray) ∧ Below W.heap.size W w') := Lib.hid fun W => by
      obtain ⟨p, hp⟩ : ∃ p, p = (PP + 3) / 8 := ⟨_, rfl⟩
      have el : Value.agg #[.int .u64 18446744073709551614, .int .u64 18446744073709551615, .int .u64 18446744073709551615, .int .u64 1152921504606846975] = .agg ((lims p).map nv).toArray := by rw [hp]; kernel_rfl
      have h := rPower_any q.val p W (F.lt_big q) (by rw [hp]; decide)
      have e : fpow q p = x0 := by rw [hx0, hp]; rfl
      rw [toF_of, e] at h
      rw [el]
      exact h
    have P2 : Hid (∀ W, Calls Tryd.prog 60 #[.agg #[.int .u64 2, .int .u64 0, .int .u64 0, .int .u64 0], .agg #[.int .u64 18446744073709551611, .int .u64 18446744073709551615, .int .u64 18446744073709551615, .int .u64 2305843009213693951]] W fun e w' => e = .returned (.agg ((lims im.val).map nv).toArray) ∧ Below W.heap.size W w') := Lib.hid fun W => by
      obtain ⟨p, hp⟩ : ∃ p, p = (PP - 1) / 4 := ⟨_, rfl⟩
      have el : Value.agg #[.int .u64 18446744073709551611, .int .u64 18446744073709551615, .int .u64 18446744073709551615, .int .u64 2305843009213693951] = .agg ((lims p).map nv).toArray := by rw [hp]; kernel_rfl
      have h := rPower_any 2 p W (by decide) (by rw [hp]; decide)
      have e2 : toF 2 = (2 : F) := Fin.ext (by decide)
      have e : fpow (2 : F) p = im := by rw [him, hp]; rfl
      rw [e2, e] at h
      rw [el, two_lims]
      exact h
    clear hx0 him Hq IV MQ
    go_wp2_with (first
      | (with_reducible refine wpList_load_n rfl 24 (.tmp 6) rfl g rfl (lims q.val) 4 HQ rfl Tryd.underlying24 Tryd.infoFe ?_)
      | (go_at_call 60
         (with_reducible refine (P1.out _).mono ?_)
         rintro e w4 ⟨rfl, hb4⟩
         have R4 := R1.keep hb4
         have z4 := zero_new w4
         have l4 := R4.size
         have R4a := R4.alloc (.cells #[.int .u64 0, .int .u64 0, .int .u64 0, .int .u64 0] 24))
      | (with_reducible refine wpList_store_n rfl 24 (.tmp 7) (.tmp 17) rfl w4.heap.size (lims x0.val) 4 rfl rfl rfl (lims 0) (by with_unfolding_all exact z4) Tryd.infoFe rfl w.heap.size w (by with_unfolding_all exact R4a.d) (by omega) ?_
         intro w5 H5 o5 s5 B5
         clear s5
         have R5 : RB w m n w5 := RB.oth (by with_unfolding_all exact R4a) o5 B5 l4
         have l5 := H5.lt)
      | (go_at_call 60
         (with_reducible refine (P2.out _).mono ?_)
         rintro e w6 ⟨rfl, hb6⟩
         have R6 := R5.keep hb6
         have H6 := H5.keep hb6 H5.lt
         have z6 := zero_new w6
         have l6 := R6.size
         have l6b := hb6.size
         have R6a := R6.alloc (.cells #[.int .u64 0, .int .u64 0, .int .u64 0, .int .u64 0] 24)
         have H6a := H6.alloc (.cells #[.int .u64 0, .int .u64 0, .int .u64 0, .int .u64 0] 24))
      | (with_reducible refine wpList_store_n rfl 24 (.tmp 8) (.tmp 20) rfl w6.heap.size (lims im.val) 4 rfl rfl rfl (lims 0) (by with_unfolding_all exact z6) Tryd.infoFe rfl w.heap.size w (by with_unfolding_all exact R6a.d) (by omega) ?_
         intro w7 I7 o7 s7 B7
         clear s7
         have R7 : RB w m n w7 := RB.oth (by with_unfolding_all exact R6a) o7 B7 l6
         have H7 : HoldsN w7 24 w4.heap.size (lims x0.val) := HoldsN.oth (by with_unfolding_all exact H6a) o7 (by omega)))
    go_loopw [9] (fun v wr => ∃ k : Nat, k ≤ 2 ∧ v = .int .i64 (k : Int) ∧ failed x0 im (toF m) (toF n) k ∧ HoldsN wr 24 w4.heap.size (lims (xs x0 im k).val) ∧ HoldsN wr 24 w6.heap.size (lims im.val) ∧ RB w m n wr)
      (fun v _ => 2 - (intOf v).toNat)
    case atStart => exact ⟨0, Nat.zero_le _, rfl, failed_zero _ _ _ _, H7, I7, R7⟩
    case round =>
      clear H7 I7 R7
      obtain ⟨k, hk, rfl, hf, HX, HI, RR⟩ := hrel
      have ne : w4.heap.size ≠ w6.heap.size := by omega
      have l4' := l4
      clear l6b l5
      generalize w4.heap.size = g7 at *
      generalize w6.heap.size = g8 at *
      by_cases hlt : k < 2
      · have hlt2 : (k : Int) < 2 := by omega
        have hhit := Lib.hid (fun h => hR.out.trans (rootAt_hit hlt hf h))
        have hmiss := Lib.hid (failed_succ hlt hf)
        have hnext : Hid (xs x0 im (k + 1) = xs x0 im k * im) := Lib.hid rfl
        generalize xs x0 im k = x at *
        have MX : Hid (∀ W, Calls Tryd.prog 26 #[.agg ((lims x.val).map nv).toArray, .agg ((lims x.val).map nv).toArray] W fun e w' => e = .returned (.agg ((lims (x * x).val).map nv).toArray) ∧ Below W.heap.size W w') := Lib.hid fun W => by
          have := rMul_any x.val x.val W (F.lt_big x) (F.lt_big x)
          rwa [toF_of] at this
        have MV : Hid (∀ W, Calls Tryd.prog 26 #[.agg ((lims n).map nv).toArray, .agg ((lims (x * x).val).map nv).toArray] W fun e w' => e = .returned (.agg ((lims (toF n * (x * x)).val).map nv).toArray) ∧ Below W.heap.size W w') := Lib.hid fun W => by
          have := rMul_any n (x * x).val W hn (F.lt_big _)
          rwa [toF_of] at this
        have SS : ∀ b : Bool, decide (toF n * (x * x) = toF m) = b → Hid (∀ W, Calls Tryd.prog 61 #[.agg ((lims (toF n * (x * x)).val).map nv).toArray, .agg ((lims m).map nv).toArray] W fun e w' => e = .returned (.bool b) ∧ Below W.heap.size W w') := fun b hb => Lib.hid fun W => by
          have := rSame_any (toF n * (x * x)).val m W (F.lt_big _) hm
          rwa [toF_of, hb] at this
        go_upto_region 7 with (fail)
        by_cases hs : toF n * (x * x) = toF m
        · have SM := SS true (decide_eq_true hs)
          have hval := Lib.hid (hhit.out hs)
          clear SS hs hhit hmiss hnext
          generalize toF n * (x * x) = s at *
          generalize x * x = sq at *
          refine wp_region_noPanic ?_
          refine wp_region_held_drew (S := (fun W => (loadFe 24 ⟨w.heap.size, 0, none⟩).run Tryd.prog W = .ok (.agg ((lims m).map nv).toArray) W ∧ (loadFe 24 ⟨w.heap.size + 1, 0, none⟩).run Tryd.prog W = .ok (.agg ((lims n).map nv).toArray) W ∧ (loadFe 24 ⟨g7, 0, none⟩).run Tryd.prog W = .ok (.agg ((lims x.val).map nv).toArray) W)) (by kernel_rfl) (by (try dsimp only); (first | exact ⟨run_loadFe (w := wr.drew) RR.a, run_loadFe (w := wr.drew) RR.b, run_loadFe (w := wr.drew) HX⟩ | exact ⟨run_loadFe R8.a, run_loadFe R8.b, run_loadFe X8⟩ | exact ⟨run_loadFe R9.a, run_loadFe R9.b, run_loadFe X9⟩ | exact ⟨run_loadFe R10.a, run_loadFe R10.b, run_loadFe X10⟩)) (fun hHeld => ?_)
          refine wpAnyH_take (i := 0) (v := ?_) rfl (by kernel_rfl) (by kernel_rfl) (by kernel_rfl) (fun _ _ _ h => h) (Or.inl ⟨by rfl, ?_⟩) (by assumption) ?_
          rotate_left
          · intro w hSw; (try dsimp only at hSw); go_simp <;> with_reducible rfl
          try simp only [Act.put, List.getElem_toArray, List.getElem_cons_zero, List.setIfInBounds_toArray, List.set_cons_zero, List.set_cons_succ]
          refine wpAnyH_take (i := 1) (v := ?_) rfl (by kernel_rfl) (by kernel_rfl) (by kernel_rfl) (fun _ _ _ h => h) (Or.inl ⟨by rfl, ?_⟩) (by assumption) ?_
          rotate_left
          · intro w hSw; (try dsimp only at hSw); go_simp <;> with_reducible rfl
          try simp only [Act.put, List.getElem_toArray, List.getElem_cons_succ, List.getElem_cons_zero, List.setIfInBounds_toArray, List.set_cons_zero, List.set_cons_succ]
          refine wpAnyH_take (i := 2) (v := ?_) rfl (by kernel_rfl) (by kernel_rfl) (by kernel_rfl) (fun _ _ _ h => h) (Or.inl ⟨by rfl, ?_⟩) (by assumption) ?_
          rotate_left
          · intro w hSw; (try dsimp only at hSw); go_simp <;> with_reducible rfl
          try simp only [Act.put, List.getElem_toArray, List.getElem_cons_succ, List.getElem_cons_zero, List.setIfInBounds_toArray, List.set_cons_zero, List.set_cons_succ]
          refine wpAnyH_take (i := 5) (v := ?_) rfl (by kernel_rfl) (by kernel_rfl) (by kernel_rfl) (fun _ _ _ h => h) (Or.inl ⟨by rfl, ?_⟩) (by assumption) ?_
          rotate_left
          · intro w hSw; (try dsimp only at hSw); go_simp <;> with_reducible rfl
          try simp only [Act.put, List.getElem_toArray, List.getElem_cons_succ, List.getElem_cons_zero, List.setIfInBounds_toArray, List.set_cons_zero, List.set_cons_succ]
          refine wpAnyH_ready (rs := [3]) (by kernel_rfl) (by simp) ?_
          refine AllReadyH.cons rfl (fun K hK => ?_) AllReadyH.nil
          go_simp
          ((first | (go_at_call 26; (with_reducible refine (MX.out _).mono ?_); rintro e w8 ⟨rfl, hb8⟩; have R8 : RB w m n w8 := (by exact RB.keep RR.drew hb8); have X8 := HoldsN.keep (W := wr.drew) HX hb8 HX.lt; have I8 := HoldsN.keep (W := wr.drew) HI hb8 HI.lt) | (go_at_call 26; (with_reducible refine (MV.out _).mono ?_); rintro e w9 ⟨rfl, hb9⟩; have R9 := R8.keep hb9; have X9 := X8.keep hb9 X8.lt; have I9 := I8.keep hb9 I8.lt) | (go_at_call 61; (with_reducible refine (SM.out _).mono ?_); rintro e w10 ⟨rfl, hb10⟩; have R10 := R9.keep hb10; have X10 := X9.keep hb10 X9.lt; have I10 := I9.keep hb10 I9.lt)))
          dsimp only
          refine hK.out _ _ ?_ (fun hHeld => ?_)
          · (try dsimp only); (first | exact ⟨run_loadFe (w := wr.drew) RR.a, run_loadFe (w := wr.drew) RR.b, run_loadFe (w := wr.drew) HX⟩ | exact ⟨run_loadFe R8.a, run_loadFe R8.b, run_loadFe X8⟩ | exact ⟨run_loadFe R9.a, run_loadFe R9.b, run_loadFe X9⟩ | exact ⟨run_loadFe R10.a, run_loadFe R10.b, run_loadFe X10⟩)
          clear hK K
          try simp only [Act.put, List.getElem_toArray, List.getElem_cons_succ, List.getElem_cons_zero, List.setIfInBounds_toArray, List.set_cons_zero, List.set_cons_succ]
          refine wpAnyH_ready (rs := [4]) (by kernel_rfl) (by simp) ?_
          refine AllReadyH.cons rfl (fun K hK => ?_) AllReadyH.nil
          go_simp
          ((first | (go_at_call 26; (with_reducible refine (MX.out _).mono ?_); rintro e w8 ⟨rfl, hb8⟩; have R8 : RB w m n w8 := (by exact RB.keep RR.drew hb8); have X8 := HoldsN.keep (W := wr.drew) HX hb8 HX.lt; have I8 := HoldsN.keep (W := wr.drew) HI hb8 HI.lt) | (go_at_call 26; (with_reducible refine (MV.out _).mono ?_); rintro e w9 ⟨rfl, hb9⟩; have R9 := R8.keep hb9; have X9 := X8.keep hb9 X8.lt; have I9 := I8.keep hb9 I8.lt) | (go_at_call 61; (with_reducible refine (SM.out _).mono ?_); rintro e w10 ⟨rfl, hb10⟩; have R10 := R9.keep hb10; have X10 := X9.keep hb10 X9.lt; have I10 := I9.keep hb10 I9.lt)))
          dsimp only
          refine hK.out _ _ ?_ (fun hHeld => ?_)
          · (try dsimp only); (first | exact ⟨run_loadFe (w := wr.drew) RR.a, run_loadFe (w := wr.drew) RR.b, run_loadFe (w := wr.drew) HX⟩ | exact ⟨run_loadFe R8.a, run_loadFe R8.b, run_loadFe X8⟩ | exact ⟨run_loadFe R9.a, run_loadFe R9.b, run_loadFe X9⟩ | exact ⟨run_loadFe R10.a, run_loadFe R10.b, run_loadFe X10⟩)
          clear hK K
          try simp only [Act.put, List.getElem_toArray, List.getElem_cons_succ, List.getElem_cons_zero, List.setIfInBounds_toArray, List.set_cons_zero, List.set_cons_succ]
          refine wpAnyH_ready (rs := [6]) (by kernel_rfl) (by simp) ?_
          refine AllReadyH.cons rfl (fun K hK => ?_) AllReadyH.nil
          go_simp
          ((first | (go_at_call 26; (with_reducible refine (MX.out _).mono ?_); rintro e w8 ⟨rfl, hb8⟩; have R8 : RB w m n w8 := (by exact RB.keep RR.drew hb8); have X8 := HoldsN.keep (W := wr.drew) HX hb8 HX.lt; have I8 := HoldsN.keep (W := wr.drew) HI hb8 HI.lt) | (go_at_call 26; (with_reducible refine (MV.out _).mono ?_); rintro e w9 ⟨rfl, hb9⟩; have R9 := R8.keep hb9; have X9 := X8.keep hb9 X8.lt; have I9 := I8.keep hb9 I8.lt) | (go_at_call 61; (with_reducible refine (SM.out _).mono ?_); rintro e w10 ⟨rfl, hb10⟩; have R10 := R9.keep hb10; have X10 := X9.keep hb10 X9.lt; have I10 := I9.keep hb10 I9.lt)))
          dsimp only
          refine hK.out _ _ ?_ (fun hHeld => ?_)
          · (try dsimp only); (first | exact ⟨run_loadFe (w := wr.drew) RR.a, run_loadFe (w := wr.drew) RR.b, run_loadFe (w := wr.drew) HX⟩ | exact ⟨run_loadFe R8.a, run_loadFe R8.b, run_loadFe X8⟩ | exact ⟨run_loadFe R9.a, run_loadFe R9.b, run_loadFe X9⟩ | exact ⟨run_loadFe R10.a, run_loadFe R10.b, run_loadFe X10⟩)
          clear hK K
          try simp only [Act.put, List.getElem_toArray, List.getElem_cons_succ, List.getElem_cons_zero, List.setIfInBounds_toArray, List.set_cons_zero, List.set_cons_succ]
          refine wpAnyH_take (i := 7) (v := ?_) rfl (by kernel_rfl) (by kernel_rfl) (by kernel_rfl) (fun _ _ _ h => h) (Or.inl ⟨by rfl, ?_⟩) (by assumption) ?_
          rotate_left
          · intro w hSw; (try dsimp only at hSw); go_simp <;> with_reducible rfl
          try simp only [Act.put, List.getElem_toArray, List.getElem_cons_succ, List.getElem_cons_zero, List.setIfInBounds_toArray, List.set_cons_zero, List.set_cons_succ]
          refine wpAnyH_done (by kernel_rfl) ?_ _
          refine NoPanic.normal ?_
          have OD : Hid (∀ W, Calls Tryd.prog 37 #[.agg ((lims x.val).map nv).toArray] W fun e w' => e = .returned (.bool (fodd x)) ∧ Below W.heap.size W w') := Lib.hid fun W => by
            have := rOdd_any x.val W (F.lt_big x)
            rwa [toF_of] at this
          have NG : Hid (∀ W, Calls Tryd.prog 31 #[.agg ((lims x.val).map nv).toArray] W fun e w' => e = .returned (.agg ((lims (-x).val).map nv).toArray) ∧ Below W.heap.size W w') := Lib.hid fun W => by
            have := rNeg_any x.val W (F.lt_big x)
            rwa [toF_of] at this
          have LE : Hid (∀ W, Calls Tryd.prog 57 #[.agg ((lims x.val).map nv).toArray] W fun e w' => e = .returned (.agg ((lims x.val).map nv).toArray) ∧ Below W.heap.size W w') := Lib.hid fun W => by
            have := rLeast_any x.val W (F.lt_big x)
            rwa [toF_of] at this
          by_cases ho : fodd x = true
          · have hy : Hid (R = (-x, true)) := Lib.hid (by rw [hval.out]; unfold even; rw [if_pos ho])
            go_wp2_with (first
              | (with_reducible refine wpList_load_n rfl 24 (.tmp 7) rfl g7 rfl (lims x.val) 4 X10 rfl Tryd.underlying24 Tryd.infoFe ?_)
              | (go_at_call 37
                 (with_reducible refine (OD.out _).mono ?_)
                 rintro e w11 ⟨rfl, hb11⟩
                 rw [ho]
                 have R11 := R10.keep hb11
                 have X11 := X10.keep hb11 X10.lt)
              | (with_reducible refine wpList_load_n rfl 24 (.tmp 7) rfl g7 rfl (lims x.val) 4 X11 rfl Tryd.underlying24 Tryd.infoFe ?_)
              | (go_at_call 31
                 (with_reducible refine (NG.out _).mono ?_)
                 rintro e w12 ⟨rfl, hb12⟩
                 have R12 := R11.keep hb12)
              | (with_reducible refine wpList_store_n rfl 24 (.tmp 4) (.tmp 36) rfl (w.heap.size + 2) (lims (-x).val) 4 rfl rfl rfl (lims 0) R12.c Tryd.infoFe rfl w.heap.size w R12.d (by omega) ?_; intro w13 Hg _ _ hb13))
            exact bodyPost_ret (results_cell_slot rfl _ _ (w.heap.size + 2) _ _ _ _ rfl Hg Tryd.underlying24 rfl (by rw [Tryd.infoFe]; rfl)) rfl ⟨by rw [hy.out]; rfl, hb13⟩
          · have hy : Hid (R = (x, true)) := Lib.hid (by rw [hval.out]; unfold even; rw [if_neg ho])
            have ho' : fodd x = false := by simpa using ho
            go_wp2_with (first
              | (with_reducible refine wpList_load_n rfl 24 (.tmp 7) rfl g7 rfl (lims x.val) 4 X10 rfl Tryd.underlying24 Tryd.infoFe ?_)
              | (go_at_call 37
                 (with_reducible refine (OD.out _).mono ?_)
                 rintro e w11 ⟨rfl, hb11⟩
                 rw [ho']
                 have R11 := R10.keep hb11
                 have X11 := X10.keep hb11 X10.lt)
              | (with_reducible refine wpList_load_n rfl 24 (.tmp 7) rfl g7 rfl (lims x.val) 4 X11 rfl Tryd.underlying24 Tryd.infoFe ?_)
              | (go_at_call 57
                 (with_reducible refine (LE.out _).mono ?_)
                 rintro e w12 ⟨rfl, hb12⟩
                 have R12 := R11.keep hb12)
              | (with_reducible refine wpList_store_n rfl 24 (.tmp 4) (.tmp 38) rfl (w.heap.size + 2) (lims x.val) 4 rfl rfl rfl (lims 0) R12.c Tryd.infoFe rfl w.heap.size w R12.d (by omega) ?_; intro w13 Hg _ _ hb13))
            exact bodyPost_ret (results_cell_slot rfl _ _ (w.heap.size + 2) _ _ _ _ rfl Hg Tryd.underlying24 rfl (by rw [Tryd.infoFe]; rfl)) rfl ⟨by rw [hy.out]; rfl, hb13⟩
        · have SM := SS false (decide_eq_false hs)
          have hval := Lib.hid (hmiss.out hs)
          clear SS hs hhit hmiss
          generalize toF n * (x * x) = s at *
          generalize x * x = sq at *
          refine wp_region_noPanic ?_
          refine wp_region_held_drew (S := (fun W => (loadFe 24 ⟨w.heap.size, 0, none⟩).run Tryd.prog W = .ok (.agg ((lims m).map nv).toArray) W ∧ (loadFe 24 ⟨w.heap.size + 1, 0, none⟩).run Tryd.prog W = .ok (.agg ((lims n).map nv).toArray) W ∧ (loadFe 24 ⟨g7, 0, none⟩).run Tryd.prog W = .ok (.agg ((lims x.val).map nv).toArray) W)) (by kernel_rfl) (by (try dsimp only); (first | exact ⟨run_loadFe (w := wr.drew) RR.a, run_loadFe (w := wr.drew) RR.b, run_loadFe (w := wr.drew) HX⟩ | exact ⟨run_loadFe R8.a, run_loadFe R8.b, run_loadFe X8⟩ | exact ⟨run_loadFe R9.a, run_loadFe R9.b, run_loadFe X9⟩ | exact ⟨run_loadFe R10.a, run_loadFe R10.b, run_loadFe X10⟩)) (fun hHeld => ?_)
          refine wpAnyH_take (i := 0) (v := ?_) rfl (by kernel_rfl) (by kernel_rfl) (by kernel_rfl) (fun _ _ _ h => h) (Or.inl ⟨by rfl, ?_⟩) (by assumption) ?_
          rotate_left
          · intro w hSw; (try dsimp only at hSw); go_simp <;> with_reducible rfl
          try simp only [Act.put, List.getElem_toArray, List.getElem_cons_zero, List.setIfInBounds_toArray, List.set_cons_zero, List.set_cons_succ]
          refine wpAnyH_take (i := 1) (v := ?_) rfl (by kernel_rfl) (by kernel_rfl) (by kernel_rfl) (fun _ _ _ h => h) (Or.inl ⟨by rfl, ?_⟩) (by assumption) ?_
          rotate_left
          · intro w hSw; (try dsimp only at hSw); go_simp <;> with_reducible rfl
          try simp only [Act.put, List.getElem_toArray, List.getElem_cons_succ, List.getElem_cons_zero, List.setIfInBounds_toArray, List.set_cons_zero, List.set_cons_succ]
          refine wpAnyH_take (i := 2) (v := ?_) rfl (by kernel_rfl) (by kernel_rfl) (by kernel_rfl) (fun _ _ _ h => h) (Or.inl ⟨by rfl, ?_⟩) (by assumption) ?_
          rotate_left
          · intro w hSw; (try dsimp only at hSw); go_simp <;> with_reducible rfl
          try simp only [Act.put, List.getElem_toArray, List.getElem_cons_succ, List.getElem_cons_zero, List.setIfInBounds_toArray, List.set_cons_zero, List.set_cons_succ]
          refine wpAnyH_take (i := 5) (v := ?_) rfl (by kernel_rfl) (by kernel_rfl) (by kernel_rfl) (fun _ _ _ h => h) (Or.inl ⟨by rfl, ?_⟩) (by assumption) ?_
          rotate_left
          · intro w hSw; (try dsimp only at hSw); go_simp <;> with_reducible rfl
          try simp only [Act.put, List.getElem_toArray, List.getElem_cons_succ, List.getElem_cons_zero, List.setIfInBounds_toArray, List.set_cons_zero, List.set_cons_succ]
          refine wpAnyH_ready (rs := [3]) (by kernel_rfl) (by simp) ?_
          refine AllReadyH.cons rfl (fun K hK => ?_) AllReadyH.nil
          go_simp
          ((first | (go_at_call 26; (with_reducible refine (MX.out _).mono ?_); rintro e w8 ⟨rfl, hb8⟩; have R8 : RB w m n w8 := (by exact RB.keep RR.drew hb8); have X8 := HoldsN.keep (W := wr.drew) HX hb8 HX.lt; have I8 := HoldsN.keep (W := wr.drew) HI hb8 HI.lt) | (go_at_call 26; (with_reducible refine (MV.out _).mono ?_); rintro e w9 ⟨rfl, hb9⟩; have R9 := R8.keep hb9; have X9 := X8.keep hb9 X8.lt; have I9 := I8.keep hb9 I8.lt) | (go_at_call 61; (with_reducible refine (SM.out _).mono ?_); rintro e w10 ⟨rfl, hb10⟩; have R10 := R9.keep hb10; have X10 := X9.keep hb10 X9.lt; have I10 := I9.keep hb10 I9.lt)))
          dsimp only
          refine hK.out _ _ ?_ (fun hHeld => ?_)
          · (try dsimp only); (first | exact ⟨run_loadFe (w := wr.drew) RR.a, run_loadFe (w := wr.drew) RR.b, run_loadFe (w := wr.drew) HX⟩ | exact ⟨run_loadFe R8.a, run_loadFe R8.b, run_loadFe X8⟩ | exact ⟨run_loadFe R9.a, run_loadFe R9.b, run_loadFe X9⟩ | exact ⟨run_loadFe R10.a, run_loadFe R10.b, run_loadFe X10⟩)
          clear hK K
          try simp only [Act.put, List.getElem_toArray, List.getElem_cons_succ, List.getElem_cons_zero, List.setIfInBounds_toArray, List.set_cons_zero, List.set_cons_succ]
          refine wpAnyH_ready (rs := [4]) (by kernel_rfl) (by simp) ?_
          refine AllReadyH.cons rfl (fun K hK => ?_) AllReadyH.nil
          go_simp
          ((first | (go_at_call 26; (with_reducible refine (MX.out _).mono ?_); rintro e w8 ⟨rfl, hb8⟩; have R8 : RB w m n w8 := (by exact RB.keep RR.drew hb8); have X8 := HoldsN.keep (W := wr.drew) HX hb8 HX.lt; have I8 := HoldsN.keep (W := wr.drew) HI hb8 HI.lt) | (go_at_call 26; (with_reducible refine (MV.out _).mono ?_); rintro e w9 ⟨rfl, hb9⟩; have R9 := R8.keep hb9; have X9 := X8.keep hb9 X8.lt; have I9 := I8.keep hb9 I8.lt) | (go_at_call 61; (with_reducible refine (SM.out _).mono ?_); rintro e w10 ⟨rfl, hb10⟩; have R10 := R9.keep hb10; have X10 := X9.keep hb10 X9.lt; have I10 := I9.keep hb10 I9.lt)))
          dsimp only
          refine hK.out _ _ ?_ (fun hHeld => ?_)
          · (try dsimp only); (first | exact ⟨run_loadFe (w := wr.drew) RR.a, run_loadFe (w := wr.drew) RR.b, run_loadFe (w := wr.drew) HX⟩ | exact ⟨run_loadFe R8.a, run_loadFe R8.b, run_loadFe X8⟩ | exact ⟨run_loadFe R9.a, run_loadFe R9.b, run_loadFe X9⟩ | exact ⟨run_loadFe R10.a, run_loadFe R10.b, run_loadFe X10⟩)
          clear hK K
          try simp only [Act.put, List.getElem_toArray, List.getElem_cons_succ, List.getElem_cons_zero, List.setIfInBounds_toArray, List.set_cons_zero, List.set_cons_succ]
          refine wpAnyH_ready (rs := [6]) (by kernel_rfl) (by simp) ?_
          refine AllReadyH.cons rfl (fun K hK => ?_) AllReadyH.nil
          go_simp
          ((first | (go_at_call 26; (with_reducible refine (MX.out _).mono ?_); rintro e w8 ⟨rfl, hb8⟩; have R8 : RB w m n w8 := (by exact RB.keep RR.drew hb8); have X8 := HoldsN.keep (W := wr.drew) HX hb8 HX.lt; have I8 := HoldsN.keep (W := wr.drew) HI hb8 HI.lt) | (go_at_call 26; (with_reducible refine (MV.out _).mono ?_); rintro e w9 ⟨rfl, hb9⟩; have R9 := R8.keep hb9; have X9 := X8.keep hb9 X8.lt; have I9 := I8.keep hb9 I8.lt) | (go_at_call 61; (with_reducible refine (SM.out _).mono ?_); rintro e w10 ⟨rfl, hb10⟩; have R10 := R9.keep hb10; have X10 := X9.keep hb10 X9.lt; have I10 := I9.keep hb10 I9.lt)))
          dsimp only
          refine hK.out _ _ ?_ (fun hHeld => ?_)
          · (try dsimp only); (first | exact ⟨run_loadFe (w := wr.drew) RR.a, run_loadFe (w := wr.drew) RR.b, run_loadFe (w := wr.drew) HX⟩ | exact ⟨run_loadFe R8.a, run_loadFe R8.b, run_loadFe X8⟩ | exact ⟨run_loadFe R9.a, run_loadFe R9.b, run_loadFe X9⟩ | exact ⟨run_loadFe R10.a, run_loadFe R10.b, run_loadFe X10⟩)
          clear hK K
          try simp only [Act.put, List.getElem_toArray, List.getElem_cons_succ, List.getElem_cons_zero, List.setIfInBounds_toArray, List.set_cons_zero, List.set_cons_succ]
          refine wpAnyH_take (i := 7) (v := ?_) rfl (by kernel_rfl) (by kernel_rfl) (by kernel_rfl) (fun _ _ _ h => h) (Or.inl ⟨by rfl, ?_⟩) (by assumption) ?_
          rotate_left
          · intro w hSw; (try dsimp only at hSw); go_simp <;> with_reducible rfl
          try simp only [Act.put, List.getElem_toArray, List.getElem_cons_succ, List.getElem_cons_zero, List.setIfInBounds_toArray, List.set_cons_zero, List.set_cons_succ]
          refine wpAnyH_done (by kernel_rfl) ?_ _
          refine NoPanic.normal ?_
          have MI : Hid (∀ W, Calls Tryd.prog 26 #[.agg ((lims x.val).map nv).toArray, .agg ((lims im.val).map nv).toArray] W fun e w' => e = .returned (.agg ((lims (x * im).val).map nv).toArray) ∧ Below W.heap.size W w') := Lib.hid fun W => by
            have := rMul_any x.val im.val W (F.lt_big x) (F.lt_big im)
            rwa [toF_of, toF_of] at this
          go_wp2_with (first
            | (with_reducible refine wpList_load_n rfl 24 (.tmp 7) rfl g7 rfl (lims x.val) 4 X10 rfl Tryd.underlying24 Tryd.infoFe ?_)
            | (with_reducible refine wpList_load_n rfl 24 (.tmp 8) rfl g8 rfl (lims im.val) 4 I10 rfl Tryd.underlying24 Tryd.infoFe ?_)
            | (go_at_call 26
               (with_reducible refine (MI.out _).mono ?_)
               rintro e w11 ⟨rfl, hb11⟩
               have R11 := R10.keep hb11
               have X11 := X10.keep hb11 X10.lt
               have I11 := I10.keep hb11 I10.lt)
            | (with_reducible refine wpList_store_n rfl 24 (.tmp 7) (.tmp 41) rfl g7 (lims (x * im).val) 4 rfl rfl rfl (lims x.val) X11 Tryd.infoFe rfl w.heap.size w R11.d (by omega) ?_
               intro w13 X13 o13 s13 hb13
               have R13 := R11.oth o13 hb13 (by omega)
               have I13 := I11.oth o13 (by omega)))
          go_roundw
          case rel => exact ⟨k + 1, by omega, by go_num, hval.out, by rw [hnext.out]; exact X13, I13, R13⟩
          case measure => simp [intOf]; omega
      · rw [show (k : Int) = 2 by omega]
        obtain rfl : k = 2 := by omega
        have hval := Lib.hid (hR.out.trans (rootAt_miss hf))
        clear HX HI
        go_wp2_with (with_reducible refine wpList_store_n rfl 24 (.tmp 4) (.tmp 42) rfl (w.heap.size + 2) (lims 0) 4 rfl (by with_unfolding_all rfl) rfl (lims 0) RR.c Tryd.infoFe rfl w.heap.size w RR.d (by omega) ?_; intro w13 Hg _ _ hb13)
        exact bodyPost_ret (results_cell_slot rfl _ _ (w.heap.size + 2) _ _ _ _ rfl Hg Tryd.underlying24 rfl (by rw [Tryd.infoFe]; rfl)) rfl ⟨by rw [hval.out]; rfl, hb13⟩
end
end Go.Proofs.YtlfkohanfeejfaaDoor
