/-
  The statements' head: calls whose answers the document fixes.
-/
import Derived.Test.YtbkmbbhgpogeiaaTexts
import Derived.Test.YtbkmbbhgpogeiaaSame
import Derived.Test.YtbkmbbhgpogeiaaTake
import Derived.Lib.SlBytesConst
namespace Go.Proofs.Ytbkmbbhgpogeiaa
open Go.RowKit

theorem Sees.lit (w : World) (C : Array Value) (t : TypeId) (fr : Nat × Nat) (l : List UInt8) (n : Nat) (hC : C.toList = l.map bv) (hn : l.length = n) (hm : n ≤ 2147483647) :
    Sees (w.alloc (.cells C t fr)) (w.heap.size + 1) (some ⟨w.heap.size, 0, none⟩) n n (l.map bv) :=
  ⟨by rw [List.length_map, hn], Nat.le_refl _, by simp only [maxLen]; omega, (fun h => by cases h), fun _ => ⟨w.heap.size, 0, rfl, by omega, fun j u hu => by
    rw [Nat.zero_add, World.cell?_alloc_mark, ← Array.getElem?_toList, hC]; exact hu⟩⟩

/-- A whole key read out of its block, under a name that the walk does not open. -/
def loadVeil (t : TypeId) (a : Addr) : Sem Value := loadVar t a
theorem load_veil (a : Addr) : loadVar 36 a = loadVeil 36 a := rfl
attribute [local go_sem ↓] load_veil

theorem SeesL.two (w : World) (e : TypeId) {A0 A1 : Option Addr} {n0 n1 c0 c1 : Nat} {l0 l1 : List UInt8} (h0 : Sees w w.heap.size A0 n0 c0 (l0.map bv)) (h1 : Sees w w.heap.size A1 n1 c1 (l1.map bv)) :
    SeesL (w.alloc (.cells #[.slice A0 n0 c0, .slice A1 n1 c1] e)) (w.heap.size + 1) (some ⟨w.heap.size, 0, none⟩) 2 2 [l0, l1] := by
  have e0 := h0.len
  have e1 := h1.len
  rw [List.length_map] at e0 e1
  subst e0 e1
  refine SeesL.lit w e [.slice A0 l0.length c0, .slice A1 l1.length c1] [l0, l1] rfl (by simp [maxLen]) fun i v l hv hl => ?_
  match i, hv, hl with
  | 0, hv, hl => simp at hv hl; subst hv hl; exact ⟨A0, c0, rfl, h0⟩
  | 1, hv, hl => simp at hv hl; subst hv hl; exact ⟨A1, c1, rfl, h1⟩
  | i + 2, hv, hl => simp at hv

theorem Same_true (A A' : Option Addr) (n c c' B B' : Nat) (la : List (List UInt8)) (w : World) (ha : SeesL w B A n c la) (hb : SeesL w B' A' n c' la) (hm : n ≤ 2147483647) :
    Calls Try.prog 17 #[.slice A n c, .slice A' n c'] w fun e w' => e = .returned (.bool true) ∧ Below w.heap.size w w' := by
  have h := Same_any A A' n c c' B B' la la w ha hb hm
  rwa [decide_eq_true rfl] at h

theorem run_loadVeil {w : World} {g : Nat} {l : List UInt8} (hl : l.length = 32) (hg : w.heap[g]? = some (.cells (l.map bv).toArray 36 (0, 0))) : (loadVeil 36 ⟨g, 0, none⟩).run Try.prog w = .ok (kv l) w :=
  run_loadVar_row w g 36 36 _ (0, 0) _ hg Try.underlying36 rfl (by rw [Try.info32, (kv_cells l hl).1])

/-- What the conversions of the head come to, and the call of Same, world by world. -/
theorem awake_facts (w9 : World) (A1 A2 A3 A6 : Option Addr) (c1 c2 c3 c6 : Nat) (h1 : Sees w9 w9.heap.size A1 3 c1 (([7, 1, 2] : List UInt8).map bv)) (h2 : Sees w9 w9.heap.size A2 1 c2 (([9] : List UInt8).map bv))
    (h3 : Sees w9 w9.heap.size A3 4 c3 (([0, 2, 97, 98] : List UInt8).map bv)) (h6 : SeesL w9 w9.heap.size A6 2 c6 [[97, 98], []]) :
    (convert 22 9 (.slice A1 3 c1)).run Try.prog w9 = .ok (.string (strOf [7, 1, 2])) w9 ∧
    (convert 22 9 (.slice (some ⟨w9.heap.size, 0, none⟩) 3 3)).run Try.prog (w9.alloc (.cells #[.int .u8 7, .int .u8 1, .int .u8 2] 5)) = .ok (.string (strOf [7, 1, 2])) (w9.alloc (.cells #[.int .u8 7, .int .u8 1, .int .u8 2] 5)) ∧
    (convert 22 9 (.slice A2 1 c2)).run Try.prog (w9.alloc (.cells #[.int .u8 7, .int .u8 1, .int .u8 2] 5)) = .ok (.string (strOf [9])) (w9.alloc (.cells #[.int .u8 7, .int .u8 1, .int .u8 2] 5)) ∧
    (convert 22 9 (.slice (some ⟨w9.heap.size + 1, 0, none⟩) 1 1)).run Try.prog ((w9.alloc (.cells #[.int .u8 7, .int .u8 1, .int .u8 2] 5)).alloc (.cells #[.int .u8 9] 5)) = .ok (.string (strOf [9])) ((w9.alloc (.cells #[.int .u8 7, .int .u8 1, .int .u8 2] 5)).alloc (.cells #[.int .u8 9] 5)) ∧
    (convert 22 9 (.slice A3 4 c3)).run Try.prog ((w9.alloc (.cells #[.int .u8 7, .int .u8 1, .int .u8 2] 5)).alloc (.cells #[.int .u8 9] 5)) = .ok (.string (strOf [0, 2, 97, 98])) ((w9.alloc (.cells #[.int .u8 7, .int .u8 1, .int .u8 2] 5)).alloc (.cells #[.int .u8 9] 5)) ∧
    (convert 22 9 (.slice (some ⟨w9.heap.size + 1 + 1, 0, none⟩) 4 4)).run Try.prog (((w9.alloc (.cells #[.int .u8 7, .int .u8 1, .int .u8 2] 5)).alloc (.cells #[.int .u8 9] 5)).alloc (.cells #[.int .u8 0, .int .u8 2, .int .u8 97, .int .u8 98] 5)) = .ok (.string (strOf [0, 2, 97, 98])) (((w9.alloc (.cells #[.int .u8 7, .int .u8 1, .int .u8 2] 5)).alloc (.cells #[.int .u8 9] 5)).alloc (.cells #[.int .u8 0, .int .u8 2, .int .u8 97, .int .u8 98] 5)) ∧
    (convert 22 22 (.slice (some ⟨w9.heap.size + 1 + 1 + 1, 0, none⟩) 2 2)).run Try.prog ((((w9.alloc (.cells #[.int .u8 7, .int .u8 1, .int .u8 2] 5)).alloc (.cells #[.int .u8 9] 5)).alloc (.cells #[.int .u8 0, .int .u8 2, .int .u8 97, .int .u8 98] 5)).alloc (.cells #[.int .u8 97, .int .u8 98] 5)) = .ok (.slice (some ⟨w9.heap.size + 1 + 1 + 1, 0, none⟩) 2 2) ((((w9.alloc (.cells #[.int .u8 7, .int .u8 1, .int .u8 2] 5)).alloc (.cells #[.int .u8 9] 5)).alloc (.cells #[.int .u8 0, .int .u8 2, .int .u8 97, .int .u8 98] 5)).alloc (.cells #[.int .u8 97, .int .u8 98] 5 (2, 3))) ∧
    Hid (Calls Try.prog 17 #[.slice A6 2 c6, .slice (some ⟨w9.heap.size + 1 + 1 + 1 + 1, 0, none⟩) 2 2] (((((w9.alloc (.cells #[.int .u8 7, .int .u8 1, .int .u8 2] 5)).alloc (.cells #[.int .u8 9] 5)).alloc (.cells #[.int .u8 0, .int .u8 2, .int .u8 97, .int .u8 98] 5)).alloc (.cells #[.int .u8 97, .int .u8 98] 5 (2, 3))).alloc (.cells #[.slice (some ⟨w9.heap.size + 1 + 1 + 1, 0, none⟩) 2 2, .slice none 0 0] 22)) fun e w' => e = .returned (.bool true) ∧ Below w9.heap.size w9 w') := by
  have hR := SeesL.two (l0 := [97, 98]) (l1 := ([] : List UInt8)) ((((w9.alloc (.cells #[.int .u8 7, .int .u8 1, .int .u8 2] 5)).alloc (.cells #[.int .u8 9] 5)).alloc (.cells #[.int .u8 0, .int .u8 2, .int .u8 97, .int .u8 98] 5)).alloc (.cells #[.int .u8 97, .int .u8 98] 5 (2, 3))) 22 (by have h := Sees.lit (((w9.alloc (.cells #[.int .u8 7, .int .u8 1, .int .u8 2] 5)).alloc (.cells #[.int .u8 9] 5)).alloc (.cells #[.int .u8 0, .int .u8 2, .int .u8 97, .int .u8 98] 5)) #[.int .u8 97, .int .u8 98] 5 (2, 3) [97, 98] 2 rfl rfl (by omega); exact h.more (by simp)) (Sees.none_ (B := ((((w9.alloc (.cells #[.int .u8 7, .int .u8 1, .int .u8 2] 5)).alloc (.cells #[.int .u8 9] 5)).alloc (.cells #[.int .u8 0, .int .u8 2, .int .u8 97, .int .u8 98] 5)).alloc (.cells #[.int .u8 97, .int .u8 98] 5 (2, 3))).heap.size))
  have hL := (((((h6.alloc (Nat.le_refl _) (.cells #[.int .u8 7, .int .u8 1, .int .u8 2] 5)).alloc (by simp) (.cells #[.int .u8 9] 5)).alloc (by simp; omega) (.cells #[.int .u8 0, .int .u8 2, .int .u8 97, .int .u8 98] 5)).alloc (by simp; omega) (.cells #[.int .u8 97, .int .u8 98] 5 (2, 3)))).alloc (by simp; omega) (.cells #[.slice (some ⟨w9.heap.size + 1 + 1 + 1, 0, none⟩) 2 2, .slice none 0 0] 22)
  have hBe : Below w9.heap.size w9 (((((w9.alloc (.cells #[.int .u8 7, .int .u8 1, .int .u8 2] 5)).alloc (.cells #[.int .u8 9] 5)).alloc (.cells #[.int .u8 0, .int .u8 2, .int .u8 97, .int .u8 98] 5)).alloc (.cells #[.int .u8 97, .int .u8 98] 5 (2, 3))).alloc (.cells #[.slice (some ⟨w9.heap.size + 1 + 1 + 1, 0, none⟩) 2 2, .slice none 0 0] 22)) := (((((Below.refl _ w9).alloc (Nat.le_refl _) _).alloc (by simp) _).alloc (by simp; omega) _).alloc (by simp; omega) _).alloc (by simp; omega) _
  have kc4 := Lib.run_convert_bytes_const (P := Try.prog) (((w9.alloc (.cells #[.int .u8 7, .int .u8 1, .int .u8 2] 5)).alloc (.cells #[.int .u8 9] 5)).alloc (.cells #[.int .u8 0, .int .u8 2, .int .u8 97, .int .u8 98] 5)) 22 5 #[.int .u8 97, .int .u8 98] 2 2 Try.underlying22 Try.underlying5
  have hcL2 := run_convert_sees (P := Try.prog) 22 9 5 Try.underlying22 Try.underlying5 Try.underlying9 (Sees.lit (w9.alloc (.cells #[.int .u8 7, .int .u8 1, .int .u8 2] 5)) #[.int .u8 9] 5 (0, 0) [9] 1 rfl rfl (by omega))
  have hcL3 := run_convert_sees (P := Try.prog) 22 9 5 Try.underlying22 Try.underlying5 Try.underlying9 (Sees.lit ((w9.alloc (.cells #[.int .u8 7, .int .u8 1, .int .u8 2] 5)).alloc (.cells #[.int .u8 9] 5)) #[.int .u8 0, .int .u8 2, .int .u8 97, .int .u8 98] 5 (0, 0) [0, 2, 97, 98] 4 rfl rfl (by omega))
  simp only [World.size_alloc] at hR kc4 hcL2 hcL3
  refine ⟨run_convert_sees (P := Try.prog) 22 9 5 Try.underlying22 Try.underlying5 Try.underlying9 h1, run_convert_sees (P := Try.prog) 22 9 5 Try.underlying22 Try.underlying5 Try.underlying9 (Sees.lit w9 #[.int .u8 7, .int .u8 1, .int .u8 2] 5 (0, 0) [7, 1, 2] 3 rfl rfl (by omega)), run_convert_sees (P := Try.prog) 22 9 5 Try.underlying22 Try.underlying5 Try.underlying9 (h2.alloc (Nat.le_refl _) _), hcL2, run_convert_sees (P := Try.prog) 22 9 5 Try.underlying22 Try.underlying5 Try.underlying9 ((h3.alloc (Nat.le_refl _) _).alloc (by simp) _), hcL3, kc4, ?_⟩
  exact Lib.hid ((Same_true _ _ _ _ _ _ _ _ _ hL hR (by omega)).mono fun e w' h => ⟨h.1, hBe.trans (h.2.mono hBe.size)⟩)

set_option maxRecDepth 100000 in
set_option maxHeartbeats 1000000 in
theorem awake_any (w : World) : Calls Try.prog 8 #[] w fun e w' => e = .returned (.bool true) ∧ Below w.heap.size w w' := by
  have kc := fun (w : World) (C : Array Value) (n c : Nat) => Lib.run_convert_bytes_const (P := Try.prog) w 22 5 C n c Try.underlying22 Try.underlying5
  go_enter Try.func8, Try.ntmps8
  go_wp2_with fail
  refine (Put_ok _ _ _ _ [7] _ _ _ (Sees.lit w _ _ _ [7] 1 rfl rfl (by omega)) (by simp) (by omega) (by omega) (by omega) (by omega) (by omega) (by decide)).mono ?_
  rintro e w1 ⟨A1, c1, rfl, hown1, hb1⟩
  go_wp2_with fail
  refine (Put_big _ _ _ _ _ _ (by omega) (by omega) (by decide)).mono ?_
  rintro e w1' ⟨rfl, rfl⟩
  have hs1 : Sees w1 w1.heap.size A1 3 c1 (([7, 1, 2] : List UInt8).map bv) := by
    have e : ([7] ++ beBytes (Int.toNat 2) (Int.toNat 258) : List UInt8) = [7, 1, 2] := by decide
    have h := Sees.of_own hown1
    rw [e] at h
    exact h
  have hB1 : Below w.heap.size w w1 := ((Below.refl _ w).alloc (Nat.le_refl _) _).trans (hb1.mono (by simp))
  clear hown1 hb1
  go_wp2_with fail
  have ht := Take_ok _ _ _ _ [1, 2, 9] 2 _ (Sees.lit w1 #[.int .u8 1, .int .u8 2, .int .u8 9] 5 (0, 0) [1, 2, 9] 3 rfl rfl (by omega)) (by simp) (by omega) (by omega) (by omega) (by omega)
  rw [show beNum (([1, 2, 9] : List UInt8).take (2 : Int).toNat) = 258 by decide] at ht
  refine ht.mono ?_
  clear ht
  rintro e w2 ⟨A2, c2, rfl, hown2, hb2⟩
  have hs2 : Sees w2 w2.heap.size A2 1 c2 (([9] : List UInt8).map bv) := Sees.of_own hown2
  have hb2' : Below w1.heap.size w1 w2 := ((Below.refl _ w1).alloc (Nat.le_refl _) _).trans (hb2.mono (by simp))
  have hB2 : Below w.heap.size w w2 := hB1.trans (hb2'.mono hB1.size)
  clear hown2 hb2
  go_wp2_with fail
  refine (Text_ok _ _ _ _ _ _ 0 _ [] [97, 98] _ Sees.none_ (Sees.lit w2 _ _ _ [97, 98] 2 rfl rfl (by omega)) (by omega) (by simp) (by omega) (by omega)).mono ?_
  rintro e w3 ⟨A3, c3, rfl, hs3, hb3⟩
  have hs3 : Sees w3 w3.heap.size A3 4 c3 (([0, 2, 97, 98] : List UInt8).map bv) := by
    have e : textOf [] [97, 98] = [0, 2, 97, 98] := by decide
    rw [e] at hs3
    exact hs3
  have hb3' : Below w2.heap.size w2 w3 := ((Below.refl _ w2).alloc (Nat.le_refl _) _).trans (hb3.mono (by simp))
  have hB3 : Below w.heap.size w w3 := hB2.trans (hb3'.mono hB2.size)
  clear hb3
  obtain ⟨i0, hi0, hz0, hz1, hz2⟩ := info_parts Try.infoU8
  have Hz2 := Lib.hid hz2
  clear hz2
  go_wp2_with (first
    | (at_builtin; refine wpList_append_sees _ rfl (.tmp 37) (.tmp 38) _ rfl w3.heap.size 5 i0 _ 1 Try.underlying22 hi0 hz0 hz1 Hz2.out rfl (.slice (some ⟨w3.heap.size, 0, none⟩) 0 0) 0 [] rfl (World.ownsRow_lit w3 #[] 0 (Nat.le_refl _) (by simp [maxLen]) rfl) w3.heap.size A3 4 c3 (([0, 2, 97, 98] : List UInt8).map bv) rfl (hs3.alloc (Nat.le_refl _) _) (bv_one _) (by simp only [maxLen]; omega) (by omega) (by simp) w3.heap.size w3 ((Below.refl _ _).alloc (Nat.le_refl _) _) (Nat.le_refl _) ?_; intro A4 c4 w4 hown4 hb4)
    | (at_builtin; refine wpList_append_sees _ rfl (.tmp 39) (.tmp 40) _ rfl w3.heap.size 5 i0 _ 1 Try.underlying22 hi0 hz0 hz1 Hz2.out rfl (.slice A4 4 c4) 4 _ rfl (hown4.alloc _) (w4.heap.size + 1) (some ⟨w4.heap.size, 0, none⟩) 2 2 (([0, 0] : List UInt8).map bv) rfl (Sees.lit w4 _ _ _ [0, 0] 2 rfl rfl (by omega)) (bv_one _) (by simp only [maxLen]; omega) (by omega) (by have := hb4.size; simp; omega) w3.heap.size w3 (hb4.alloc hb4.size _) (Nat.le_refl _) ?_; intro A5 c5 w5 hown5 hb5))
  have hs5 : Sees w5 w5.heap.size A5 6 c5 (([0, 2, 97, 98, 0, 0] : List UInt8).map bv) := Sees.of_own hown5
  have hB5 : Below w.heap.size w w5 := hB3.trans (hb5.mono hB3.size)
  clear hown5 hown4 hb4
  refine (Texts_any _ _ _ _ [0, 2, 97, 98, 0, 0] _ hs5 (Nat.le_refl _) (by omega)).mono ?_
  rw [show textsOf [0, 2, 97, 98, 0, 0] = some [[97, 98], []] by decide]
  rintro e w6 (⟨h, _⟩ | ⟨ls, A6, n6, c6, h, rfl, hs6, hb6⟩)
  · cases h
  injection h with h
  subst h
  obtain rfl : 2 = n6 := hs6.len
  have hB6 : Below w.heap.size w w6 := hB5.trans (hb6.mono hB5.size)
  go_wp2_with fail
  refine (Texts_any _ _ _ _ [0] _ (Sees.lit w6 _ _ _ [0] 1 rfl rfl (by omega)) (by simp) (by omega)).mono ?_
  rw [show textsOf [0] = none by decide]
  rintro e w7 (⟨_, rfl, hb7⟩ | ⟨ls, A7, n7, c7, h, _⟩)
  rotate_left
  · cases h
  have hb7' : Below w6.heap.size w6 w7 := ((Below.refl _ w6).alloc (Nat.le_refl _) _).trans (hb7.mono (by simp))
  have hB7 : Below w.heap.size w w7 := hB6.trans (hb7'.mono hB6.size)
  clear hb7
  go_wp2_with fail
  refine (Turn_in (List.replicate 32 0) _ _ (by omega) (by omega) (by simp)).mono ?_
  rintro e w8 ⟨rfl, hb8⟩
  have hl2 : (kturn (List.replicate 32 0) (Int.toNat 9)).length = 32 := by simp [kturn_length]
  have hk1 : (kturn (List.replicate 32 0) (Int.toNat 9))[1]? = some 64 := by decide
  have hbit9 : ∀ W, Calls Try.prog 18 #[kv (kturn (List.replicate 32 0) (Int.toNat 9)), .int .i64 9] W (GaveInt W 1) := fun W => by
    have h := Bit_in (kturn (List.replicate 32 0) (Int.toNat 9)) 9 W (by omega) (by omega) hl2
    rw [show kbit (kturn (List.replicate 32 0) (Int.toNat 9)) (Int.toNat 9) = 1 by decide] at h
    exact h
  have hbit8 : ∀ W, Calls Try.prog 18 #[kv (kturn (List.replicate 32 0) (Int.toNat 9)), .int .i64 8] W (GaveInt W 0) := fun W => by
    have h := Bit_in (kturn (List.replicate 32 0) (Int.toNat 9)) 8 W (by omega) (by omega) hl2
    rw [show kbit (kturn (List.replicate 32 0) (Int.toNat 9)) (Int.toNat 8) = 0 by decide] at h
    exact h
  have hcmp : ∀ W, Calls Try.prog 22 #[kv (kturn (List.replicate 32 0) (Int.toNat 9)), kv (List.replicate 32 0)] W (GaveInt W 1) := fun W => by
    have h := Compare_any (kturn (List.replicate 32 0) (Int.toNat 9)) (List.replicate 32 0) W hl2 (by simp)
    rw [show kcmp (kturn (List.replicate 32 0) (Int.toNat 9)) (List.replicate 32 0) = 1 by decide] at h
    exact h
  generalize kturn (List.replicate 32 0) (Int.toNat 9) = l2 at *
  have HL2 := Lib.hid hl2
  have HK1 := Lib.hid hk1
  have HB9 := Lib.hid hbit9
  have HB8 := Lib.hid hbit8
  have HC := Lib.hid hcmp
  clear hl2 hk1 hbit9 hbit8 hcmp
  go_wp2_with (first
    | (with_reducible refine wpList_store_key rfl 36 (.tmp 14) (.tmp 51) rfl w8.heap.size l2 HL2.out rfl rfl _ (heap_alloc_new w8 _) Try.info32 rfl w8.heap.size w8 ((Below.refl _ _).alloc (Nat.le_refl _) _) (Nat.le_refl _) ?_
       intro w9 Hg _ hsz9 hb9
       have hlt9 : w8.heap.size < w9.heap.size := by rw [hsz9]; simp
       clear hsz9
       have h79 : Below w7.heap.size w7 w9 := hb8.trans (hb9.mono hb8.size)
       have h69 := hb7'.trans (h79.mono hb7'.size)
       have h59 := hb6.trans (h69.mono hb6.size)
       have h39 := hb5.trans (h59.mono hb5.size)
       have h29 := hb3'.trans (h39.mono hb3'.size)
       have h19 := hb2'.trans (h29.mono hb2'.size)
       have hB9 := hB7.trans (h79.mono hB7.size)
       obtain ⟨f1, f2, f3, f4, f5, f6, f7, HS⟩ := awake_facts w9 A1 A2 A3 A6 c1 c2 c3 c6 ((hs1.upTo h19 (Nat.le_refl _)).more h19.size) ((hs2.upTo h29 (Nat.le_refl _)).more h29.size) ((hs3.upTo h39 (Nat.le_refl _)).more h39.size) ((hs6.upTo h69 (Nat.le_refl _)).more h69.size)
       clear kc)
    | (go_at_call 17; refine HS.out.mono ?_
       rintro e w10 ⟨rfl, hb10'⟩
       have hg10 : w10.heap[w8.heap.size]? = _ := (hb10'.block _ hlt9).trans Hg.out
       have hc10 : w10.cell? ⟨w8.heap.size, 1, none⟩ = some (.int .u8 64) := by rw [cell_of_row _ _ _ _ _ _ hg10]; simp [HK1.out]; rfl
       have hld10 := run_loadVeil HL2.out hg10
       have hlt10 := Nat.lt_of_lt_of_le hlt9 hb10'.size
       have Hg10 := Lib.hid hg10
       clear hg10)
    | (go_at_call 18; with_reducible refine (HB9.out _).mono ?_
       rintro e w11 ⟨rfl, hb11⟩
       have hg11 : w11.heap[w8.heap.size]? = _ := (hb11.block _ hlt10).trans Hg10.out
       have hld11 := run_loadVeil HL2.out hg11
       have hlt11 := Nat.lt_of_lt_of_le hlt10 hb11.size
       have Hg11 := Lib.hid hg11
       clear hg11)
    | (go_at_call 18; with_reducible refine (HB8.out _).mono ?_
       rintro e w12 ⟨rfl, hb12⟩
       have hg12 : w12.heap[w8.heap.size]? = _ := (hb12.block _ hlt11).trans Hg11.out
       have hld12 := run_loadVeil HL2.out hg12
       clear hg12)
    | (go_at_call 22; refine (HC.out _).mono ?_
       rintro e w13 ⟨rfl, hb13⟩)
    | fail)
  go_ret
  refine ⟨rfl, hB9.trans ((((hb10'.trans (hb11.mono hb10'.size)).trans (hb12.mono (Nat.le_trans hb10'.size hb11.size))).trans (hb13.mono (Nat.le_trans hb10'.size (Nat.le_trans hb11.size hb12.size)))).mono hB9.size)⟩
end Go.Proofs.Ytbkmbbhgpogeiaa
