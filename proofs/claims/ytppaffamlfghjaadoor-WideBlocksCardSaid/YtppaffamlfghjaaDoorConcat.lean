/-
  slices.Grow, slices.Concat; octet.Text, and the document's.
-/
import Derived.Test.YtppaffamlfghjaaDoorPut
import Derived.Test.YtppaffamlfghjaaDoorClone
import Derived.Test.YtppaffamlfghjaaDoorRows2
import Derived.Lib.AppendZeros
namespace Go.Proofs.YtppaffamlfghjaaDoor
open Go.RowKit

theorem wpList_append_zeros_nil {P : Program} (w : World) {ops : Array Oper} {rest : List Oper} {o : Oper} {a : Act} {Q : Exit → Act → World → Prop} (hgd : o.guard = none) (s x : Operand) (t tn : TypeId)
    (ho : o.op = .call { callee := .builtin .append, args := #[s, x], argTypes := #[t, tn] }) (e : TypeId) (i : TypeInfo) (z : Value) (k kn : IntKind) (ht : P.underlying t = some (.slice e)) (htn : P.underlying tn = some (.int kn)) (hi : P.info? e = some i) (hz : i.zero = some z)
    (hsz : i.size = 1) (hzs : z.cells.size = 1) (n : Nat) (N : Int) (hN : N = (n : Int)) (hs : a.eval s = .slice none 0 0) (hx : a.eval x = .int k N) (h0 : 0 < n) (h63 : n ≤ 2147483647) (h48 : n * i.bytes ≤ 281474976710656)
    (hK : ∀ (w' : World) (c' : Nat), n ≤ c' → Hid (∃ cur : Array Value, w'.heap[w.heap.size]? = some (.cells cur e (0, 0)) ∧ cur.size = c' ∧ c' ≤ maxLen) → Below w.heap.size w w' →
      wpList P ops Q rest (a.put o.dst (.slice (some ⟨w.heap.size, 0, none⟩) n c')) w') : wpList P ops Q (o :: rest) a w := by
  subst hN
  refine Lib.wpList_append_run w hgd s x t tn ho _ _ hs hx _ _ (Lib.run_append_nil_zeros w t tn o.type e i z k kn ht htn hi hz n h0 (by omega) (by omega) h48) ?_
  have hge := grownCap_ge w n 0 e
  refine hK _ _ hge ?_ ((Below.refl _ w).drew.alloc (Nat.le_refl _) _)
  refine (show ∃ cur : Array Value, _ ∧ _ ∧ _ from ⟨_, heap_alloc_new w.drew _, ?_, grownCap_le_maxLen w n 0 e (by simp only [maxLen]; omega)⟩)
  rw [Array.size_append, size_zeroCells, size_zeroCells, hzs]
  omega

def GaveRoom (w : World) (t : TypeId) (e : Ending) (w' : World) : Prop :=
  ∃ A c, e = .returned (.slice A 0 c) ∧ w'.ownsRow w.heap.size t 1 (.slice A 0 c) 0 [] ∧ Below w.heap.size w w'

set_option maxRecDepth 100000 in
set_option maxHeartbeats 400000 in
theorem Grow_any (n : Nat) (w : World) (hn : n ≤ 2147483647) :
    Calls Tryd.prog 51 #[.slice none 0 0, .int .i64 n] w (GaveRoom w 5) := by
  obtain ⟨i0, hi0, hz0, hz1, hz2⟩ := info_parts Tryd.infoU8
  have Hz2 := Lib.hid hz2
  clear hz2
  rcases Nat.eq_zero_or_pos n with h0 | h0
  · subst h0
    go_enter Tryd.func51, Tryd.ntmps51
    go_wp2
    go_ret
    exact ⟨none, 0, rfl, World.ownsRow_nil _ _ _ _, Below.refl _ _⟩
  · have hp : (0 : Int) < n := by omega
    go_enter Tryd.func51, Tryd.ntmps51
    go_wp2_with (first
      | (at_builtin; refine wpList_append_zeros_nil _ rfl (.tmp 20) (.tmp 21) _ _ rfl 5 i0 _ .i64 .i64 Tryd.underlying24 Tryd.underlying3 hi0 hz0 hz1 rfl n _ rfl rfl rfl h0 hn (by rw [Hz2.out]; omega) ?_; intro w1 c1 hc1 Hcur hb1))
    go_ret
    obtain ⟨cur, hg, hs, hm⟩ := Hcur.out
    exact ⟨some ⟨w.heap.size, 0, none⟩, c1, by simp, ⟨rfl, .inr ⟨w.heap.size, c1, cur, rfl, Nat.le_refl _, hg, Nat.zero_le _, hm, by omega, by simp⟩⟩, hb1⟩

set_option maxRecDepth 100000 in
set_option maxHeartbeats 400000 in
theorem Concat_any (A : Option Addr) (n c B : Nat) (ls : List (List UInt8)) (w : World) (h : SeesL w B A n c ls) (hB : B ≤ w.heap.size) (hn : n ≤ 2147483647) (ht : ls.flatten.length ≤ 2147483647) :
    Calls Tryd.prog 38 #[.slice A n c] w (GaveSlice w ls.flatten.length ls.flatten) := by
  obtain ⟨i0, hi0, hz0, hz1, hz2⟩ := info_parts Tryd.infoU8
  have Hz2 := Lib.hid hz2
  clear hz2
  go_enter Tryd.func38, Tryd.ntmps38
  go_wp2
  go_loop [3, 11] (fun t i => ∃ k : Nat, k ≤ n ∧ i = .int .i64 k ∧ t = .int .i64 (tot ls k : Nat)) (fun _ i => n - (intOf i).toNat)
  case atStart => exact ⟨0, Nat.zero_le _, rfl, by rw [tot_zero]; rfl⟩
  case round =>
    obtain ⟨k, hk, rfl, rfl⟩ := hrel
    by_cases hlt : k < n
    · obtain ⟨b, o, Ak, ck, l, rfl, hb, hl, hc, hsk⟩ := h.at_ hlt
      have Hfl := Lib.hid (tot_succ hl)
      have hle := tot_le ls (k + 1)
      have hle2 : tot ls k + l.length ≤ 2147483647 := by rw [Hfl.out] at hle; omega
      clear hl hle
      go_wp2
      go_round
      case rel => exact ⟨k + 1, by omega, by go_num, by rw [Hfl.out]; go_num⟩
      case measure => simp [intOf]; omega
    · obtain rfl : k = n := by omega
      have E := Lib.hid (tot_all ls h.len)
      have htl : tot ls k ≤ 2147483647 := by rw [E.out]; exact ht
      have hlen := Lib.hid h.len
      clear ht
      go_wp2_with (go_at_call 51; refine (Grow_any _ _ htl).mono ?_; rintro e w1 ⟨A1, c1, rfl, hown1, hb1⟩)
      have h1 := h.upTo hb1 hB
      go_loopw [6, 27] (fun v i wr => ∃ (j : Nat) (A' : Option Addr) (c' : Nat), j ≤ k ∧ i = .int .i64 j ∧ v = .slice A' (tot ls j) c' ∧ wr.ownsRow w.heap.size 5 1 (.slice A' (tot ls j) c') (tot ls j) ((ls.take j).flatten.map bv) ∧ Below w.heap.size w wr)
        (fun _ i _ => k - (intOf i).toNat)
      case atStart => exact ⟨0, A1, c1, Nat.zero_le _, rfl, by rw [tot_zero], by rw [tot_zero]; simpa using hown1, hb1⟩
      case round =>
        obtain ⟨j, A', c', hj, rfl, rfl, hown, hbw⟩ := hrel
        by_cases hlj : j < k
        · have hw := h.upTo hbw hB
          obtain ⟨b, o, Ak, ck, l, rfl, hb, hl, hc, hsk⟩ := hw.at_ hlj
          have Hfl := Lib.hid (tot_succ hl)
          have Hff := Lib.hid (take_flat hl)
          have hle := tot_le ls (j + 1)
          rw [← E.out] at hle
          have hle2 : tot ls j + l.length ≤ 2147483647 := by rw [Hfl.out] at hle; omega
          clear hl hle
          go_wp2_with (first
            | (at_builtin; refine wpList_append_sees _ rfl (.tmp 31) (.tmp 32) _ rfl w.heap.size 5 i0 _ 1 Tryd.underlying24 hi0 hz0 hz1 Hz2.out rfl (.slice A' (tot ls j) c') (tot ls j) _ rfl hown B Ak l.length ck (l.map bv) rfl hsk (bv_one _) (by simp only [maxLen]; omega) (by omega) (by exact hbw.size) w.heap.size w hbw (Nat.le_refl _) ?_; intro A3 c3 w3 hown3 hb3))
          go_roundw
          case rel => exact ⟨j + 1, A3, c3, by omega, by go_num, by rw [Hfl.out], by rw [Hfl.out, Hff.out, List.map_append]; exact hown3, hb3⟩
          case measure => simp [intOf]; omega
        · obtain rfl : j = k := by omega
          have e : ls.take j = ls := List.take_of_length_le (by rw [hlen.out]; exact Nat.le_refl _)
          rw [e] at hown
          clear e
          go_wp2
          go_ret
          rw [E.out] at hown
          exact ⟨A', c', by rw [← E.out]; rfl, hown, hbw⟩

theorem Concat_as (A : Option Addr) (n c B : Nat) (ls : List (List UInt8)) (T : List UInt8) (N : Nat) (w : World) (hT : ls.flatten = T) (hN : T.length = N) (h : SeesL w B A n c ls) (hB : B ≤ w.heap.size) (hn : n ≤ 2147483647) (ht : N ≤ 2147483647) :
    Calls Tryd.prog 38 #[.slice A n c] w (GaveSlice w N T) := by
  subst hT hN
  exact Concat_any A n c B ls w h hB hn ht
end Go.Proofs.YtppaffamlfghjaaDoor
