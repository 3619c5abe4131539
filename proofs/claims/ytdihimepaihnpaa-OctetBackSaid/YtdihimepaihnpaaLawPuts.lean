/-
  OctetPuts: a number behind any bytes, the number that any bytes begin with, a text behind any, the texts that any are: what the document says, or its error. For every input.
-/
import Derived.Test.YtdihimepaihnpaaAwake
import Derived.Test.YtdihimepaihnpaaAlike
namespace Go.Proofs.Ytdihimepaihnpaa
open Go.RowKit

theorem conv_got {W : World} {A : Option Addr} {n c : Nat} {l : List UInt8} (h : Got W A n c l) : (convert 22 9 (.slice A n c)).run Try.prog W = .ok (.string (strOf l)) W :=
  run_convert_sees (P := Try.prog) 22 9 5 Try.underlying22 Try.underlying5 Try.underlying9 h

set_option maxRecDepth 100000 in
set_option maxHeartbeats 2000000 in
theorem OctetPuts_any (A A' : Option Addr) (n c n' c' : Nat) (b t : List UInt8) (N s : Int) (w : World) (hb : Got w A n c b) (ht : Got w A' n' c' t) (h0 : 0 ≤ N) (h64 : N < 18446744073709551616) :
    Calls Try.prog 3 #[.slice A n c, .int .u64 N, .int .i64 s, .slice A' n' c'] w fun e w' => e = .returned (.bool true) ∧ Below w.heap.size w w' := by
  by_cases hn : (300 : Int) < n
  · go_enter Try.func3, Try.ntmps3
    go_wp2_with (go_at_call 8; refine (awake_any _).mono ?_; rintro e w1 ⟨rfl, hb1⟩)
    go_ret
    exact ⟨rfl, hb1⟩
  have hn1 : (n : Int) ≤ 300 := by omega
  by_cases hm : (300 : Int) < n'
  · go_enter Try.func3, Try.ntmps3
    go_wp2_with (go_at_call 8; refine (awake_any _).mono ?_; rintro e w1 ⟨rfl, hb1⟩)
    go_ret
    exact ⟨rfl, hb1⟩
  have hm1 : (n' : Int) ≤ 300 := by omega
  obtain ⟨x, ke, hp1, hp2⟩ := puts_alike b n N s (by omega) h0 h64
  obtain ⟨p, q, kg, hq1, hq2⟩ := takes_alike b n s (by omega)
  obtain ⟨u, -, hu1, hu2⟩ := text_alike b t n n' (by omega) (by omega)
  have hbl : b.length = n := by have := Sees.len hb; rwa [List.length_map] at this
  obtain ⟨ls, kk, hll, -, hl1, hl2⟩ := texts_alike b n (by omega)
  have hls : ls.length ≤ 2147483647 := by rw [hll]; have := textsOf_le b; omega
  have HLS := Lib.hid hls
  have HP1 := Lib.hid hp1
  have HP2 := Lib.hid hp2
  have HQ1 := Lib.hid hq1
  have HQ2 := Lib.hid hq2
  have HU1 := Lib.hid hu1
  have HU2 := Lib.hid hu2
  have HL1 := Lib.hid hl1
  have HL2 := Lib.hid hl2
  clear hll hls hbl hp1 hp2 hq1 hq2 hu1 hu2 hl1 hl2
  go_enter Try.func3, Try.ntmps3
  go_wp2_with (first
    | (go_at_call 8; refine (awake_any _).mono ?_
       rintro e w1 ⟨rfl, hB1⟩
       have hb := hb.keep hB1
       have ht := ht.keep hB1)
    | (go_at_call 9; refine (HP1.out _ _ _ hb).mono ?_
       rintro e w2 ⟨A1, c1, rfl, g1, hB2⟩
       have hb := hb.keep hB2
       have ht := ht.keep hB2
       have hC2 := hB1.trans (hB2.mono hB1.size))
    | (go_at_call 10; refine (HP2.out _ _ _ hb).mono ?_
       rintro e w3 ⟨A2, c2, rfl, g2, hB3⟩
       have hb := hb.keep hB3
       have ht := ht.keep hB3
       have g1 := g1.keep hB3
       have hC3 := hC2.trans (hB3.mono hC2.size))
    | (go_at_call 11; refine (HQ1.out _ _ _ hb).mono ?_
       rintro e w4 ⟨A3, c3, rfl, g3, hB4⟩
       have hb := hb.keep hB4
       have ht := ht.keep hB4
       have g1 := g1.keep hB4
       have g2 := g2.keep hB4
       have hC4 := hC3.trans (hB4.mono hC3.size))
    | (go_at_call 12; refine (HQ2.out _ _ _ hb).mono ?_
       rintro e w5 ⟨A4, c4, rfl, g4, hB5⟩
       have hb := hb.keep hB5
       have ht := ht.keep hB5
       have g1 := g1.keep hB5
       have g2 := g2.keep hB5
       have g3 := g3.keep hB5
       have hC5 := hC4.trans (hB5.mono hC4.size))
    | (go_at_call 13; refine (HU1.out _ _ _ _ _ hb ht).mono ?_
       rintro e w6 ⟨A5, c5, rfl, g5, hB6⟩
       have hb := hb.keep hB6
       have ht := ht.keep hB6
       have g1 := g1.keep hB6
       have g2 := g2.keep hB6
       have g3 := g3.keep hB6
       have g4 := g4.keep hB6
       have hC6 := hC5.trans (hB6.mono hC5.size))
    | (go_at_call 14; refine (HU2.out _ _ _ _ _ hb ht).mono ?_
       rintro e w7 ⟨A6, c6, rfl, g6, hB7⟩
       have hb := hb.keep hB7
       have g1 := g1.keep hB7
       have g2 := g2.keep hB7
       have g3 := g3.keep hB7
       have g4 := g4.keep hB7
       have g5 := g5.keep hB7
       have hC7 := hC6.trans (hB7.mono hC6.size))
    | (go_at_call 15; refine (HL1.out _ _ _ hb).mono ?_
       rintro e w8 ⟨A7, c7, rfl, g7, hB8⟩
       have hb := hb.keep hB8
       have g1 := g1.keep hB8
       have g2 := g2.keep hB8
       have g3 := g3.keep hB8
       have g4 := g4.keep hB8
       have g5 := g5.keep hB8
       have g6 := g6.keep hB8
       have hC8 := hC7.trans (hB8.mono hC7.size))
    | (go_at_call 16; refine (HL2.out _ _ _ hb).mono ?_
       rintro e w9 ⟨A8, c8, rfl, g8, hB9⟩
       have v1 := conv_got (g1.keep hB9)
       have v2 := conv_got (g2.keep hB9)
       have v3 := conv_got (g3.keep hB9)
       have v4 := conv_got (g4.keep hB9)
       have v5 := conv_got (g5.keep hB9)
       have v6 := conv_got (g6.keep hB9)
       have g7 := g7.keep hB9
       have hC9 := hC8.trans (hB9.mono hC8.size))
    | (go_at_call 17; refine (Same_true _ _ _ _ _ _ _ _ _ g7 g8 HLS.out).mono ?_
       rintro e wX ⟨rfl, hBX⟩
       have hCX := hC9.trans (hBX.mono hC9.size))
    | fail)
  go_ret
  exact ⟨rfl, hCX⟩
end Go.Proofs.Ytdihimepaihnpaa
