/-
  Order of keys: bytes.Compare, octet.Compare, and the document's.
-/
import Derived.Test.YtbkmbbhgpogeiaaTurn
import Derived.Lib.Bytealg
import Derived.BigQuiet
import Derived.Deep.QuietTactic
namespace Go.Proofs.Ytbkmbbhgpogeiaa
open Go.RowKit

theorem run_loadBytes {P : Program} {w : World} (b : Nat) : ∀ (l : List UInt8) (o : Nat) (acc : ByteArray), (∀ j u, (l.map bv)[j]? = some u → w.cell? ⟨b, o + j, none⟩ = some u) →
    ∃ s : ByteArray, (Extern.Bytes.loadBytes ⟨b, o, none⟩ l.length acc).run P w = .ok s w ∧ s.data.toList = acc.data.toList ++ l
  | [], o, acc, _ => ⟨acc, by simp [Extern.Bytes.loadBytes], by simp⟩
  | x :: l, o, acc, h => by
    have h0 := h 0 (bv x) (by simp)
    unfold bv at h0
    rw [Nat.add_zero] at h0
    obtain ⟨s, hs, hd⟩ := run_loadBytes (P := P) (w := w) b l (o + 1) (acc.push x) (fun j u hu => by
      have := h (j + 1) u (by simpa using hu)
      rwa [show o + (j + 1) = o + 1 + j by omega] at this)
    refine ⟨s, ?_, ?_⟩
    · rw [List.length_cons]
      have e1 : ((⟨b, o, none⟩ : Addr).add 1) = ⟨b, o + 1, none⟩ := rfl
      have e2 : ((x.toNat : Int).toNat.toUInt8) = x := by simp
      simp only [Extern.Bytes.loadBytes, Sem.run_bind]
      rw [run_load]
      simp only [h0, Result.andThen, e1, e2]
      exact hs
    · rw [hd]; simp [ByteArray.push]

theorem run_bytesOf {P : Program} {w : World} {B : Nat} {A : Option Addr} {n c : Nat} {l : List UInt8} (h : Sees w B A n c (l.map bv)) :
    ∃ s : ByteArray, (Extern.Bytes.bytesOf (.slice A n c)).run P w = .ok s w ∧ s.data.toList = l := by
  have hl := h.len
  rw [List.length_map] at hl
  cases A with
  | none =>
    have hc := h.nil rfl
    have hn : n = 0 := by have := h.le; omega
    obtain rfl : l = [] := List.eq_nil_of_length_eq_zero (by omega)
    exact ⟨.empty, by simp [Extern.Bytes.bytesOf], rfl⟩
  | some a =>
    rcases Nat.eq_zero_or_pos n with h0 | h0
    · subst h0
      obtain rfl : l = [] := List.eq_nil_of_length_eq_zero hl
      exact ⟨.empty, by simp [Extern.Bytes.bytesOf, Extern.Bytes.loadBytes], rfl⟩
    · obtain ⟨b, o, e, _, hc⟩ := h.at_ h0
      injection e with e
      subst e
      obtain ⟨s, hs, hd⟩ := run_loadBytes (P := P) (w := w) b l o .empty hc
      exact ⟨s, by rw [← hl]; exact hs, by rw [hd]; rfl⟩

theorem run_compareSlices {P : Program} {w : World} {B B' : Nat} {A A' : Option Addr} {n c n' c' : Nat} {l l' : List UInt8} (h : Sees w B A n c (l.map bv)) (h' : Sees w B' A' n' c' (l'.map bv)) :
    (Extern.BytealgCompare.compare #[.slice A n c, .slice A' n' c']).run P w = .ok (.int .i64 (Lib.compareBytes l l')) w := by
  obtain ⟨s, hs, hd⟩ := run_bytesOf (P := P) h
  obtain ⟨s', hs', hd'⟩ := run_bytesOf (P := P) h'
  change Sem.run P (do pure (goInt (Extern.BytealgCompare.cmp (← Extern.Bytes.bytesOf (.slice A n c)) (← Extern.Bytes.bytesOf (.slice A' n' c'))))) w = _
  simp only [Sem.run_bind, Sem.run_pure, Result.andThen, hs, hs']
  rw [Lib.cmp_eq, hd, hd']
  rfl

theorem bytesCompare_any (A A' : Option Addr) (n c n' c' B B' : Nat) (l l' : List UInt8) (w : World) (h : Sees w B A n c (l.map bv)) (h' : Sees w B' A' n' c' (l'.map bv)) :
    Calls Try.prog 30 #[.slice A n c, .slice A' n' c'] w fun e w' => e = .returned (.int .i64 (Lib.compareBytes l l')) ∧ w' = w := by
  go_enter Try.func30, Try.ntmps30
  go_wp2
  rw [run_callFunc_extern Try.func34 (by kernel_rfl) (by kernel_rfl) (by kernel_rfl) (e := Extern.BytealgCompare.compare) (by kernel_rfl), run_compareSlices h h']
  simp only [Result.andThen]
  rw [Oper.upon_value]
  go_wp2
  go_ret
  exact ⟨rfl, rfl⟩

/-- The order of keys. -/
def kcmp (a b : List UInt8) : Int := Lib.compareBytes a b

theorem sees_key (w : World) (g B : Nat) (l : List UInt8) (hl : l.length = 32) {t : TypeId} (hg : w.heap[g]? = some (.cells (l.map bv).toArray t (0, 0))) (hB : g < B) : Sees w B (some ⟨g, 0, none⟩) 32 32 (l.map bv) :=
  ⟨by simpa using hl, Nat.le_refl _, by simp [maxLen], (fun h => by cases h), fun _ => ⟨g, 0, rfl, hB, fun j u hu => by
    rw [Nat.zero_add, cell_of_row w g j _ _ _ hg]; simpa using hu⟩⟩

set_option maxHeartbeats 400000 in
theorem Compare_any (a b : List UInt8) (w : World) (ha : a.length = 32) (hb : b.length = 32) :
    Calls Try.prog 22 #[kv a, kv b] w (GaveInt w (kcmp a b)) := by
  unfold kv
  have hs1 : ∀ W : World, W.heap = ((w.alloc (.cells (a.map bv).toArray 36)).alloc (.cells (b.map bv).toArray 36)).heap → Sees W (w.heap.size + 2) (some ⟨w.heap.size, 0, none⟩) 32 32 (a.map bv) :=
    fun W hW => sees_key W _ _ a ha (by rw [hW]; exact heap_alloc2_old w _ _) (by omega)
  have hs2 : ∀ W : World, W.heap = ((w.alloc (.cells (a.map bv).toArray 36)).alloc (.cells (b.map bv).toArray 36)).heap → Sees W (w.heap.size + 2) (some ⟨w.heap.size + 1, 0, none⟩) 32 32 (b.map bv) :=
    fun W hW => sees_key W _ _ b hb (by rw [hW]; exact heap_alloc2_new w _ _) (by omega)
  have HL := Lib.hid ha
  have HL2 := Lib.hid hb
  have HS1 := Lib.hid hs1
  have HS2 := Lib.hid hs2
  clear ha hb hs1 hs2
  go_enter Try.func22, Try.ntmps22
  go_wp2
  go_quiet ((go_at_call 30; refine Calls.quiet_of_same (bytesCompare_any _ _ _ _ _ _ _ _ a b _ (HS1.out _ (by rfl)) (HS2.out _ (by rfl)))))
  go_wp2
  go_ret
  exact ⟨rfl, below_drewN (((Below.refl _ _).alloc (Nat.le_refl _) _).alloc (by simp) _) _⟩

theorem compare_take (a b : List UInt8) (k : Nat) (hk : k ≤ a.length) (hl : a.length = b.length) (h : a.take k = b.take k) : Lib.compareBytes a b = Lib.compareBytes (a.drop k) (b.drop k) := by
  induction k generalizing a b with
  | zero => simp
  | succ k ih =>
    cases a with
    | nil => simp at hk
    | cons x a =>
      cases b with
      | nil => simp at hl
      | cons y b =>
        simp only [List.take_succ_cons, List.cons.injEq] at h
        obtain ⟨rfl, h⟩ := h
        rw [List.drop_succ_cons, List.drop_succ_cons, ← ih a b (by simpa using hk) (by simpa using hl) h]
        have : ¬ x < x := UInt8.lt_irrefl x
        simp [Lib.compareBytes, this]

theorem drop_cons {l : List UInt8} {k : Nat} (hk : k < l.length) : l.drop k = l[k] :: l.drop (k + 1) := List.drop_eq_getElem_cons hk

theorem compare_at (a b : List UInt8) (k : Nat) (hk : k < a.length) (hl : a.length = b.length) (h : a.take k = b.take k) :
    (a[k].toNat < (b[k]'(hl ▸ hk)).toNat → Lib.compareBytes a b = -1) ∧ ((b[k]'(hl ▸ hk)).toNat < a[k].toNat → Lib.compareBytes a b = 1) := by
  rw [compare_take a b k (by omega) hl h, drop_cons hk, drop_cons (show k < b.length from hl ▸ hk)]
  refine ⟨fun h1 => ?_, fun h1 => ?_⟩
  · have : a[k] < b[k]'(hl ▸ hk) := UInt8.lt_iff_toNat_lt.2 h1
    simp [Lib.compareBytes, this]
  · have h2 : b[k]'(hl ▸ hk) < a[k] := UInt8.lt_iff_toNat_lt.2 h1
    have h3 : ¬ a[k] < b[k]'(hl ▸ hk) := fun h => by have := UInt8.lt_iff_toNat_lt.1 h; omega
    simp [Lib.compareBytes, h2, h3]

theorem compare_self (a : List UInt8) : Lib.compareBytes a a = 0 := by
  have h := compare_take a a a.length (Nat.le_refl _) rfl rfl
  rw [h]; simp [Lib.compareBytes]
end Go.Proofs.Ytbkmbbhgpogeiaa
