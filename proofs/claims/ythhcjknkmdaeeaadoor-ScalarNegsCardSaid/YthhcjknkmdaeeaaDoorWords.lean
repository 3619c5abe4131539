/-
  Words on memory: what a slice reads as ('Sees'), bytes, numbers of bytes, the highest first.
-/
import Derived.Test.YthhcjknkmdaeeaaDoorProg
import Derived.WalkKit
import Derived.WalkLawsBesides
import Derived.WalkSpells
import Derived.WalkMore
import Derived.Below
import Derived.Lib.Hide
import Derived.Maps.AppendAt
import Derived.Laws.CopyOwn
import Derived.Lib.SlBytesRow
namespace Go.Proofs.YthhcjknkmdaeeaaDoor
open Go.RowKit

/-- A byte as a value. -/
def bv (x : UInt8) : Value := .int .u8 (x.toNat : Int)

/-- The slice (A, n, c) holds the cells xs, one a member, in a block below B. -/
structure Sees (w : World) (B : Nat) (A : Option Addr) (n c : Nat) (xs : List Value) : Prop where
  len : xs.length = n
  le : n ≤ c
  max : c ≤ maxLen
  nil : A = none → c = 0
  at_ : 0 < n → ∃ b o, A = some ⟨b, o, none⟩ ∧ b < B ∧ ∀ j u, xs[j]? = some u → w.cell? ⟨b, o + j, none⟩ = some u

section
variable {w w' : World} {B B' n c : Nat} {A : Option Addr} {xs : List Value}

theorem Sees.keep (h : Sees w B A n c xs) (hk : ∀ p : Addr, p.block < B → w'.cell? p = w.cell? p) : Sees w' B A n c xs :=
  ⟨h.len, h.le, h.max, h.nil, fun hn => by
    obtain ⟨b, o, e, hb, hc⟩ := h.at_ hn
    exact ⟨b, o, e, hb, fun j u hu => (hk ⟨b, o + j, none⟩ hb).trans (hc j u hu)⟩⟩

theorem Sees.more (h : Sees w B A n c xs) (hB : B ≤ B') : Sees w B' A n c xs :=
  ⟨h.len, h.le, h.max, h.nil, fun hn => by
    obtain ⟨b, o, e, hb, hc⟩ := h.at_ hn
    exact ⟨b, o, e, by omega, hc⟩⟩

theorem Sees.below (h : Sees w B A n c xs) (hb : Below B w w') : Sees w' B A n c xs := h.keep fun _ hp => hb.cell hp

theorem Sees.upTo (h : Sees w B A n c xs) {D : Nat} (hb : Below D w w') (hD : B ≤ D) : Sees w' B A n c xs := h.below (hb.mono hD)

theorem Sees.drewN (h : Sees w B A n c xs) (k : Nat) : Sees (w.drewN k) B A n c xs := h.keep fun _ _ => by simp

theorem Sees.alloc (h : Sees w B A n c xs) (hB : B ≤ w.heap.size) (o : Obj) : Sees (w.alloc o) B A n c xs := h.keep fun p hp => World.cell?_alloc_lt w o p (by omega)

theorem Sees.setCell (h : Sees w B A n c xs) {p : Addr} (hB : B ≤ p.block) (u : Value) : Sees (w.setCell p u) B A n c xs :=
  h.keep fun q hq => World.cell?_setCell_other w p q u (fun e => by subst e; omega)

theorem Sees.none_ : Sees w B none 0 0 [] := ⟨rfl, Nat.le_refl _, by simp [maxLen], fun _ => rfl, fun h => absurd h (by omega)⟩

theorem Sees.cell {k : Nat} (h : Sees w B A n c xs) (hk : k < n) : ∃ b o u, A = some ⟨b, o, none⟩ ∧ b < B ∧ xs[k]? = some u ∧ w.cell? ⟨b, o + k, none⟩ = some u := by
  obtain ⟨b, o, e, hb, hc⟩ := h.at_ (by omega)
  have hl : k < xs.length := by rw [h.len]; exact hk
  exact ⟨b, o, xs[k], e, hb, List.getElem?_eq_getElem hl, hc k _ (List.getElem?_eq_getElem hl)⟩

/-- A piece of a slice. -/
theorem Sees.cut (h : Sees w B A n c xs) {lo hi : Nat} (h1 : lo ≤ hi) (h2 : hi ≤ n) :
    Sees w B (if c = lo then A else A.map (·.add lo)) (hi - lo) (c - lo) ((xs.drop lo).take (hi - lo)) := by
  have hl := h.len
  have hm := h.max
  have hle := h.le
  refine ⟨by rw [List.length_take, List.length_drop]; omega, by omega, by omega, fun e => ?_, fun hn => ?_⟩
  · split at e
    · omega
    · cases A with
      | none => have := h.nil rfl; omega
      | some a => cases e
  · obtain ⟨b, o, rfl, hb, hc⟩ := h.at_ (by omega)
    rw [if_neg (by omega)]
    refine ⟨b, o + lo, ?_, hb, fun j u hu => ?_⟩
    · simp only [Option.map_some, Option.some.injEq, Addr.add]
      split
      · next e => subst e; rfl
      · rfl
    · rw [List.getElem?_take] at hu
      split at hu
      · rw [List.getElem?_drop] at hu
        have := hc (lo + j) u hu
        rw [← Nat.add_assoc] at this
        exact this
      · cases hu

theorem Sees.drew (h : Sees w B A n c xs) : Sees w.drew B A n c xs := h.keep fun _ _ => by simp

theorem Sees.take (h : Sees w B A n c xs) {k : Nat} (hk : k ≤ n) : Sees w B A k c (xs.take k) := by
  have hl := h.len
  have hle := h.le
  refine ⟨by rw [List.length_take]; omega, by omega, h.max, h.nil, fun hp => ?_⟩
  obtain ⟨b, o, e, hb, hc⟩ := h.at_ (by omega)
  refine ⟨b, o, e, hb, fun j u hu => hc j u ?_⟩
  rw [List.getElem?_take] at hu
  split at hu
  · exact hu
  · cases hu

theorem Sees.drop (h : Sees w B A n c xs) {k : Nat} (hk : k ≤ n) : Sees w B (if c = k then A else A.map (·.add k)) (n - k) (c - k) (xs.drop k) := by
  have h1 := h.cut hk (Nat.le_refl n)
  rwa [List.take_of_length_le (by rw [List.length_drop, h.len]; exact Nat.le_refl _)] at h1

theorem Sees.of_own {base : Nat} {e : TypeId} (h : w.ownsRow base e 1 (.slice A n c) n xs) : Sees w w.heap.size A n c xs := by
  obtain ⟨hl, ⟨hv, rfl⟩ | ⟨g, cap, cur, hv, hb, hg, hnc, hcm, hsz, hcur⟩⟩ := h
  · injection hv with h1 h2 h3
    subst h1; subst h3
    refine ⟨by simpa using hl, Nat.le_refl _, by simp [maxLen], fun _ => rfl, fun h => absurd h (by omega)⟩
  · injection hv with h1 h2 h3
    subst h1; subst h3
    refine ⟨by simpa using hl, hnc, hcm, (fun h => by cases h), fun hn => ?_⟩
    refine ⟨g, 0, rfl, ?_, fun j u hu => ?_⟩
    · rcases Nat.lt_or_ge g w.heap.size with hlt | hge
      · exact hlt
      · rw [Array.getElem?_eq_none hge] at hg; cases hg
    · rw [Nat.zero_add, cell_of_row w g j cur e (0, 0) hg]
      rw [← hcur, List.getElem?_take] at hu
      split at hu
      · simpa using hu
      · cases hu
end

theorem Sees.src {w : World} {B n c : Nat} {A : Option Addr} {xs : List Value} (h : Sees w B A n c xs) (hp : 0 < xs.length) : ∃ ad, A = some ad ∧ ∀ j u, xs[j]? = some u → w.cell? (ad.add j) = some u := by
  obtain ⟨b, o, rfl, hb, hc⟩ := h.at_ (by rw [← h.len]; exact hp)
  refine ⟨_, rfl, fun j u hu => ?_⟩
  have := hc j u hu
  unfold Addr.add
  split
  · next e => subst e; simpa using this
  · exact this

theorem bv_one (l : List UInt8) : ∀ u ∈ l.map bv, u.oneCell' = true := by
  intro u hu
  obtain ⟨x, _, rfl⟩ := List.mem_map.1 hu
  rfl

theorem below_drewN {B : Nat} {a w : World} (h : Below B a w) (n : Nat) : Below B a (w.drewN n) := ⟨h.os, h.tape, h.output, h.size, h.block⟩

theorem ownsRow_slice {w : World} {base : Nat} {e : TypeId} {v : Value} {n : Nat} {xs : List Value} (h : w.ownsRow base e 1 v n xs) : ∃ A c, v = .slice A n c := by
  rcases h.2 with ⟨rfl, rfl⟩ | ⟨g, cap, cur, rfl, _⟩
  · exact ⟨_, _, rfl⟩
  · exact ⟨_, _, rfl⟩

theorem run_append_sees {P : Program} (w : World) (base : Nat) (t ty e : TypeId) (i : TypeInfo) (z : Value) (bytes : Nat) (ht : P.underlying t = some (.slice e)) (hi : P.info? e = some i) (hz : i.zero = some z)
    (hsize : i.size = 1) (hby : i.bytes = bytes) (hzs : z.cells.size = 1) (v : Value) (n : Nat) (xs : List Value) (hown : w.ownsRow base e 1 v n xs)
    (B : Nat) (A : Option Addr) (m c : Nat) (news : List Value) (hr : Sees w B A m c news) (h1 : ∀ u ∈ news, u.oneCell' = true)
    (h63 : n + m ≤ maxLen) (hbytes : (n + m) * bytes ≤ 140737488355328) (hbase : base ≤ w.heap.size) (D : Nat) (w0 : World) (hb : Below D w0 w) (hD : D ≤ base) :
    ∃ A' c' w', (Builtin.append_ #[t, t] ty #[v, .slice A m c]).run P w = .ok (.slice A' (n + m) c') w' ∧ w'.ownsRow base e 1 (.slice A' (n + m) c') (n + m) (xs ++ news) ∧ Below D w0 w' := by
  cases A with
  | none =>
    have hc := hr.nil rfl
    have hm : m = 0 := by have := hr.le; omega
    subst hc; subst hm
    have hn : news = [] := List.eq_nil_of_length_eq_zero hr.len
    subst hn
    obtain ⟨A', c', rfl⟩ := ownsRow_slice hown
    exact ⟨A', c', w, run_append_owned_none w base t ty e i 1 ht hi _ n xs hown, by simpa using hown, hb⟩
  | some ad =>
    have hsrc : ∀ j u, news[j]? = some u → w.cell? (ad.add j) = some u := by
      intro j u hu
      have hp : 0 < news.length := by
        rcases Nat.eq_zero_or_pos news.length with h0 | h0
        · rw [List.eq_nil_of_length_eq_zero h0] at hu; simp at hu
        · exact h0
      obtain ⟨ad', e, hc⟩ := hr.src hp
      injection e with e
      subst e
      exact hc j u hu
    obtain ⟨v', w', hrun, h2, h3, _, _⟩ := run_append_own_at (P := P) w base t ty e i z 1 bytes ht hi hz hsize hby hzs (by omega) v n xs hown ad m c news (by rw [hr.len, Nat.mul_one]) hsrc h1 h63 hbytes hbase
    obtain ⟨A', c', rfl⟩ := ownsRow_slice h2
    exact ⟨A', c', w', hrun, h2, hb.grown h3 (by omega) (fun k e => by have := (hown.lt k e).1; omega)⟩

/-- 'append(v, x...)' on a row of the call's own; x is any slice, nil and empty ones too. -/
theorem wpList_append_sees {P : Program} (w : World) {ops : Array Oper} {rest : List Oper} {o : Oper} {a : Act} {Q : Exit → Act → World → Prop} (hgd : o.guard = none) (s x : Operand) (t : TypeId)
    (ho : o.op = .call { callee := .builtin .append, args := #[s, x], argTypes := #[t, t] })
    (base : Nat) (e : TypeId) (i : TypeInfo) (z : Value) (bytes : Nat) (ht : P.underlying t = some (.slice e)) (hi : P.info? e = some i) (hz : i.zero = some z)
    (hsize : i.size = 1) (hby : i.bytes = bytes) (hzs : z.cells.size = 1) (v : Value) (n : Nat) (xs : List Value) (hs : a.eval s = v) (hown : w.ownsRow base e 1 v n xs)
    (B : Nat) (A : Option Addr) (m c : Nat) (news : List Value) (hx : a.eval x = .slice A m c) (hr : Sees w B A m c news) (h1 : ∀ u ∈ news, u.oneCell' = true)
    (h63 : n + m ≤ maxLen) (hbytes : (n + m) * bytes ≤ 140737488355328) (hbase : base ≤ w.heap.size) (D : Nat) (w0 : World) (hb : Below D w0 w) (hD : D ≤ base)
    (h : ∀ A' c' w', w'.ownsRow base e 1 (.slice A' (n + m) c') (n + m) (xs ++ news) → Below D w0 w' → wpList P ops Q rest (a.put o.dst (.slice A' (n + m) c')) w') : wpList P ops Q (o :: rest) a w := by
  refine wpList_plain hgd fun K hK => ?_
  obtain ⟨A', c', w', hrun, h2, h3⟩ := run_append_sees (P := P) w base t o.type e i z bytes ht hi hz hsize hby hzs v n xs hown B A m c news hr h1 h63 hbytes hbase D w0 hb hD
  unfold Oper.wp
  simp [execOp, ho, resolve, invoke, builtin, hs, hx, hrun, Result.andThen]
  exact hK _ _ (h A' c' w' h2 h3)

theorem step_append_sees {P : Program} (w : World) {ops : Array Oper} {o : Oper} {a : Act} {K : Act → World → Prop} {Q : Exit → Act → World → Prop} {E : Prop} (hgd : o.guard = none) (s x : Operand) (t : TypeId)
    (ho : o.op = .call { callee := .builtin .append, args := #[s, x], argTypes := #[t, t] })
    (base : Nat) (e : TypeId) (i : TypeInfo) (z : Value) (bytes : Nat) (ht : P.underlying t = some (.slice e)) (hi : P.info? e = some i) (hz : i.zero = some z)
    (hsize : i.size = 1) (hby : i.bytes = bytes) (hzs : z.cells.size = 1) (v : Value) (n : Nat) (xs : List Value) (hs : a.eval s = v) (hown : w.ownsRow base e 1 v n xs)
    (B : Nat) (A : Option Addr) (m c : Nat) (news : List Value) (hx : a.eval x = .slice A m c) (hr : Sees w B A m c news) (h1 : ∀ u ∈ news, u.oneCell' = true)
    (h63 : n + m ≤ maxLen) (hbytes : (n + m) * bytes ≤ 140737488355328) (hbase : base ≤ w.heap.size) (D : Nat) (w0 : World) (hb : Below D w0 w) (hD : D ≤ base)
    (h : ∀ A' c' w', w'.ownsRow base e 1 (.slice A' (n + m) c') (n + m) (xs ++ news) → Below D w0 w' → K (a.put o.dst (.slice A' (n + m) c')) w') :
    if Region.wanted o (yielded ops a.tmps) = true then Oper.wp P o a w K Q else E := by
  have hw : Region.wanted o (yielded ops a.tmps) = true := by simp [Region.wanted, hgd]
  rw [if_pos hw]
  obtain ⟨A', c', w', hrun, h2, h3⟩ := run_append_sees (P := P) w base t o.type e i z bytes ht hi hz hsize hby hzs v n xs hown B A m c news hr h1 h63 hbytes hbase D w0 hb hD
  unfold Oper.wp
  simp [execOp, ho, resolve, invoke, builtin, hs, hx, hrun, Result.andThen]
  exact h A' c' w' h2 h3

/-- One element, in a new block of its own: the source of 'append(v, x)'. -/
theorem Sees.one (w : World) (x : Value) (t : TypeId) : Sees (w.alloc (.cells #[x] t)) (w.heap.size + 1) (some ⟨w.heap.size, 0, none⟩) 1 1 [x] :=
  ⟨rfl, Nat.le_refl _, by simp [maxLen], (fun h => by cases h), fun _ => ⟨_, _, rfl, by omega, fun j u hu => by
    have h := cell_one_new w x t j u hu
    unfold Addr.add at h
    split at h
    · next e => subst e; simpa using h
    · exact h⟩⟩

/-- The number that bytes are, the highest first. -/
def beNum (l : List UInt8) : Nat := l.foldl (fun a x => a * 256 + x.toNat) 0
theorem beNum_snoc (l : List UInt8) (x : UInt8) : beNum (l ++ [x]) = beNum l * 256 + x.toNat := by simp [beNum]
theorem foldl_lt (l : List UInt8) : ∀ a, l.foldl (fun a x => a * 256 + x.toNat) a < (a + 1) * 256 ^ l.length := by
  induction l with
  | nil => intro a; simp
  | cons x l ih =>
    intro a
    have h1 := ih (a * 256 + x.toNat)
    have h2 := x.toNat_lt
    have h3 : (a * 256 + x.toNat + 1) * 256 ^ l.length ≤ ((a + 1) * 256) * 256 ^ l.length := Nat.mul_le_mul_right _ (by omega)
    simp only [List.foldl_cons, List.length_cons, Nat.pow_succ]
    rw [Nat.mul_comm (256 ^ l.length) 256, ← Nat.mul_assoc]
    omega
theorem beNum_lt (l : List UInt8) : beNum l < 256 ^ l.length := by have := foldl_lt l 0; simpa [beNum] using this

theorem or_step (N x : Nat) (hN : N < 72057594037927936) (hx : x < 256) : bits .or .u64 ((N : Int) * 256) (x : Int) = ((N * 256 + x : Nat) : Int) := by
  have e : ((N : Int) * 256) = ((N * 256 : Nat) : Int) := by omega
  rw [e, u64_or_nat _ _ (by omega) (by omega)]
  have h := Nat.shiftLeft_add_eq_or_of_lt (b := x) (i := 8) (by omega) N
  rw [Nat.shiftLeft_eq] at h
  congr 1
  exact h.symm
theorem beNum_take {l : List UInt8} {k : Nat} (hk : k < l.length) : beNum (l.take (k + 1)) = beNum (l.take k) * 256 + l[k].toNat := by
  rw [List.take_succ_eq_append_getElem hk, beNum_snoc]
theorem beNum_take_lt (l : List UInt8) {k : Nat} (hk : k < 8) : beNum (l.take k) < 72057594037927936 := by
  have h := beNum_lt (l.take k)
  have h2 : (l.take k).length ≤ 7 := by rw [List.length_take]; omega
  have h3 : 256 ^ (l.take k).length ≤ 256 ^ 7 := Nat.pow_le_pow_right (by omega) h2
  have h4 : (256 : Nat) ^ 7 = 72057594037927936 := by decide
  omega

/-- The bytes of a number, the highest first: the first k of s. -/
def beTo (s N k : Nat) : List UInt8 := (List.range k).map fun j => UInt8.ofNat (N / 256 ^ (s - 1 - j))
def beBytes (s N : Nat) : List UInt8 := beTo s N s
theorem beTo_succ (s N k : Nat) : beTo s N (k + 1) = beTo s N k ++ [UInt8.ofNat (N / 256 ^ (s - 1 - k))] := by simp [beTo, List.range_succ]
theorem beTo_length (s N k : Nat) : (beTo s N k).length = k := by simp [beTo]

/-- 'make([]T, n, c)', elements of one cell: a new block of c cells; what they hold is not looked at. -/
theorem wpList_make_room {P : Program} (w : World) {ops : Array Oper} {rest : List Oper} {o : Oper} {a : Act} {Q : Exit → Act → World → Prop}
    (hg : o.guard = none) (l r : Operand) (t : TypeId) (hop : o.op = Op.makeSlice t l r)
    (e : TypeId) (i : TypeInfo) (z : Value) (h1 : P.underlying t = some (.slice e)) (h2 : P.info? e = some i) (h3 : i.zero = some z) (h4 : i.size = 1)
    (kl kc : IntKind) (L C : Int) (n c : Nat) (hl : a.eval l = .int kl L) (hc : a.eval r = .int kc C) (hL : L = (n : Int)) (hC : C = (c : Int)) (hnc : n ≤ c) (b2 : i.bytes * c ≤ 281474976710656) (b3 : c ≤ maxLen)
    (hK : ∀ (w1 : World) (cur : List Value), Hid (cur.length = c ∧ w1.heap[w.heap.size]? = some (.cells cur.toArray e (0, 0))) → Below w.heap.size w w1 → wpList P ops Q rest (a.put o.dst (.slice (some ⟨w.heap.size, 0, none⟩) n c)) w1) :
    wpList P ops Q (o :: rest) a w := by
  refine wpList_plain hg fun K hK' => ?_
  subst hL
  subst hC
  have hb : (i.bytes : Int) * (c : Int) ≤ 281474976710656 := by
    have h : ((i.bytes * c : Nat) : Int) ≤ 281474976710656 := by omega
    rwa [Int.natCast_mul] at h
  have hrun := run_make (P := P) w t e i z h1 h2 h3 kl kc n c (by omega) (by omega) hb (by simp only [maxLen] at b3; omega)
  simp only [Int.toNat_natCast, h4, Nat.mul_one] at hrun
  unfold Oper.wp
  simp [execOp, hop, hl, hc, hrun, Result.andThen]
  refine hK' _ _ (hK _ (madeCells z.cells c).toList ?_ ((Below.refl _ w).alloc (Nat.le_refl _) _))
  exact (show _ ∧ _ from ⟨by simp [size_madeCells], by simpa using heap_alloc_new w (.cells (madeCells z.cells c) e)⟩)

theorem ownsRow_of_block {w : World} {g base n c : Nat} {e : TypeId} {xs ys : List Value} (h : w.heap[g]? = some (.cells (xs ++ ys).toArray e (0, 0))) (hb : base ≤ g) (hx : xs.length = n) (hy : n + ys.length = c) (hc : c ≤ maxLen) :
    w.ownsRow base e 1 (.slice (some ⟨g, 0, none⟩) n c) n xs := by
  refine ⟨by simpa using hx, .inr ⟨g, c, _, rfl, hb, h, by omega, hc, by simp; omega, ?_⟩⟩
  rw [Nat.mul_one, ← hx]
  simp

theorem byte_of (N s : Int) (k : Nat) (hN : 0 ≤ N) (hk : k < s.toNat) : Value.int .u8 (N / 2 ^ (8 * (s - 1 - k)).toNat % 256) = bv (UInt8.ofNat (N.toNat / 256 ^ (s.toNat - 1 - k))) := by
  obtain ⟨M, rfl⟩ := Int.eq_ofNat_of_zero_le hN
  have e1 : (8 * (s - 1 - k)).toNat = 8 * (s.toNat - 1 - k) := by omega
  have e2 : (2 : Int) ^ (8 * (s.toNat - 1 - k)) = ((256 ^ (s.toNat - 1 - k) : Nat) : Int) := by
    rw [Int.pow_mul]; simp
  rw [e1, e2, Int.toNat_natCast, ← Int.natCast_ediv]
  unfold bv
  congr 1

theorem bv_get {l : List UInt8} {k : Nat} {u : Value} (h : (l.map bv)[k]? = some u) : ∃ hk : k < l.length, u = bv l[k] := by
  rw [List.getElem?_map] at h
  rcases Nat.lt_or_ge k l.length with hk | hk
  · rw [List.getElem?_eq_getElem hk] at h
    exact ⟨hk, by simpa using h.symm⟩
  · rw [List.getElem?_eq_none hk] at h; cases h
end Go.Proofs.YthhcjknkmdaeeaaDoor
