/-
  Primes: Euclid's, Fermat's; a number is prime where a certificate says so; 2^255 - 19 is. Pure.
  Numbers modulo 2^255 - 19: a field, in which -1 is a square; roots. Pure.
  The curve's points, a group. Pure.
-/
namespace Go.Proofs.YtlfkohanfeejfaaDoor

def Pr (n : Nat) : Prop := 1 < n ∧ ∀ m, m ∣ n → m = 1 ∨ m = n

theorem Pr.coprime {p a : Nat} (hp : Pr p) (h : ¬ p ∣ a) : Nat.Coprime p a := by
  rcases hp.2 _ (Nat.gcd_dvd_left p a) with h1 | h1
  · exact h1
  · exact absurd (h1 ▸ Nat.gcd_dvd_right p a) h

theorem Pr.euclid {p a b : Nat} (hp : Pr p) (h : p ∣ a * b) : p ∣ a ∨ p ∣ b := by
  by_cases ha : p ∣ a
  · exact Or.inl ha
  · exact Or.inr ((hp.coprime ha).dvd_of_dvd_mul_left h)

theorem Pr.of_pow {p a : Nat} (hp : Pr p) : ∀ {n : Nat}, p ∣ a ^ n → p ∣ a
  | 0, h => by
    have h2 := hp.1
    rw [Nat.pow_zero] at h
    have h3 := Nat.le_of_dvd (by omega) h
    omega
  | n + 1, h => by
    rw [Nat.pow_succ] at h
    rcases hp.euclid h with h | h
    · exact Pr.of_pow hp h
    · exact h

theorem exists_pr : ∀ n, 1 < n → ∃ r, Pr r ∧ r ∣ n := by
  intro n
  induction n using Nat.strongRecOn with
  | ind n ih =>
    intro hn
    by_cases h : Pr n
    · exact ⟨n, h, Nat.dvd_refl n⟩
    · have : ∃ m, m ∣ n ∧ m ≠ 1 ∧ m ≠ n := by
        refine Classical.byContradiction fun hc => h ⟨hn, fun m hm => Classical.byContradiction fun hc2 => hc ⟨m, hm, ?_, ?_⟩⟩
        · exact fun e => hc2 (Or.inl e)
        · exact fun e => hc2 (Or.inr e)
      obtain ⟨m, hm, h1, h2⟩ := this
      have hle := Nat.le_of_dvd (by omega) hm
      have h0 : m ≠ 0 := by rintro rfl; have := Nat.eq_zero_of_zero_dvd hm; omega
      obtain ⟨r, hr, hd⟩ := ih m (by omega) (by omega)
      exact ⟨r, hr, Nat.dvd_trans hd hm⟩

/-- What is no prime has a prime divisor whose square is no greater. -/
theorem exists_small {n : Nat} (hn : 1 < n) (h : ¬ Pr n) : ∃ r, Pr r ∧ r ∣ n ∧ r * r ≤ n := by
  have : ∃ m, m ∣ n ∧ m ≠ 1 ∧ m ≠ n := by
    refine Classical.byContradiction fun hc => h ⟨hn, fun m hm => Classical.byContradiction fun hc2 => hc ⟨m, hm, ?_, ?_⟩⟩
    · exact fun e => hc2 (Or.inl e)
    · exact fun e => hc2 (Or.inr e)
  obtain ⟨m, hm, h1, h2⟩ := this
  obtain ⟨k, hk⟩ := hm
  have hm0 : m ≠ 0 := by rintro rfl; rw [Nat.zero_mul] at hk; omega
  have hk0 : k ≠ 0 := by rintro rfl; rw [Nat.mul_zero] at hk; omega
  have hk1 : k ≠ 1 := by rintro rfl; rw [Nat.mul_one] at hk; omega
  rcases Nat.le_total m k with hle | hle
  · obtain ⟨r, hr, hd⟩ := exists_pr m (by omega)
    refine ⟨r, hr, Nat.dvd_trans hd ⟨k, hk⟩, ?_⟩
    have := Nat.le_of_dvd (by omega) hd
    rw [hk]
    exact Nat.mul_le_mul this (by omega)
  · obtain ⟨r, hr, hd⟩ := exists_pr k (by omega)
    refine ⟨r, hr, Nat.dvd_trans hd ⟨m, by rw [hk, Nat.mul_comm]⟩, ?_⟩
    have := Nat.le_of_dvd (by omega) hd
    rw [hk]
    exact Nat.mul_le_mul (by omega) this

/-! Fermat's. -/
def ch : Nat → Nat → Nat
  | _, 0 => 1
  | 0, _ + 1 => 0
  | n + 1, k + 1 => ch n k + ch n (k + 1)

theorem ch_zero (n : Nat) : ch n 0 = 1 := by cases n <;> rfl
theorem ch_succ (n k : Nat) : ch (n + 1) (k + 1) = ch n k + ch n (k + 1) := rfl
theorem ch_above : ∀ (n k : Nat), n < k → ch n k = 0
  | 0, k + 1, _ => rfl
  | n + 1, k + 1, h => by rw [ch_succ, ch_above n k (by omega), ch_above n (k + 1) (by omega)]
theorem ch_self : ∀ n : Nat, ch n n = 1
  | 0 => rfl
  | n + 1 => by rw [ch_succ, ch_self n, ch_above n (n + 1) (by omega)]
theorem ch_absorb : ∀ (n k : Nat), (k + 1) * ch (n + 1) (k + 1) = (n + 1) * ch n k
  | 0, 0 => rfl
  | 0, k + 1 => by rw [ch_above 1 (k + 1 + 1) (by omega), ch_above 0 (k + 1) (by omega)]; omega
  | n + 1, 0 => by
    have := ch_absorb n 0
    rw [ch_zero] at this
    rw [ch_succ (n + 1) 0, ch_zero]
    omega
  | n + 1, k + 1 => by
    have h1 := ch_absorb n k
    have h2 := ch_absorb n (k + 1)
    have e1 : ch (n + 1 + 1) (k + 1 + 1) = ch (n + 1) (k + 1) + ch (n + 1) (k + 1 + 1) := rfl
    have e2 : ch (n + 1) (k + 1) = ch n k + ch n (k + 1) := rfl
    rw [e1]
    generalize ch (n + 1) (k + 1 + 1) = y at *
    have e3 : (n + 1) * ch (n + 1) (k + 1) = (n + 1) * ch n k + (n + 1) * ch n (k + 1) := by rw [e2, Nat.mul_add]
    generalize ch (n + 1) (k + 1) = x at *
    have a1 : (k + 1 + 1) * (x + y) = (k + 1) * x + x + (k + 1 + 1) * y := by rw [Nat.mul_add, Nat.succ_mul (k + 1) x]
    have a2 : (n + 1 + 1) * x = (n + 1) * x + x := Nat.succ_mul (n + 1) x
    omega

def sumTo (f : Nat → Nat) : Nat → Nat
  | 0 => 0
  | n + 1 => sumTo f n + f n
theorem sumTo_head (f : Nat → Nat) : ∀ n, sumTo f (n + 1) = f 0 + sumTo (fun k => f (k + 1)) n
  | 0 => by simp [sumTo]
  | n + 1 => by rw [sumTo, sumTo_head f n]; simp only [sumTo]; omega
theorem sumTo_add (f g : Nat → Nat) : ∀ n, sumTo (fun k => f k + g k) n = sumTo f n + sumTo g n
  | 0 => rfl
  | n + 1 => by simp only [sumTo, sumTo_add f g n]; omega
theorem sumTo_mul (c : Nat) (f : Nat → Nat) : ∀ n, sumTo (fun k => c * f k) n = c * sumTo f n
  | 0 => rfl
  | n + 1 => by simp only [sumTo, sumTo_mul c f n, Nat.mul_add]
theorem sumTo_congr {f g : Nat → Nat} (h : ∀ k, f k = g k) (n : Nat) : sumTo f n = sumTo g n := by rw [funext h]

theorem binom (x : Nat) : ∀ n, (x + 1) ^ n = sumTo (fun k => ch n k * x ^ k) (n + 1)
  | 0 => by simp [sumTo, ch]
  | n + 1 => by
    have ih := binom x n
    rw [sumTo_head, Nat.pow_succ, ih]
    have e : sumTo (fun k => ch (n + 1) (k + 1) * x ^ (k + 1)) (n + 1) = x * sumTo (fun k => ch n k * x ^ k) (n + 1) + sumTo (fun k => ch n (k + 1) * x ^ (k + 1)) (n + 1) := by
      rw [← sumTo_mul, ← sumTo_add]
      refine sumTo_congr (fun k => ?_) _
      rw [ch_succ, Nat.add_mul, Nat.pow_succ, ← Nat.mul_assoc, Nat.mul_comm _ x]
    have e2 : 1 + sumTo (fun k => ch n (k + 1) * x ^ (k + 1)) (n + 1) = sumTo (fun k => ch n k * x ^ k) (n + 1) := by
      have h1 := sumTo_head (fun k => ch n k * x ^ k) (n + 1)
      have h2 : sumTo (fun k => ch n k * x ^ k) (n + 1 + 1) = sumTo (fun k => ch n k * x ^ k) (n + 1) + ch n (n + 1) * x ^ (n + 1) := rfl
      rw [ch_above n (n + 1) (by omega), Nat.zero_mul, Nat.add_zero] at h2
      simp only [ch_zero, Nat.pow_zero, Nat.mul_one] at h1
      rw [← h1, h2]
      omega
    rw [e]
    simp only [ch_zero, Nat.pow_zero, Nat.mul_one]
    rw [Nat.mul_add, Nat.mul_one, Nat.mul_comm _ x]
    omega

theorem Pr.dvd_ch {p : Nat} (hp : Pr p) {k : Nat} (h0 : 0 < k) (hk : k < p) : p ∣ ch p k := by
  obtain ⟨j, rfl⟩ : ∃ j, k = j + 1 := ⟨k - 1, by omega⟩
  obtain ⟨n, rfl⟩ : ∃ n, p = n + 1 := ⟨p - 1, by omega⟩
  have h := ch_absorb n j
  have hd : n + 1 ∣ (j + 1) * ch (n + 1) (j + 1) := ⟨_, h⟩
  rcases hp.euclid hd with h2 | h2
  · have := Nat.le_of_dvd (by omega) h2; omega
  · exact h2

theorem fermat_sum {p : Nat} (hp : Pr p) (x : Nat) : ∀ m, m < p → sumTo (fun k => ch p k * x ^ k) (m + 1) % p = 1
  | 0, _ => by simp only [sumTo, ch_zero, Nat.pow_zero]; exact Nat.mod_eq_of_lt hp.1
  | m + 1, h => by
    have e : sumTo (fun k => ch p k * x ^ k) (m + 1 + 1) = sumTo (fun k => ch p k * x ^ k) (m + 1) + ch p (m + 1) * x ^ (m + 1) := rfl
    obtain ⟨c, hc⟩ := hp.dvd_ch (k := m + 1) (by omega) h
    rw [e, hc, Nat.mul_assoc, Nat.add_mul_mod_self_left]
    exact fermat_sum hp x m (by omega)

theorem Pr.fermat {p : Nat} (hp : Pr p) : ∀ a, a ^ p % p = a % p
  | 0 => by rw [Nat.zero_pow (by have := hp.1; omega)]
  | x + 1 => by
    have hp1 := hp.1
    have ih := Pr.fermat hp x
    have h := fermat_sum hp x (p - 1) (by omega)
    rw [show p - 1 + 1 = p by omega] at h
    have e : sumTo (fun k => ch p k * x ^ k) (p + 1) = sumTo (fun k => ch p k * x ^ k) p + ch p p * x ^ p := rfl
    rw [binom, e, ch_self, Nat.one_mul, Nat.add_mod, h, ih, Nat.add_mod x 1 p, Nat.mod_eq_of_lt hp1]
    rw [Nat.add_comm]

theorem Pr.fermat_one {p a : Nat} (hp : Pr p) (ha : ¬ p ∣ a) : a ^ (p - 1) % p = 1 := by
  have hp1 := hp.1
  have hf := hp.fermat a
  have hpos : 0 < a := by
    rcases Nat.eq_zero_or_pos a with rfl | h
    · exact absurd (Nat.dvd_zero p) ha
    · exact h
  have hge : 1 ≤ a ^ (p - 1) := Nat.pow_pos hpos
  have e : a ^ p = a * a ^ (p - 1) := by rw [← Nat.pow_succ', Nat.succ_eq_add_one, show p - 1 + 1 = p by omega]
  have hd : p ∣ a * (a ^ (p - 1) - 1) := by
    rw [Nat.mul_sub, Nat.mul_one, ← e]
    exact Nat.dvd_of_mod_eq_zero (Nat.sub_mod_eq_zero_of_mod_eq hf)
  rcases hp.euclid hd with h | h
  · exact absurd h ha
  · obtain ⟨c, hc⟩ := h
    rw [show a ^ (p - 1) = 1 + p * c by omega, Nat.add_mul_mod_self_left, Nat.mod_eq_of_lt hp1]

/-! Powers: what is 1 to two powers is 1 to what divides both. -/
theorem pow_mod_one {a r m : Nat} (hr : 1 < r) (h : a ^ m % r = 1) (k : Nat) : a ^ (m * k) % r = 1 := by
  rw [Nat.pow_mul, Nat.pow_mod, h, Nat.one_pow, Nat.mod_eq_of_lt hr]

theorem pow_gcd {a r : Nat} (hr : 1 < r) (m n : Nat) : a ^ m % r = 1 → a ^ n % r = 1 → a ^ Nat.gcd m n % r = 1 := by
  induction m, n using Nat.gcd.induction with
  | H0 n => intro _ h; rw [Nat.gcd_zero_left]; exact h
  | H1 m n _ ih =>
    intro h1 h2
    rw [Nat.gcd_rec]
    refine ih ?_ h1
    have e : a ^ n = a ^ (m * (n / m)) * a ^ (n % m) := by rw [← Nat.pow_add, Nat.div_add_mod]
    rw [e, Nat.mul_mod, pow_mod_one hr h1, Nat.one_mul, Nat.mod_mod] at h2
    exact h2

/-- A power modulo n, by squares. -/
def powMod (n : Nat) : Nat → Nat → Nat → Nat → Nat
  | 0, _, _, acc => acc % n
  | fuel + 1, a, e, acc => if e = 0 then acc % n else powMod n fuel (a * a % n) (e / 2) (if e % 2 = 1 then acc * a % n else acc)

theorem powMod_eq (n : Nat) : ∀ (fuel a e acc : Nat), e < 2 ^ fuel → powMod n fuel a e acc = acc * a ^ e % n
  | 0, a, e, acc, h => by rw [show e = 0 by simpa using h]; simp [powMod]
  | fuel + 1, a, e, acc, h => by
    unfold powMod
    by_cases h0 : e = 0
    · rw [if_pos h0, h0]; simp
    · rw [if_neg h0, powMod_eq n fuel _ _ _ (by rw [Nat.pow_succ] at h; omega)]
      have e2 : a ^ e = (a * a) ^ (e / 2) * a ^ (e % 2) := by
        rw [← Nat.pow_two, ← Nat.pow_mul, ← Nat.pow_add, Nat.div_add_mod]
      have hm : ∀ x : Nat, x * (a * a % n) ^ (e / 2) % n = x * (a * a) ^ (e / 2) % n := fun x => by
        rw [Nat.mul_mod, ← Nat.pow_mod, ← Nat.mul_mod]
      rw [hm, e2]
      by_cases h1 : e % 2 = 1
      · rw [if_pos h1, h1, Nat.pow_one, Nat.mod_mul_mod]
        congr 1
        rw [Nat.mul_assoc, Nat.mul_comm a]
      · rw [if_neg h1, show e % 2 = 0 by omega, Nat.pow_zero, Nat.mul_one]

/-- A prime of n - 1 that a certificate names divides what is below each prime divisor of n. -/
theorem pock_one {n r q R a : Nat} (hr : Pr r) (hd : r ∣ n) (hq : Pr q) (hR : q * R = n - 1) (hn : 1 < n)
    (h1 : a ^ (n - 1) % n = 1) (h2 : Nat.gcd (a ^ R % n + (n - 1)) n = 1) : q ∣ r - 1 := by
  have hr1 := hr.1
  refine Classical.byContradiction fun hc => ?_
  have toR : ∀ x y : Nat, x % n = y % n → x % r = y % r := fun x y h => by
    rw [← Nat.mod_mod_of_dvd x hd, h, Nat.mod_mod_of_dvd y hd]
  have hA1 : (a ^ R) ^ q % r = 1 := by
    rw [← Nat.pow_mul, Nat.mul_comm, hR]
    have := toR (a ^ (n - 1)) 1 (by rw [h1, Nat.mod_eq_of_lt hn])
    rw [this, Nat.mod_eq_of_lt hr1]
  have hra : ¬ r ∣ a ^ R := fun h => by
    have h3 : r ∣ (a ^ R) ^ q := Nat.dvd_trans h ⟨(a ^ R) ^ (q - 1), by rw [← Nat.pow_succ', Nat.succ_eq_add_one, show q - 1 + 1 = q by have := hq.1; omega]⟩
    have := Nat.mod_eq_zero_of_dvd h3
    omega
  have hA2 := hr.fermat_one hra
  have hg := pow_gcd hr1 _ _ hA1 hA2
  rw [show Nat.gcd q (r - 1) = 1 from hq.coprime hc, Nat.pow_one] at hg
  have h3 : r ∣ a ^ R % n + (n - 1) := by
    apply Nat.dvd_of_mod_eq_zero
    have h4 : (a ^ R % n) % r = 1 := by rw [Nat.mod_mod_of_dvd _ hd, hg]
    obtain ⟨k, hk⟩ := hd
    have hk0 : 0 < k := by rcases Nat.eq_zero_or_pos k with rfl | h <;> omega
    have e : n - 1 = (r - 1) + r * (k - 1) := by
      rw [Nat.mul_sub, Nat.mul_one, hk]
      have : r ≤ r * k := Nat.le_mul_of_pos_right _ hk0
      omega
    rw [e, ← Nat.add_assoc, Nat.add_mul_mod_self_left, Nat.add_mod, h4, Nat.mod_eq_of_lt (show r - 1 < r by omega), show 1 + (r - 1) = r by omega, Nat.mod_self]
  have := Nat.dvd_gcd h3 hd
  rw [h2] at this
  have := Nat.le_of_dvd (by omega) this
  omega

theorem pock1 {n q R a : Nat} (hq : Pr q) (hn : 1 < n) (hR : q * R = n - 1) (hbig : n < q * q)
    (h1 : powMod n 256 a (n - 1) 1 = 1) (hs : n < 2 ^ 256) (h2 : Nat.gcd (powMod n 256 a R 1 + (n - 1)) n = 1) : Pr n := by
  have hq1 := hq.1
  rw [powMod_eq _ _ _ _ _ (by omega), Nat.one_mul] at h1
  have hRle : R ≤ n - 1 := by rw [← hR]; exact Nat.le_mul_of_pos_left _ (by omega)
  rw [powMod_eq _ _ _ _ _ (by omega), Nat.one_mul] at h2
  refine Classical.byContradiction fun hc => ?_
  obtain ⟨r, hr, hd, hsq⟩ := exists_small hn hc
  have hr1 := hr.1
  have h := Nat.le_of_dvd (by omega) (pock_one hr hd hq hR hn h1 h2)
  have : q * q ≤ r * r := Nat.mul_le_mul (by omega) (by omega)
  omega

theorem pock2 {n q R q' R' a a' : Nat} (hq : Pr q) (hq' : Pr q') (hne : q ≠ q') (hn : 1 < n) (hR : q * R = n - 1) (hR' : q' * R' = n - 1) (hbig : n < (q * q') * (q * q'))
    (h1 : powMod n 256 a (n - 1) 1 = 1) (h1' : powMod n 256 a' (n - 1) 1 = 1) (hs : n < 2 ^ 256) (h2 : Nat.gcd (powMod n 256 a R 1 + (n - 1)) n = 1) (h2' : Nat.gcd (powMod n 256 a' R' 1 + (n - 1)) n = 1) : Pr n := by
  have hq1 := hq.1
  have hq1' := hq'.1
  rw [powMod_eq _ _ _ _ _ (by omega), Nat.one_mul] at h1 h1'
  have hRle : R ≤ n - 1 := by rw [← hR]; exact Nat.le_mul_of_pos_left _ (by omega)
  have hRle' : R' ≤ n - 1 := by rw [← hR']; exact Nat.le_mul_of_pos_left _ (by omega)
  rw [powMod_eq _ _ _ _ _ (by omega), Nat.one_mul] at h2 h2'
  refine Classical.byContradiction fun hc => ?_
  obtain ⟨r, hr, hd, hsq⟩ := exists_small hn hc
  have hr1 := hr.1
  have hcop : Nat.Coprime q q' := hq.coprime fun h => by
    rcases hq'.2 q h with h | h
    · omega
    · exact hne h
  have h := Nat.le_of_dvd (by omega) (hcop.mul_dvd_of_dvd_of_dvd (pock_one hr hd hq hR hn h1 h2) (pock_one hr hd hq' hR' hn h1' h2'))
  have : (q * q') * (q * q') ≤ r * r := Nat.mul_le_mul (by omega) (by omega)
  omega

/-- No divisor from 2 on below k. -/
def noneBelow (n : Nat) : Nat → Bool
  | 0 => true
  | k + 1 => noneBelow n k && (decide (k < 2) || n % k != 0)
theorem noneBelow_eq (n : Nat) : ∀ k, noneBelow n k = true → ∀ d, 2 ≤ d → d < k → ¬ d ∣ n
  | k + 1, h, d, h2, hd => by
    simp only [noneBelow, Bool.and_eq_true, Bool.or_eq_true, decide_eq_true_eq, bne_iff_ne] at h
    rcases Nat.lt_or_ge d k with h3 | h3
    · exact noneBelow_eq n k h.1 d h2 h3
    · obtain rfl : d = k := by omega
      intro hc
      have := Nat.mod_eq_zero_of_dvd hc
      omega
theorem pr_small {n : Nat} (k : Nat) (hn : 1 < n) (h : noneBelow n k = true) (hk : n < k * k) : Pr n := by
  refine Classical.byContradiction fun hc => ?_
  obtain ⟨r, hr, hd, hsq⟩ := exists_small hn hc
  rcases Nat.lt_or_ge r k with h3 | h3
  · exact noneBelow_eq n k h r hr.1 h3 hd
  · have : k * k ≤ r * r := Nat.mul_le_mul h3 h3
    omega

set_option maxRecDepth 100000
theorem pr_127 : Pr 127 := pr_small 12 (by decide) (by decide +kernel) (by decide)
theorem pr_75707 : Pr 75707 := pr_small 300 (by decide) (by decide +kernel) (by decide)
theorem pr_1923133 : Pr 1923133 := pr_small 1400 (by decide) (by decide +kernel) (by decide)
theorem pr_8574133 : Pr 8574133 := pr_small 2930 (by decide) (by decide +kernel) (by decide)
theorem pr_s : Pr 1919519569386763 := pock2 (R := 223873314) (R' := 15114327318006) (a := 2) (a' := 2) pr_8574133 pr_127 (by decide) (by decide) (by decide +kernel) (by decide +kernel) (by decide +kernel) (by decide +kernel) (by decide +kernel) (by decide +kernel) (by decide +kernel) (by decide +kernel)
theorem pr_r : Pr 75445702479781427272750846543864801 := pock2 (R := 39304471641247389600) (R' := 996548568557483816196003626400) (a := 2) (a' := 2) pr_s pr_75707 (by decide) (by decide) (by decide +kernel) (by decide +kernel) (by decide +kernel) (by decide +kernel) (by decide +kernel) (by decide +kernel) (by decide +kernel) (by decide +kernel)
theorem pr_q : Pr 74058212732561358302231226437062788676166966415465897661863160754340907 := pock2 (R := 981609426360740691344999861639072106) (R' := 38509147694185143878364744631319200843710219946028640589009268082) (a := 2) (a' := 2) pr_r pr_1923133 (by decide) (by decide) (by decide +kernel) (by decide +kernel) (by decide +kernel) (by decide +kernel) (by decide +kernel) (by decide +kernel) (by decide +kernel) (by decide +kernel)
/-- The field's prime. -/
def PP : Nat := 57896044618658097711785492504343953926634992332820282019728792003956564819949
theorem PP_eq : PP = 2 ^ 255 - 19 := by decide
theorem pr_PP : Pr PP := pock1 (R := 781764) (a := 2) pr_q (by decide +kernel) (by decide +kernel) (by decide +kernel) (by decide +kernel) (by decide +kernel) (by decide +kernel)
end Go.Proofs.YtlfkohanfeejfaaDoor

namespace Go.Proofs.YtlfkohanfeejfaaDoor

instance : NeZero PP := ⟨by decide⟩
abbrev F := Fin PP

def toF (n : Nat) : F := ⟨n % PP, Nat.mod_lt _ (by decide)⟩
theorem toF_val (n : Nat) : (toF n).val = n % PP := rfl
theorem toF_of (a : F) : toF a.val = a := Fin.ext (Nat.mod_eq_of_lt a.isLt)
theorem toF_mod (n : Nat) : toF (n % PP) = toF n := Fin.ext (Nat.mod_mod _ _)
theorem toF_eq {m n : Nat} : toF m = toF n ↔ m % PP = n % PP := ⟨fun h => congrArg Fin.val h, fun h => Fin.ext h⟩
theorem toF_zero {n : Nat} : toF n = 0 ↔ PP ∣ n := ⟨fun h => Nat.dvd_of_mod_eq_zero (congrArg Fin.val h), fun h => Fin.ext (Nat.mod_eq_zero_of_dvd h)⟩
theorem F.val_add (a b : F) : (a + b).val = (a.val + b.val) % PP := Fin.val_add a b
theorem F.val_mul (a b : F) : (a * b).val = a.val * b.val % PP := Fin.val_mul a b
theorem F.val_neg (a : F) : (-a).val = (PP - a.val) % PP := rfl
theorem F.val_zero : (0 : F).val = 0 := rfl
theorem F.val_one : (1 : F).val = 1 := rfl
theorem toF_add (m n : Nat) : toF (m + n) = toF m + toF n := Fin.ext (by rw [F.val_add, toF_val, toF_val, toF_val, Nat.add_mod])
theorem toF_mul (m n : Nat) : toF (m * n) = toF m * toF n := Fin.ext (by rw [F.val_mul, toF_val, toF_val, toF_val, Nat.mul_mod])

theorem F.ne01 : (0 : F) ≠ 1 := fun h => absurd (congrArg Fin.val h) (by decide)
theorem F.mul_zero' {a b : F} (h : a * b = 0) : a = 0 ∨ b = 0 := by
  have h1 : PP ∣ a.val * b.val := Nat.dvd_of_mod_eq_zero (congrArg Fin.val h)
  have small : ∀ c : F, PP ∣ c.val → c = 0 := fun c hc => by rw [← toF_of c, toF_zero]; exact hc
  rcases pr_PP.euclid h1 with h | h
  · exact Or.inl (small a h)
  · exact Or.inr (small b h)
theorem F.mul_ne {a b : F} (ha : a ≠ 0) (hb : b ≠ 0) : a * b ≠ 0 := fun h => (F.mul_zero' h).elim ha hb
theorem F.cancel {a b c : F} (ha : a ≠ 0) (h : a * b = a * c) : b = c := by
  have h1 : a * (b - c) = 0 := by grind
  rcases F.mul_zero' h1 with h | h
  · exact absurd h ha
  · grind
theorem F.two_ne : (2 : F) ≠ 0 := fun h => absurd (congrArg Fin.val h) (by decide)

/-! Powers. -/
def fpow (a : F) : Nat → F
  | 0 => 1
  | n + 1 => fpow a n * a
theorem fpow_zero (a : F) : fpow a 0 = 1 := rfl
theorem fpow_succ (a : F) (n : Nat) : fpow a (n + 1) = fpow a n * a := rfl
theorem fpow_one (a : F) : fpow a 1 = a := by rw [fpow_succ, fpow_zero]; grind
theorem fpow_two (a : F) : fpow a 2 = a * a := by rw [fpow_succ, fpow_one]
theorem fpow_add (a : F) (m : Nat) : ∀ n, fpow a (m + n) = fpow a m * fpow a n
  | 0 => by rw [Nat.add_zero, fpow_zero]; grind
  | n + 1 => by rw [← Nat.add_assoc, fpow_succ, fpow_succ, fpow_add a m n]; grind
theorem fpow_mul (a : F) (m : Nat) : ∀ n, fpow a (m * n) = fpow (fpow a m) n
  | 0 => by rw [Nat.mul_zero, fpow_zero, fpow_zero]
  | n + 1 => by rw [Nat.mul_succ, fpow_add, fpow_mul a m n, fpow_succ]
theorem mul_fpow (a b : F) : ∀ n, fpow (a * b) n = fpow a n * fpow b n
  | 0 => by rw [fpow_zero, fpow_zero, fpow_zero]; grind
  | n + 1 => by rw [fpow_succ, fpow_succ, fpow_succ, mul_fpow a b n]; grind
theorem one_fpow : ∀ n, fpow 1 n = 1
  | 0 => rfl
  | n + 1 => by rw [fpow_succ, one_fpow n]; grind
theorem zero_fpow {n : Nat} (h : 0 < n) : fpow 0 n = 0 := by
  obtain ⟨m, rfl⟩ : ∃ m, n = m + 1 := ⟨n - 1, by omega⟩
  rw [fpow_succ]; grind
theorem fpow_val (a : F) : ∀ n, (fpow a n).val = a.val ^ n % PP
  | 0 => (Nat.mod_eq_of_lt (by decide : 1 < PP)).symm
  | n + 1 => by rw [fpow_succ, F.val_mul, fpow_val a n, Nat.pow_succ, Nat.mod_mul_mod]
theorem fpow_ne {a : F} (ha : a ≠ 0) : ∀ n, fpow a n ≠ 0
  | 0 => fun h => F.ne01 h.symm
  | n + 1 => F.mul_ne (fpow_ne ha n) ha

theorem fermatF {a : F} (ha : a ≠ 0) : fpow a (PP - 1) = 1 := by
  refine Fin.ext ?_
  rw [fpow_val]
  exact pr_PP.fermat_one fun h => ha (by rw [← toF_of a, toF_zero]; exact h)

/-- What a number is multiplied by to be 1; 0 of 0. -/
def finv (a : F) : F := fpow a (PP - 2)
theorem finv_zero : finv 0 = 0 := zero_fpow (by decide)
theorem mul_finv {a : F} (ha : a ≠ 0) : a * finv a = 1 := by
  have := fermatF ha
  rw [show PP - 1 = (PP - 2) + 1 by decide, fpow_succ] at this
  unfold finv
  grind
theorem finv_ne {a : F} (ha : a ≠ 0) : finv a ≠ 0 := fpow_ne ha _
theorem finv_eq {a b : F} (h : a * b = 1) : finv a = b := by
  have ha : a ≠ 0 := by rintro rfl; exact F.ne01 (by grind)
  exact F.cancel ha (by rw [mul_finv ha, h])
theorem finv_mul (a b : F) : finv (a * b) = finv a * finv b := mul_fpow a b _
theorem finv_finv (a : F) : finv (finv a) = a := by
  by_cases ha : a = 0
  · rw [ha, finv_zero, finv_zero]
  · exact finv_eq (by have := mul_finv ha; grind)

/-! Squares. -/
theorem sq_eq {x y : F} (h : x * x = y * y) : x = y ∨ x = -y := by
  have h1 : (x - y) * (x + y) = 0 := by grind
  rcases F.mul_zero' h1 with h | h
  · exact Or.inl (by grind)
  · exact Or.inr (by grind)
def chi (a : F) : F := fpow a ((PP - 1) / 2)
theorem chi_mul (a b : F) : chi (a * b) = chi a * chi b := mul_fpow a b _
theorem chi_zero : chi 0 = 0 := zero_fpow (by decide)
theorem chi_sq {a : F} (ha : a ≠ 0) : chi a * chi a = 1 := by
  unfold chi
  rw [← fpow_add, show (PP - 1) / 2 + (PP - 1) / 2 = PP - 1 by decide]
  exact fermatF ha
theorem chi_or {a : F} (ha : a ≠ 0) : chi a = 1 ∨ chi a = -1 := sq_eq (by rw [chi_sq ha]; grind)
theorem one_ne_neg : (1 : F) ≠ -1 := fun h => absurd (congrArg Fin.val h) (by decide)
theorem chi_of_sq {x : F} (hx : x ≠ 0) : chi (x * x) = 1 := by rw [chi_mul]; exact chi_sq hx

/-- A root of -1. -/
def fI : F := fpow 2 ((PP - 1) / 4)
theorem fI_sq : fI * fI = -1 := by
  unfold fI
  rw [← fpow_add, show (PP - 1) / 4 + (PP - 1) / 4 = (PP - 1) / 2 by decide]
  have h := powMod_eq PP 256 2 ((PP - 1) / 2) 1 (by decide)
  have h3 : powMod PP 256 2 ((PP - 1) / 2) 1 = PP - 1 := by decide +kernel
  rw [Nat.one_mul, h3] at h
  refine Fin.ext ?_
  rw [fpow_val, show ((2 : F).val) = 2 from rfl, ← h]
  rfl

/-- What is a root of q, or of -q, if q is a square. -/
def half8 (q : F) : F := fpow q ((PP + 3) / 8)
theorem half8_sq (q : F) : half8 q * half8 q = q * fpow q ((PP - 1) / 4) := by
  unfold half8
  rw [← fpow_add, show (PP + 3) / 8 + (PP + 3) / 8 = (PP - 1) / 4 + 1 by decide, fpow_succ]
  grind
theorem quarter_sq (q : F) : fpow q ((PP - 1) / 4) * fpow q ((PP - 1) / 4) = chi q := by
  unfold chi
  rw [← fpow_add, show (PP - 1) / 4 + (PP - 1) / 4 = (PP - 1) / 2 by decide]

theorem half8_root {q x : F} (h : x * x = q) : half8 q * half8 q = q ∨ (half8 q * fI) * (half8 q * fI) = q := by
  by_cases hx : x = 0
  · subst hx
    have hq : q = 0 := by grind
    subst hq
    left
    rw [half8_sq]; grind
  · have hc : chi q = 1 := by rw [← h]; exact chi_of_sq hx
    have h1 := half8_sq q
    have h2 := quarter_sq q
    have h3 := fI_sq
    rw [hc] at h2
    rcases sq_eq (show fpow q ((PP - 1) / 4) * fpow q ((PP - 1) / 4) = 1 * 1 by rw [h2]; grind) with h4 | h4
    · left; rw [h1, h4]; grind
    · right; rw [h4] at h1; grind

/-- A number is a square just if it is 0, or its power is 1. -/
theorem sq_iff (q : F) : (∃ x, x * x = q) ↔ q = 0 ∨ chi q = 1 := by
  constructor
  · rintro ⟨x, rfl⟩
    by_cases hx : x = 0
    · left; subst hx; grind
    · exact Or.inr (chi_of_sq hx)
  · rintro (rfl | h)
    · exact ⟨0, by grind⟩
    · have h1 := half8_sq q
      have h2 := quarter_sq q
      have h3 := fI_sq
      rw [h] at h2
      rcases sq_eq (show fpow q ((PP - 1) / 4) * fpow q ((PP - 1) / 4) = 1 * 1 by rw [h2]; grind) with h4 | h4
      · exact ⟨half8 q, by rw [h1, h4]; grind⟩
      · exact ⟨half8 q * fI, by rw [h4] at h1; grind⟩

/-! Odd, even. -/
def fodd (a : F) : Bool := decide (a.val % 2 = 1)
theorem fodd_neg {a : F} (ha : a ≠ 0) : fodd (-a) = !fodd a := by
  have h0 : a.val ≠ 0 := fun h => ha (Fin.ext h)
  have hlt := a.isLt
  have h1 : (-a).val = PP - a.val := by rw [F.val_neg]; exact Nat.mod_eq_of_lt (by omega)
  have hp : PP % 2 = 1 := by decide
  unfold fodd
  rw [h1]
  by_cases h : a.val % 2 = 1
  · rw [decide_eq_true h, decide_eq_false (by omega)]; rfl
  · rw [decide_eq_false h, decide_eq_true (by omega)]; rfl
theorem fodd_zero : fodd 0 = false := rfl
def even (a : F) : F := if fodd a = true then -a else a
theorem even_even (a : F) : fodd (even a) = false := by
  unfold even
  split
  · next h =>
    have ha : a ≠ 0 := by rintro rfl; rw [fodd_zero] at h; cases h
    rw [fodd_neg ha, h]; rfl
  · next h => simpa using h
theorem even_sq (a : F) : even a * even a = a * a := by unfold even; split <;> grind
theorem even_eq {a b : F} (h : a * a = b * b) (ha : fodd a = false) (hb : fodd b = false) : a = b := by
  rcases sq_eq h with h | h
  · exact h
  · by_cases h0 : b = 0
    · subst h0; grind
    · rw [h, fodd_neg h0, hb] at ha; cases ha

/-- The even one of what x makes of u and v. -/
def rootAt (i x u v : F) : F × Bool :=
  if v * (x * x) = u then (even x, true)
  else if v * ((x * i) * (x * i)) = u then (even (x * i), true) else (0, false)
theorem rootAt_sol {i x u v : F} (h : (rootAt i x u v).2 = true) : v * ((rootAt i x u v).1 * (rootAt i x u v).1) = u ∧ fodd (rootAt i x u v).1 = false := by
  unfold rootAt at *
  by_cases h1 : v * (x * x) = u
  · rw [if_pos h1]; exact ⟨by rw [even_sq]; exact h1, even_even _⟩
  · rw [if_neg h1] at h ⊢
    by_cases h2 : v * ((x * i) * (x * i)) = u
    · rw [if_pos h2]; exact ⟨by rw [even_sq]; exact h2, even_even _⟩
    · rw [if_neg h2] at h; cases h
theorem rootAt_ok {i x u v : F} (h : v * (x * x) = u ∨ v * ((x * i) * (x * i)) = u) : (rootAt i x u v).2 = true := by
  unfold rootAt
  by_cases h1 : v * (x * x) = u
  · rw [if_pos h1]
  · rw [if_neg h1, if_pos (h.resolve_left h1)]
theorem rootAt_none {i x u v : F} (h : (rootAt i x u v).2 = false) : rootAt i x u v = (0, false) := by
  unfold rootAt at *
  by_cases h1 : v * (x * x) = u
  · rw [if_pos h1] at h; cases h
  · rw [if_neg h1] at h ⊢
    by_cases h2 : v * ((x * i) * (x * i)) = u
    · rw [if_pos h2] at h; cases h
    · rw [if_neg h2]
theorem rootAt_zero (i u v : F) : (rootAt i 0 u v).1 = 0 := by
  have e0 : even 0 = 0 := rfl
  have e1 : even (0 * i) = 0 := by rw [show (0 : F) * i = 0 by grind, e0]
  unfold rootAt
  by_cases h1 : v * ((0 : F) * 0) = u
  · rw [if_pos h1, e0]
  · rw [if_neg h1]
    by_cases h2 : v * (((0 : F) * i) * (0 * i)) = u
    · rw [if_pos h2, e1]
    · rw [if_neg h2]

/-- The even root of u, divided by v. -/
def froot (u v : F) : F × Bool := rootAt fI (half8 (u * finv v)) u v
theorem froot_sol {u v : F} (h : (froot u v).2 = true) : v * ((froot u v).1 * (froot u v).1) = u ∧ fodd (froot u v).1 = false := rootAt_sol h
theorem froot_ok {u v x : F} (h : v * (x * x) = u) : (froot u v).2 = true := by
  refine rootAt_ok ?_
  by_cases hv : v = 0
  · subst hv
    have hu : u = 0 := by grind
    left
    rw [hu]
    generalize half8 _ = y
    grind
  · have hi := mul_finv hv
    have hq : x * x = u * finv v := by grind
    have h8 := half8_root hq
    generalize half8 (u * finv v) = y at *
    generalize fI = i at *
    generalize finv v = w at *
    rcases h8 with h1 | h1
    · left; rw [h1]; grind
    · right; rw [h1]; grind
theorem froot_none {u v : F} (h : (froot u v).2 = false) : froot u v = (0, false) := rootAt_none h
theorem froot_zero (u : F) : (froot u 0).1 = 0 := by
  have h0 : u * finv 0 = 0 := by rw [finv_zero]; grind
  have h1 : half8 (u * finv 0) = 0 := by rw [h0]; exact zero_fpow (by decide)
  unfold froot
  rw [h1]
  exact rootAt_zero _ _ _

/-- There is but one answer: an even solution, 0 where v is 0. -/
theorem froot_unique {u v x : F} (h : v * (x * x) = u) (he : fodd x = false) (hv : v = 0 → x = 0) : froot u v = (x, true) := by
  have hok := froot_ok h
  obtain ⟨h1, h2⟩ := froot_sol hok
  have hx : (froot u v).1 = x := by
    by_cases h0 : v = 0
    · subst h0; rw [froot_zero, hv rfl]
    · exact even_eq (F.cancel h0 (by rw [h1, h])) h2 he
  exact Prod.ext hx hok
theorem froot_only {u v : F} (h : ∀ x, v * (x * x) ≠ u) : froot u v = (0, false) :=
  froot_none (by
    cases hc : (froot u v).2 with
    | false => rfl
    | true => exact absurd (froot_sol hc).1 (h _))

theorem F.omul (a : F) : 1 * a = a := by grind
/-- Whether there is a root of a number, by itself. -/
theorem froot_one (a : F) : (froot a 1).2 = true ↔ a = 0 ∨ chi a = 1 := by
  rw [← sq_iff]
  constructor
  · intro h
    obtain ⟨h1, _⟩ := froot_sol h
    exact ⟨_, (F.omul _).symm.trans h1⟩
  · rintro ⟨x, hx⟩
    have h1 : (1 : F) * (x * x) = a := (F.omul _).trans hx
    exact froot_ok h1
theorem F.pp : (1 : F) * 1 = 1 := by grind
theorem F.pn : (1 : F) * -1 = -1 := by grind
theorem F.np : (-1 : F) * 1 = -1 := by grind
theorem F.nn : (-1 : F) * -1 = 1 := by grind
theorem F.zmul (a : F) : 0 * a = 0 := by grind
theorem F.mulz (a : F) : a * 0 = 0 := by grind
theorem froot_both (a b : F) : (froot (a * b) 1).2 = (decide (a = 0 ∨ b = 0) || ((froot a 1).2 == (froot b 1).2)) := by
  have z : (froot 0 1).2 = true := (froot_one 0).2 (Or.inl rfl)
  by_cases ha : a = 0
  · rw [decide_eq_true (Or.inl ha), Bool.true_or, ha, F.zmul, z]
  by_cases hb : b = 0
  · rw [decide_eq_true (Or.inr hb), Bool.true_or, hb, F.mulz, z]
  rw [decide_eq_false (fun h => h.elim ha hb), Bool.false_or]
  have hab := F.mul_ne ha hb
  have n1 : ∀ c : F, c ≠ 0 → chi c = -1 → (froot c 1).2 = false := fun c hc h => by
    cases hf : (froot c 1).2 with
    | false => rfl
    | true => rcases (froot_one c).1 hf with h1 | h1
              · exact absurd h1 hc
              · exact absurd (h1.symm.trans h) one_ne_neg
  have y1 : ∀ c : F, chi c = 1 → (froot c 1).2 = true := fun c h => (froot_one c).2 (Or.inr h)
  rcases chi_or ha with h1 | h1 <;> rcases chi_or hb with h2 | h2
  · rw [y1 a h1, y1 b h2, y1 (a * b) (by rw [chi_mul, h1, h2, F.pp])]; rfl
  · rw [y1 a h1, n1 b hb h2, n1 (a * b) hab (by rw [chi_mul, h1, h2, F.pn])]; rfl
  · rw [n1 a ha h1, y1 b h2, n1 (a * b) hab (by rw [chi_mul, h1, h2, F.np])]; rfl
  · rw [n1 a ha h1, n1 b hb h2, y1 (a * b) (by rw [chi_mul, h1, h2, F.nn])]; rfl
end Go.Proofs.YtlfkohanfeejfaaDoor

namespace Go.Proofs.YtlfkohanfeejfaaDoor

/-- D. -/
def DEE : Nat := 37095705934669439343138083508754565189542113879843219016388785533085940283555
def dd : F := toF DEE
theorem chi_dd : chi dd = -1 := by
  unfold chi
  have h := powMod_eq PP 256 DEE ((PP - 1) / 2) 1 (by decide)
  have h3 : powMod PP 256 DEE ((PP - 1) / 2) 1 = PP - 1 := by decide +kernel
  rw [Nat.one_mul, h3] at h
  refine Fin.ext ?_
  have hv : dd.val = DEE := by decide
  rw [fpow_val, hv, ← h]
  rfl
theorem dd_ne : dd ≠ 0 := fun h => by
  have := chi_dd
  rw [h, chi_zero] at this
  exact absurd (congrArg Fin.val this) (by decide)
/-- D is no square. -/
theorem dd_sq (z : F) : z * z ≠ dd := fun h => by
  have h1 := (sq_iff dd).1 ⟨z, h⟩
  rcases h1 with h1 | h1
  · exact dd_ne h1
  · exact one_ne_neg (h1.symm.trans chi_dd)

/-- A point of the curve. -/
def On (p : F × F) : Prop := p.2 * p.2 - p.1 * p.1 = 1 + dd * (p.1 * p.1 * (p.2 * p.2))
instance (p : F × F) : Decidable (On p) := inferInstanceAs (Decidable (_ = _))
theorem On.eq {p : F × F} (h : On p) : dd * (p.1 * p.1) * (p.2 * p.2) = p.2 * p.2 - p.1 * p.1 - 1 := by
  unfold On at h
  grind

theorem F.pow_ne {a : F} (h : a ≠ 0) : a * finv a = 1 := mul_finv h
theorem sq_of_quot {a b d : F} (hb : b ≠ 0) (h : a * a = d * (b * b)) : (a * finv b) * (a * finv b) = d := by
  have := mul_finv hb
  generalize finv b = c at *
  grind
/-- Nothing that is added up goes below or above. -/
theorem square_plus {d i x1 y1 x2 y2 e : F} (hi : i * i = -1) (he : e * e = 1) (h1 : d * (x1 * x1) * (y1 * y1) = y1 * y1 - x1 * x1 - 1) (h2 : d * (x2 * x2) * (y2 * y2) = y2 * y2 - x2 * x2 - 1) (h : d * x1 * x2 * y1 * y2 = e) :
    (i * x1 + e * y1) * (i * x1 + e * y1) = d * ((x1 * y1 * (i * x2 + y2)) * (x1 * y1 * (i * x2 + y2))) := by
  grind
theorem square_less {d i x1 y1 x2 y2 e : F} (hi : i * i = -1) (he : e * e = 1) (h1 : d * (x1 * x1) * (y1 * y1) = y1 * y1 - x1 * x1 - 1) (h2 : d * (x2 * x2) * (y2 * y2) = y2 * y2 - x2 * x2 - 1) (h : d * x1 * x2 * y1 * y2 = e) :
    (i * x1 - e * y1) * (i * x1 - e * y1) = d * ((x1 * y1 * (i * x2 - y2)) * (x1 * y1 * (i * x2 - y2))) := by
  grind
theorem twice_zero {a b : F} (h1 : a + b = 0) (h2 : a - b = 0) : 2 * b = 0 := by grind
theorem e_zero {d x1 x2 y1 y2 e : F} (h : d * x1 * x2 * y1 * y2 = e) (h2 : y2 = 0) : e = 0 := by rw [← h, h2]; grind
theorem e_zero' {d x1 x2 y1 y2 e : F} (h : d * x1 * x2 * y1 * y2 = e) (h2 : x1 * y1 = 0) : e = 0 := by rw [← h, show d * x1 * x2 * y1 * y2 = d * x2 * y2 * (x1 * y1) by grind, h2]; grind
theorem no_one {p q : F × F} (hp : On p) (hq : On q) {e : F} (he : e * e = 1) : dd * p.1 * q.1 * p.2 * q.2 ≠ e := fun h => by
  obtain ⟨x1, y1⟩ := p
  obtain ⟨x2, y2⟩ := q
  have h1 := hp.eq
  have h2 := hq.eq
  simp only at h h1 h2
  have he0 : e ≠ 0 := fun h0 => F.ne01 (by rw [h0] at he; grind)
  have hx : x1 * y1 ≠ 0 := fun h0 => he0 (e_zero' h h0)
  have hs := square_plus fI_sq he h1 h2 h
  have hl := square_less fI_sq he h1 h2 h
  by_cases hc : fI * x2 + y2 = 0
  · by_cases hd : fI * x2 - y2 = 0
    · have hy : (2 : F) * y2 = 0 := twice_zero hc hd
      have hy0 : y2 = 0 := (F.mul_zero' hy).resolve_left F.two_ne
      exact he0 (e_zero h hy0)
    · exact dd_sq _ (sq_of_quot (F.mul_ne hx hd) hl)
  · exact dd_sq _ (sq_of_quot (F.mul_ne hx hc) hs)
/-- Both numbers that are divided by are not 0. -/
theorem plus_ne {p q : F × F} (hp : On p) (hq : On q) : 1 + dd * p.1 * q.1 * p.2 * q.2 ≠ 0 := fun h =>
  no_one hp hq (e := -1) (by grind) (by grind)
theorem less_ne {p q : F × F} (hp : On p) (hq : On q) : 1 - dd * p.1 * q.1 * p.2 * q.2 ≠ 0 := fun h =>
  no_one hp hq (e := 1) (by grind) (by grind)

/-- The sum of two. -/
def padd (p q : F × F) : F × F :=
  ((p.1 * q.2 + p.2 * q.1) * finv (1 + dd * p.1 * q.1 * p.2 * q.2), (p.2 * q.2 + p.1 * q.1) * finv (1 - dd * p.1 * q.1 * p.2 * q.2))
def pzero : F × F := (0, 1)
def pneg (p : F × F) : F × F := (-p.1, p.2)
theorem padd_comm (p q : F × F) : padd p q = padd q p := by
  unfold padd
  have e : dd * p.1 * q.1 * p.2 * q.2 = dd * q.1 * p.1 * q.2 * p.2 := by grind
  rw [e, show p.1 * q.2 + p.2 * q.1 = q.1 * p.2 + q.2 * p.1 by grind, show p.2 * q.2 + p.1 * q.1 = q.2 * p.2 + q.1 * p.1 by grind]
theorem quot_eq {a b c : F} (hb : b ≠ 0) (h : c * b = a) : a * finv b = c := by
  have := mul_finv hb
  grind
theorem padd_x {p q : F × F} (hp : On p) (hq : On q) : (padd p q).1 * (1 + dd * p.1 * q.1 * p.2 * q.2) = p.1 * q.2 + p.2 * q.1 := by
  have h := mul_finv (plus_ne hp hq)
  unfold padd
  simp only
  grind
theorem padd_y {p q : F × F} (hp : On p) (hq : On q) : (padd p q).2 * (1 - dd * p.1 * q.1 * p.2 * q.2) = p.2 * q.2 + p.1 * q.1 := by
  have h := mul_finv (less_ne hp hq)
  unfold padd
  simp only
  grind

theorem on_poly {d x1 y1 x2 y2 : F} (h1 : d * (x1 * x1) * (y1 * y1) = y1 * y1 - x1 * x1 - 1) (h2 : d * (x2 * x2) * (y2 * y2) = y2 * y2 - x2 * x2 - 1) :
    (y1 * y2 + x1 * x2) * (y1 * y2 + x1 * x2) * ((1 + d * x1 * x2 * y1 * y2) * (1 + d * x1 * x2 * y1 * y2)) - (x1 * y2 + y1 * x2) * (x1 * y2 + y1 * x2) * ((1 - d * x1 * x2 * y1 * y2) * (1 - d * x1 * x2 * y1 * y2)) =
      (1 + d * x1 * x2 * y1 * y2) * (1 + d * x1 * x2 * y1 * y2) * ((1 - d * x1 * x2 * y1 * y2) * (1 - d * x1 * x2 * y1 * y2)) + d * ((x1 * y2 + y1 * x2) * (x1 * y2 + y1 * x2)) * ((y1 * y2 + x1 * x2) * (y1 * y2 + x1 * x2)) := by
  grind
theorem on_lift {d x y z v A B : F} (hz : z ≠ 0) (hv : v ≠ 0) (hx : x * z = A) (hy : y * v = B) (h : B * B * (z * z) - A * A * (v * v) = z * z * (v * v) + d * (A * A) * (B * B)) : y * y - x * x = 1 + d * (x * x * (y * y)) := by
  have hne : z * z * (v * v) ≠ 0 := F.mul_ne (F.mul_ne hz hz) (F.mul_ne hv hv)
  refine F.cancel hne ?_
  subst hx hy
  grind
theorem on_add {p q : F × F} (hp : On p) (hq : On q) : On (padd p q) := by
  unfold On
  exact on_lift (plus_ne hp hq) (less_ne hp hq) (padd_x hp hq) (padd_y hp hq) (on_poly hp.eq hq.eq)
theorem on_zero : On pzero := by decide
theorem on_neg {p : F × F} (hp : On p) : On (pneg p) := by
  unfold On pneg at *
  simp only
  grind
theorem pz1 (d a b : F) : (1 : F) + d * a * 0 * b * 1 = 1 := by rw [F.mulz, F.zmul, F.zmul]; decide
theorem pz2 (d a b : F) : (1 : F) - d * a * 0 * b * 1 = 1 := by rw [F.mulz, F.zmul, F.zmul]; decide
theorem pz3 (a b : F) : (a * 1 + b * 0) * 1 = a := by grind
theorem finv_one : finv (1 : F) = 1 := finv_eq (by grind)
theorem padd_zero (p : F × F) : padd p pzero = p := by
  unfold padd pzero
  refine Prod.ext ?_ ?_
  · simp only
    rw [pz1, finv_one, pz3]
  · simp only
    rw [pz2, finv_one, pz3]
theorem padd_neg {p : F × F} (hp : On p) : padd p (pneg p) = pzero := by
  have hn := on_neg hp
  have h1 := padd_x hp hn
  have h2 := padd_y hp hn
  have n1 := plus_ne hp hn
  have n2 := less_ne hp hn
  have e := hp.eq
  unfold pneg at *
  simp only at *
  refine Prod.ext ?_ ?_
  · refine F.cancel n1 ?_
    unfold pzero
    simp only
    grind
  · refine F.cancel n2 ?_
    unfold pzero
    simp only
    grind

theorem assoc_x {d x1 y1 x2 y2 x3 y3 : F} (h1 : d * (x1 * x1) * (y1 * y1) = y1 * y1 - x1 * x1 - 1) (h2 : d * (x2 * x2) * (y2 * y2) = y2 * y2 - x2 * x2 - 1) (h3 : d * (x3 * x3) * (y3 * y3) = y3 * y3 - x3 * x3 - 1) :
    ((x1 * y2 + y1 * x2) * (1 - d * x1 * x2 * y1 * y2) * y3 + (y1 * y2 + x1 * x2) * (1 + d * x1 * x2 * y1 * y2) * x3) * ((1 + d * x2 * x3 * y2 * y3) * (1 - d * x2 * x3 * y2 * y3) + d * x1 * y1 * (x2 * y3 + y2 * x3) * (y2 * y3 + x2 * x3)) =
      (x1 * (y2 * y3 + x2 * x3) * (1 + d * x2 * x3 * y2 * y3) + y1 * (x2 * y3 + y2 * x3) * (1 - d * x2 * x3 * y2 * y3)) * ((1 + d * x1 * x2 * y1 * y2) * (1 - d * x1 * x2 * y1 * y2) + d * x3 * y3 * (x1 * y2 + y1 * x2) * (y1 * y2 + x1 * x2)) := by
  grind
theorem assoc_y {d x1 y1 x2 y2 x3 y3 : F} (h1 : d * (x1 * x1) * (y1 * y1) = y1 * y1 - x1 * x1 - 1) (h2 : d * (x2 * x2) * (y2 * y2) = y2 * y2 - x2 * x2 - 1) (h3 : d * (x3 * x3) * (y3 * y3) = y3 * y3 - x3 * x3 - 1) :
    ((y1 * y2 + x1 * x2) * (1 + d * x1 * x2 * y1 * y2) * y3 + (x1 * y2 + y1 * x2) * (1 - d * x1 * x2 * y1 * y2) * x3) * ((1 + d * x2 * x3 * y2 * y3) * (1 - d * x2 * x3 * y2 * y3) - d * x1 * y1 * (x2 * y3 + y2 * x3) * (y2 * y3 + x2 * x3)) =
      (y1 * (y2 * y3 + x2 * x3) * (1 + d * x2 * x3 * y2 * y3) + x1 * (x2 * y3 + y2 * x3) * (1 - d * x2 * x3 * y2 * y3)) * ((1 + d * x1 * x2 * y1 * y2) * (1 - d * x1 * x2 * y1 * y2) - d * x3 * y3 * (x1 * y2 + y1 * x2) * (y1 * y2 + x1 * x2)) := by
  grind
/-- Two quotients are one where they are, multiplied by all that is divided by. -/
theorem quots {l r E1 E2 N1 N2 Z : F} (hE1 : E1 ≠ 0) (hE2 : E2 ≠ 0) (hZ : Z ≠ 0) (h1 : l * E1 = N1) (h2 : r * E2 = N2) (h : Z * (N1 * E2) = Z * (N2 * E1)) : l = r := by
  have h3 := F.cancel hZ h
  refine F.cancel (F.mul_ne hE1 hE2) ?_
  subst h1 h2
  grind
theorem lift_x {d x1 y1 x3 y3 a b c e za zb zc ze A B C E : F} (ha : a * za = A) (hb : b * zb = B) (hc : c * zc = C) (he : e * ze = E)
    (h : (A * zb * y3 + B * za * x3) * (zc * ze + d * x1 * y1 * C * E) = (x1 * E * zc + y1 * C * ze) * (za * zb + d * x3 * y3 * A * B)) :
    (za * zb * zc * ze) * ((a * y3 + b * x3) * (1 + d * x1 * c * y1 * e)) = (za * zb * zc * ze) * ((x1 * e + y1 * c) * (1 + d * a * x3 * b * y3)) := by
  subst ha hb hc he
  grind
theorem lift_y {d x1 y1 x3 y3 a b c e za zb zc ze A B C E : F} (ha : a * za = A) (hb : b * zb = B) (hc : c * zc = C) (he : e * ze = E)
    (h : (B * za * y3 + A * zb * x3) * (zc * ze - d * x1 * y1 * C * E) = (y1 * E * zc + x1 * C * ze) * (za * zb - d * x3 * y3 * A * B)) :
    (za * zb * zc * ze) * ((b * y3 + a * x3) * (1 - d * x1 * c * y1 * e)) = (za * zb * zc * ze) * ((y1 * e + x1 * c) * (1 - d * a * x3 * b * y3)) := by
  subst ha hb hc he
  grind
theorem padd_assoc {p q r : F × F} (hp : On p) (hq : On q) (hr : On r) : padd (padd p q) r = padd p (padd q r) := by
  have hpq := on_add hp hq
  have hqr := on_add hq hr
  have hne := F.mul_ne (F.mul_ne (F.mul_ne (plus_ne hp hq) (less_ne hp hq)) (plus_ne hq hr)) (less_ne hq hr)
  refine Prod.ext ?_ ?_
  · exact quots (plus_ne hpq hr) (plus_ne hp hqr) hne (padd_x hpq hr) (padd_x hp hqr)
      (lift_x (padd_x hp hq) (padd_y hp hq) (padd_x hq hr) (padd_y hq hr) (assoc_x hp.eq hq.eq hr.eq))
  · exact quots (less_ne hpq hr) (less_ne hp hqr) hne (padd_y hpq hr) (padd_y hp hqr)
      (lift_y (padd_x hp hq) (padd_y hp hq) (padd_x hq hr) (padd_y hq hr) (assoc_y hp.eq hq.eq hr.eq))
end Go.Proofs.YtlfkohanfeejfaaDoor
