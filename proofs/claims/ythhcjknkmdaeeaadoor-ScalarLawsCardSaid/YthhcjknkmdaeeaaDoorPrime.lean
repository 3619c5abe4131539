/-
  Primes: Euclid's, Fermat's; a number is prime where a certificate says so; 2^255 - 19 is. Pure.
-/
namespace Go.Proofs.YthhcjknkmdaeeaaDoor

def Pr (n : Nat) : Prop := 1 < n ∧ ∀ m, m ∣ n → m = 1 ∨ m = n

theorem Pr.coprime {p a : Nat} (hp : Pr p) (h : ¬ p ∣ a) : Nat.Coprime p a := by
  rcases hp.2 _ (Nat.gcd_dvd_left p a) with h1 | h1
  · exact h1
  · exact absurd (h1 ▸ Nat.gcd_dvd_right p a) h

theorem Pr.euclid {p a b : Nat} (hp : Pr p) (h : p ∣ a * b) : p ∣ a ∨ p ∣ b := by
  by_cases ha : p ∣ a
  · exact Or.inl ha
  · exact Or.inr ((hp.coprime ha).dvd_of_dvd_mul_left h)

theorem Pr.of_pow {p a : Nat} (hp : Pr p) : ∀ {n : Nat}, p ∣ a ^ n → p ∣ a
  | 0, h => by
    have h2 := hp.1
    rw [Nat.pow_zero] at h
    have h3 := Nat.le_of_dvd (by omega) h
    omega
  | n + 1, h => by
    rw [Nat.pow_succ] at h
    rcases hp.euclid h with h | h
    · exact Pr.of_pow hp h
    · exact h

theorem exists_pr : ∀ n, 1 < n → ∃ r, Pr r ∧ r ∣ n := by
  intro n
  induction n using Nat.strongRecOn with
  | ind n ih =>
    intro hn
    by_cases h : Pr n
    · exact ⟨n, h, Nat.dvd_refl n⟩
    · have : ∃ m, m ∣ n ∧ m ≠ 1 ∧ m ≠ n := by
        refine Classical.byContradiction fun hc => h ⟨hn, fun m hm => Classical.byContradiction fun hc2 => hc ⟨m, hm, ?_, ?_⟩⟩
        · exact fun e => hc2 (Or.inl e)
        · exact fun e => hc2 (Or.inr e)
      obtain ⟨m, hm, h1, h2⟩ := this
      have hle := Nat.le_of_dvd (by omega) hm
      have h0 : m ≠ 0 := by rintro rfl; have := Nat.eq_zero_of_zero_dvd hm; omega
      obtain ⟨r, hr, hd⟩ := ih m (by omega) (by omega)
      exact ⟨r, hr, Nat.dvd_trans hd hm⟩

/-- What is no prime has a prime divisor whose square is no greater. -/
theorem exists_small {n : Nat} (hn : 1 < n) (h : ¬ Pr n) : ∃ r, Pr r ∧ r ∣ n ∧ r * r ≤ n := by
  have : ∃ m, m ∣ n ∧ m ≠ 1 ∧ m ≠ n := by
    refine Classical.byContradiction fun hc => h ⟨hn, fun m hm => Classical.byContradiction fun hc2 => hc ⟨m, hm, ?_, ?_⟩⟩
    · exact fun e => hc2 (Or.inl e)
    · exact fun e => hc2 (Or.inr e)
  obtain ⟨m, hm, h1, h2⟩ := this
  obtain ⟨k, hk⟩ := hm
  have hm0 : m ≠ 0 := by rintro rfl; rw [Nat.zero_mul] at hk; omega
  have hk0 : k ≠ 0 := by rintro rfl; rw [Nat.mul_zero] at hk; omega
  have hk1 : k ≠ 1 := by rintro rfl; rw [Nat.mul_one] at hk; omega
  rcases Nat.le_total m k with hle | hle
  · obtain ⟨r, hr, hd⟩ := exists_pr m (by omega)
    refine ⟨r, hr, Nat.dvd_trans hd ⟨k, hk⟩, ?_⟩
    have := Nat.le_of_dvd (by omega) hd
    rw [hk]
    exact Nat.mul_le_mul this (by omega)
  · obtain ⟨r, hr, hd⟩ := exists_pr k (by omega)
    refine ⟨r, hr, Nat.dvd_trans hd ⟨m, by rw [hk, Nat.mul_comm]⟩, ?_⟩
    have := Nat.le_of_dvd (by omega) hd
    rw [hk]
    exact Nat.mul_le_mul (by omega) this

/-! Fermat's. -/
def ch : Nat → Nat → Nat
  | _, 0 => 1
  | 0, _ + 1 => 0
  | n + 1, k + 1 => ch n k + ch n (k + 1)

theorem ch_zero (n : Nat) : ch n 0 = 1 := by cases n <;> rfl
theorem ch_succ (n k : Nat) : ch (n + 1) (k + 1) = ch n k + ch n (k + 1) := rfl
theorem ch_above : ∀ (n k : Nat), n < k → ch n k = 0
  | 0, k + 1, _ => rfl
  | n + 1, k + 1, h => by rw [ch_succ, ch_above n k (by omega), ch_above n (k + 1) (by omega)]
theorem ch_self : ∀ n : Nat, ch n n = 1
  | 0 => rfl
  | n + 1 => by rw [ch_succ, ch_self n, ch_above n (n + 1) (by omega)]
theorem ch_absorb : ∀ (n k : Nat), (k + 1) * ch (n + 1) (k + 1) = (n + 1) * ch n k
  | 0, 0 => rfl
  | 0, k + 1 => by rw [ch_above 1 (k + 1 + 1) (by omega), ch_above 0 (k + 1) (by omega)]; omega
  | n + 1, 0 => by
    have := ch_absorb n 0
    rw [ch_zero] at this
    rw [ch_succ (n + 1) 0, ch_zero]
    omega
  | n + 1, k + 1 => by
    have h1 := ch_absorb n k
    have h2 := ch_absorb n (k + 1)
    have e1 : ch (n + 1 + 1) (k + 1 + 1) = ch (n + 1) (k + 1) + ch (n + 1) (k + 1 + 1) := rfl
    have e2 : ch (n + 1) (k + 1) = ch n k + ch n (k + 1) := rfl
    rw [e1]
    generalize ch (n + 1) (k + 1 + 1) = y at *
    have e3 : (n + 1) * ch (n + 1) (k + 1) = (n + 1) * ch n k + (n + 1) * ch n (k + 1) := by rw [e2, Nat.mul_add]
    generalize ch (n + 1) (k + 1) = x at *
    have a1 : (k + 1 + 1) * (x + y) = (k + 1) * x + x + (k + 1 + 1) * y := by rw [Nat.mul_add, Nat.succ_mul (k + 1) x]
    have a2 : (n + 1 + 1) * x = (n + 1) * x + x := Nat.succ_mul (n + 1) x
    omega

def sumTo (f : Nat → Nat) : Nat → Nat
  | 0 => 0
  | n + 1 => sumTo f n + f n
theorem sumTo_head (f : Nat → Nat) : ∀ n, sumTo f (n + 1) = f 0 + sumTo (fun k => f (k + 1)) n
  | 0 => by simp [sumTo]
  | n + 1 => by rw [sumTo, sumTo_head f n]; simp only [sumTo]; omega
theorem sumTo_add (f g : Nat → Nat) : ∀ n, sumTo (fun k => f k + g k) n = sumTo f n + sumTo g n
  | 0 => rfl
  | n + 1 => by simp only [sumTo, sumTo_add f g n]; omega
theorem sumTo_mul (c : Nat) (f : Nat → Nat) : ∀ n, sumTo (fun k => c * f k) n = c * sumTo f n
  | 0 => rfl
  | n + 1 => by simp only [sumTo, sumTo_mul c f n, Nat.mul_add]
theorem sumTo_congr {f g : Nat → Nat} (h : ∀ k, f k = g k) (n : Nat) : sumTo f n = sumTo g n := by rw [funext h]

theorem binom (x : Nat) : ∀ n, (x + 1) ^ n = sumTo (fun k => ch n k * x ^ k) (n + 1)
  | 0 => by simp [sumTo, ch]
  | n + 1 => by
    have ih := binom x n
    rw [sumTo_head, Nat.pow_succ, ih]
    have e : sumTo (fun k => ch (n + 1) (k + 1) * x ^ (k + 1)) (n + 1) = x * sumTo (fun k => ch n k * x ^ k) (n + 1) + sumTo (fun k => ch n (k + 1) * x ^ (k + 1)) (n + 1) := by
      rw [← sumTo_mul, ← sumTo_add]
      refine sumTo_congr (fun k => ?_) _
      rw [ch_succ, Nat.add_mul, Nat.pow_succ, ← Nat.mul_assoc, Nat.mul_comm _ x]
    have e2 : 1 + sumTo (fun k => ch n (k + 1) * x ^ (k + 1)) (n + 1) = sumTo (fun k => ch n k * x ^ k) (n + 1) := by
      have h1 := sumTo_head (fun k => ch n k * x ^ k) (n + 1)
      have h2 : sumTo (fun k => ch n k * x ^ k) (n + 1 + 1) = sumTo (fun k => ch n k * x ^ k) (n + 1) + ch n (n + 1) * x ^ (n + 1) := rfl
      rw [ch_above n (n + 1) (by omega), Nat.zero_mul, Nat.add_zero] at h2
      simp only [ch_zero, Nat.pow_zero, Nat.mul_one] at h1
      rw [← h1, h2]
      omega
    rw [e]
    simp only [ch_zero, Nat.pow_zero, Nat.mul_one]
    rw [Nat.mul_add, Nat.mul_one, Nat.mul_comm _ x]
    omega

theorem Pr.dvd_ch {p : Nat} (hp : Pr p) {k : Nat} (h0 : 0 < k) (hk : k < p) : p ∣ ch p k := by
  obtain ⟨j, rfl⟩ : ∃ j, k = j + 1 := ⟨k - 1, by omega⟩
  obtain ⟨n, rfl⟩ : ∃ n, p = n + 1 := ⟨p - 1, by omega⟩
  have h := ch_absorb n j
  have hd : n + 1 ∣ (j + 1) * ch (n + 1) (j + 1) := ⟨_, h⟩
  rcases hp.euclid hd with h2 | h2
  · have := Nat.le_of_dvd (by omega) h2; omega
  · exact h2

theorem fermat_sum {p : Nat} (hp : Pr p) (x : Nat) : ∀ m, m < p → sumTo (fun k => ch p k * x ^ k) (m + 1) % p = 1
  | 0, _ => by simp only [sumTo, ch_zero, Nat.pow_zero]; exact Nat.mod_eq_of_lt hp.1
  | m + 1, h => by
    have e : sumTo (fun k => ch p k * x ^ k) (m + 1 + 1) = sumTo (fun k => ch p k * x ^ k) (m + 1) + ch p (m + 1) * x ^ (m + 1) := rfl
    obtain ⟨c, hc⟩ := hp.dvd_ch (k := m + 1) (by omega) h
    rw [e, hc, Nat.mul_assoc, Nat.add_mul_mod_self_left]
    exact fermat_sum hp x m (by omega)

theorem Pr.fermat {p : Nat} (hp : Pr p) : ∀ a, a ^ p % p = a % p
  | 0 => by rw [Nat.zero_pow (by have := hp.1; omega)]
  | x + 1 => by
    have hp1 := hp.1
    have ih := Pr.fermat hp x
    have h := fermat_sum hp x (p - 1) (by omega)
    rw [show p - 1 + 1 = p by omega] at h
    have e : sumTo (fun k => ch p k * x ^ k) (p + 1) = sumTo (fun k => ch p k * x ^ k) p + ch p p * x ^ p := rfl
    rw [binom, e, ch_self, Nat.one_mul, Nat.add_mod, h, ih, Nat.add_mod x 1 p, Nat.mod_eq_of_lt hp1]
    rw [Nat.add_comm]

theorem Pr.fermat_one {p a : Nat} (hp : Pr p) (ha : ¬ p ∣ a) : a ^ (p - 1) % p = 1 := by
  have hp1 := hp.1
  have hf := hp.fermat a
  have hpos : 0 < a := by
    rcases Nat.eq_zero_or_pos a with rfl | h
    · exact absurd (Nat.dvd_zero p) ha
    · exact h
  have hge : 1 ≤ a ^ (p - 1) := Nat.pow_pos hpos
  have e : a ^ p = a * a ^ (p - 1) := by rw [← Nat.pow_succ', Nat.succ_eq_add_one, show p - 1 + 1 = p by omega]
  have hd : p ∣ a * (a ^ (p - 1) - 1) := by
    rw [Nat.mul_sub, Nat.mul_one, ← e]
    exact Nat.dvd_of_mod_eq_zero (Nat.sub_mod_eq_zero_of_mod_eq hf)
  rcases hp.euclid hd with h | h
  · exact absurd h ha
  · obtain ⟨c, hc⟩ := h
    rw [show a ^ (p - 1) = 1 + p * c by omega, Nat.add_mul_mod_self_left, Nat.mod_eq_of_lt hp1]

/-! Powers: what is 1 to two powers is 1 to what divides both. -/
theorem pow_mod_one {a r m : Nat} (hr : 1 < r) (h : a ^ m % r = 1) (k : Nat) : a ^ (m * k) % r = 1 := by
  rw [Nat.pow_mul, Nat.pow_mod, h, Nat.one_pow, Nat.mod_eq_of_lt hr]

theorem pow_gcd {a r : Nat} (hr : 1 < r) (m n : Nat) : a ^ m % r = 1 → a ^ n % r = 1 → a ^ Nat.gcd m n % r = 1 := by
  induction m, n using Nat.gcd.induction with
  | H0 n => intro _ h; rw [Nat.gcd_zero_left]; exact h
  | H1 m n _ ih =>
    intro h1 h2
    rw [Nat.gcd_rec]
    refine ih ?_ h1
    have e : a ^ n = a ^ (m * (n / m)) * a ^ (n % m) := by rw [← Nat.pow_add, Nat.div_add_mod]
    rw [e, Nat.mul_mod, pow_mod_one hr h1, Nat.one_mul, Nat.mod_mod] at h2
    exact h2

/-- A power modulo n, by squares. -/
def powMod (n : Nat) : Nat → Nat → Nat → Nat → Nat
  | 0, _, _, acc => acc % n
  | fuel + 1, a, e, acc => if e = 0 then acc % n else powMod n fuel (a * a % n) (e / 2) (if e % 2 = 1 then acc * a % n else acc)

theorem powMod_eq (n : Nat) : ∀ (fuel a e acc : Nat), e < 2 ^ fuel → powMod n fuel a e acc = acc * a ^ e % n
  | 0, a, e, acc, h => by rw [show e = 0 by simpa using h]; simp [powMod]
  | fuel + 1, a, e, acc, h => by
    unfold powMod
    by_cases h0 : e = 0
    · rw [if_pos h0, h0]; simp
    · rw [if_neg h0, powMod_eq n fuel _ _ _ (by rw [Nat.pow_succ] at h; omega)]
      have e2 : a ^ e = (a * a) ^ (e / 2) * a ^ (e % 2) := by
        rw [← Nat.pow_two, ← Nat.pow_mul, ← Nat.pow_add, Nat.div_add_mod]
      have hm : ∀ x : Nat, x * (a * a % n) ^ (e / 2) % n = x * (a * a) ^ (e / 2) % n := fun x => by
        rw [Nat.mul_mod, ← Nat.pow_mod, ← Nat.mul_mod]
      rw [hm, e2]
      by_cases h1 : e % 2 = 1
      · rw [if_pos h1, h1, Nat.pow_one, Nat.mod_mul_mod]
        congr 1
        rw [Nat.mul_assoc, Nat.mul_comm a]
      · rw [if_neg h1, show e % 2 = 0 by omega, Nat.pow_zero, Nat.mul_one]

/-- A prime of n - 1 that a certificate names divides what is below each prime divisor of n. -/
theorem pock_one {n r q R a : Nat} (hr : Pr r) (hd : r ∣ n) (hq : Pr q) (hR : q * R = n - 1) (hn : 1 < n)
    (h1 : a ^ (n - 1) % n = 1) (h2 : Nat.gcd (a ^ R % n + (n - 1)) n = 1) : q ∣ r - 1 := by
  have hr1 := hr.1
  refine Classical.byContradiction fun hc => ?_
  have toR : ∀ x y : Nat, x % n = y % n → x % r = y % r := fun x y h => by
    rw [← Nat.mod_mod_of_dvd x hd, h, Nat.mod_mod_of_dvd y hd]
  have hA1 : (a ^ R) ^ q % r = 1 := by
    rw [← Nat.pow_mul, Nat.mul_comm, hR]
    have := toR (a ^ (n - 1)) 1 (by rw [h1, Nat.mod_eq_of_lt hn])
    rw [this, Nat.mod_eq_of_lt hr1]
  have hra : ¬ r ∣ a ^ R := fun h => by
    have h3 : r ∣ (a ^ R) ^ q := Nat.dvd_trans h ⟨(a ^ R) ^ (q - 1), by rw [← Nat.pow_succ', Nat.succ_eq_add_one, show q - 1 + 1 = q by have := hq.1; omega]⟩
    have := Nat.mod_eq_zero_of_dvd h3
    omega
  have hA2 := hr.fermat_one hra
  have hg := pow_gcd hr1 _ _ hA1 hA2
  rw [show Nat.gcd q (r - 1) = 1 from hq.coprime hc, Nat.pow_one] at hg
  have h3 : r ∣ a ^ R % n + (n - 1) := by
    apply Nat.dvd_of_mod_eq_zero
    have h4 : (a ^ R % n) % r = 1 := by rw [Nat.mod_mod_of_dvd _ hd, hg]
    obtain ⟨k, hk⟩ := hd
    have hk0 : 0 < k := by rcases Nat.eq_zero_or_pos k with rfl | h <;> omega
    have e : n - 1 = (r - 1) + r * (k - 1) := by
      rw [Nat.mul_sub, Nat.mul_one, hk]
      have : r ≤ r * k := Nat.le_mul_of_pos_right _ hk0
      omega
    rw [e, ← Nat.add_assoc, Nat.add_mul_mod_self_left, Nat.add_mod, h4, Nat.mod_eq_of_lt (show r - 1 < r by omega), show 1 + (r - 1) = r by omega, Nat.mod_self]
  have := Nat.dvd_gcd h3 hd
  rw [h2] at this
  have := Nat.le_of_dvd (by omega) this
  omega

theorem pock1 {n q R a : Nat} (hq : Pr q) (hn : 1 < n) (hR : q * R = n - 1) (hbig : n < q * q)
    (h1 : powMod n 256 a (n - 1) 1 = 1) (hs : n < 2 ^ 256) (h2 : Nat.gcd (powMod n 256 a R 1 + (n - 1)) n = 1) : Pr n := by
  have hq1 := hq.1
  rw [powMod_eq _ _ _ _ _ (by omega), Nat.one_mul] at h1
  have hRle : R ≤ n - 1 := by rw [← hR]; exact Nat.le_mul_of_pos_left _ (by omega)
  rw [powMod_eq _ _ _ _ _ (by omega), Nat.one_mul] at h2
  refine Classical.byContradiction fun hc => ?_
  obtain ⟨r, hr, hd, hsq⟩ := exists_small hn hc
  have hr1 := hr.1
  have h := Nat.le_of_dvd (by omega) (pock_one hr hd hq hR hn h1 h2)
  have : q * q ≤ r * r := Nat.mul_le_mul (by omega) (by omega)
  omega

theorem pock2 {n q R q' R' a a' : Nat} (hq : Pr q) (hq' : Pr q') (hne : q ≠ q') (hn : 1 < n) (hR : q * R = n - 1) (hR' : q' * R' = n - 1) (hbig : n < (q * q') * (q * q'))
    (h1 : powMod n 256 a (n - 1) 1 = 1) (h1' : powMod n 256 a' (n - 1) 1 = 1) (hs : n < 2 ^ 256) (h2 : Nat.gcd (powMod n 256 a R 1 + (n - 1)) n = 1) (h2' : Nat.gcd (powMod n 256 a' R' 1 + (n - 1)) n = 1) : Pr n := by
  have hq1 := hq.1
  have hq1' := hq'.1
  rw [powMod_eq _ _ _ _ _ (by omega), Nat.one_mul] at h1 h1'
  have hRle : R ≤ n - 1 := by rw [← hR]; exact Nat.le_mul_of_pos_left _ (by omega)
  have hRle' : R' ≤ n - 1 := by rw [← hR']; exact Nat.le_mul_of_pos_left _ (by omega)
  rw [powMod_eq _ _ _ _ _ (by omega), Nat.one_mul] at h2 h2'
  refine Classical.byContradiction fun hc => ?_
  obtain ⟨r, hr, hd, hsq⟩ := exists_small hn hc
  have hr1 := hr.1
  have hcop : Nat.Coprime q q' := hq.coprime fun h => by
    rcases hq'.2 q h with h | h
    · omega
    · exact hne h
  have h := Nat.le_of_dvd (by omega) (hcop.mul_dvd_of_dvd_of_dvd (pock_one hr hd hq hR hn h1 h2) (pock_one hr hd hq' hR' hn h1' h2'))
  have : (q * q') * (q * q') ≤ r * r := Nat.mul_le_mul (by omega) (by omega)
  omega

/-- No divisor from 2 on below k. -/
def noneBelow (n : Nat) : Nat → Bool
  | 0 => true
  | k + 1 => noneBelow n k && (decide (k < 2) || n % k != 0)
theorem noneBelow_eq (n : Nat) : ∀ k, noneBelow n k = true → ∀ d, 2 ≤ d → d < k → ¬ d ∣ n
  | k + 1, h, d, h2, hd => by
    simp only [noneBelow, Bool.and_eq_true, Bool.or_eq_true, decide_eq_true_eq, bne_iff_ne] at h
    rcases Nat.lt_or_ge d k with h3 | h3
    · exact noneBelow_eq n k h.1 d h2 h3
    · obtain rfl : d = k := by omega
      intro hc
      have := Nat.mod_eq_zero_of_dvd hc
      omega
theorem pr_small {n : Nat} (k : Nat) (hn : 1 < n) (h : noneBelow n k = true) (hk : n < k * k) : Pr n := by
  refine Classical.byContradiction fun hc => ?_
  obtain ⟨r, hr, hd, hsq⟩ := exists_small hn hc
  rcases Nat.lt_or_ge r k with h3 | h3
  · exact noneBelow_eq n k h r hr.1 h3 hd
  · have : k * k ≤ r * r := Nat.mul_le_mul h3 h3
    omega

set_option maxRecDepth 100000
theorem pr_127 : Pr 127 := pr_small 12 (by decide) (by decide +kernel) (by decide)
theorem pr_75707 : Pr 75707 := pr_small 300 (by decide) (by decide +kernel) (by decide)
theorem pr_1923133 : Pr 1923133 := pr_small 1400 (by decide) (by decide +kernel) (by decide)
theorem pr_8574133 : Pr 8574133 := pr_small 2930 (by decide) (by decide +kernel) (by decide)
theorem pr_s : Pr 1919519569386763 := pock2 (R := 223873314) (R' := 15114327318006) (a := 2) (a' := 2) pr_8574133 pr_127 (by decide) (by decide) (by decide +kernel) (by decide +kernel) (by decide +kernel) (by decide +kernel) (by decide +kernel) (by decide +kernel) (by decide +kernel) (by decide +kernel)
theorem pr_r : Pr 75445702479781427272750846543864801 := pock2 (R := 39304471641247389600) (R' := 996548568557483816196003626400) (a := 2) (a' := 2) pr_s pr_75707 (by decide) (by decide) (by decide +kernel) (by decide +kernel) (by decide +kernel) (by decide +kernel) (by decide +kernel) (by decide +kernel) (by decide +kernel) (by decide +kernel)
theorem pr_q : Pr 74058212732561358302231226437062788676166966415465897661863160754340907 := pock2 (R := 981609426360740691344999861639072106) (R' := 38509147694185143878364744631319200843710219946028640589009268082) (a := 2) (a' := 2) pr_r pr_1923133 (by decide) (by decide) (by decide +kernel) (by decide +kernel) (by decide +kernel) (by decide +kernel) (by decide +kernel) (by decide +kernel) (by decide +kernel) (by decide +kernel)
/-- The field's prime. -/
def PP : Nat := 57896044618658097711785492504343953926634992332820282019728792003956564819949
theorem PP_eq : PP = 2 ^ 255 - 19 := by decide
theorem pr_PP : Pr PP := pock1 (R := 781764) (a := 2) pr_q (by decide +kernel) (by decide +kernel) (by decide +kernel) (by decide +kernel) (by decide +kernel) (by decide +kernel)
end Go.Proofs.YthhcjknkmdaeeaaDoor
