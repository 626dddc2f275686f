/-
  Mathematics of layer 8: powers modulo a number, the prime Q, Fermat's little theorem, what exponents modulo Q do. No program in it.
-/
namespace Go.Proofs.YtidhhndclkilnaaDoor
namespace Gr

/-! ### Binomial coefficients -/
def ch : Nat → Nat → Nat
  | _, 0 => 1
  | 0, _ + 1 => 0
  | n + 1, k + 1 => ch n k + ch n (k + 1)
def sm (f : Nat → Nat) : Nat → Nat
  | 0 => 0
  | n + 1 => sm f n + f n
theorem sm_add (f g : Nat → Nat) : ∀ n, sm (fun k => f k + g k) n = sm f n + sm g n
  | 0 => rfl
  | n + 1 => by simp only [sm, sm_add f g n]; omega
theorem sm_mul (c : Nat) (f : Nat → Nat) : ∀ n, sm (fun k => c * f k) n = c * sm f n
  | 0 => rfl
  | n + 1 => by simp only [sm, sm_mul c f n, Nat.mul_add]
theorem sm_front (f : Nat → Nat) : ∀ n, sm f (n + 1) = f 0 + sm (fun k => f (k + 1)) n
  | 0 => by simp [sm]
  | n + 1 => by rw [sm, sm_front f n, sm]; omega
theorem sm_same {f g : Nat → Nat} (h : ∀ k, f k = g k) : ∀ n, sm f n = sm g n
  | 0 => rfl
  | n + 1 => by rw [sm, sm, sm_same h n, h n]
theorem ch_gt : ∀ n k, n < k → ch n k = 0
  | 0, k + 1, _ => rfl
  | n + 1, k + 1, h => by rw [ch, ch_gt n k (by omega), ch_gt n (k + 1) (by omega)]
theorem ch_self : ∀ n, ch n n = 1
  | 0 => rfl
  | n + 1 => by rw [ch, ch_self n, ch_gt n (n + 1) (by omega)]
theorem ch_zero (n : Nat) : ch n 0 = 1 := by cases n <;> rfl
theorem ch_mul : ∀ n k, (n + 1) * ch n k = ch (n + 1) (k + 1) * (k + 1)
  | 0, 0 => rfl
  | 0, k + 1 => by simp [ch]
  | n + 1, 0 => by
    have := ch_mul n 0
    rw [ch_zero] at this ⊢
    rw [ch, ch_zero]
    omega
  | n + 1, k + 1 => by
    have h1 := ch_mul n k
    have h2 := ch_mul n (k + 1)
    have e1 : ch (n + 1) (k + 1) = ch n k + ch n (k + 1) := rfl
    have e2 : ch (n + 1 + 1) (k + 1 + 1) = ch (n + 1) (k + 1) + ch (n + 1) (k + 1 + 1) := rfl
    have h3 : ch (n + 1) (k + 1) * (k + 1 + 1) = (n + 1) * ch n k + ch (n + 1) (k + 1) := by rw [h1, Nat.mul_succ]
    have h4 : (n + 1 + 1) * ch (n + 1) (k + 1) = (n + 1) * ch (n + 1) (k + 1) + ch (n + 1) (k + 1) := by rw [Nat.succ_mul]
    have h5 : (n + 1) * ch (n + 1) (k + 1) = (n + 1) * ch n k + (n + 1) * ch n (k + 1) := by rw [e1, Nat.mul_add]
    have h6 : (ch (n + 1) (k + 1) + ch (n + 1) (k + 1 + 1)) * (k + 1 + 1) = ch (n + 1) (k + 1) * (k + 1 + 1) + ch (n + 1) (k + 1 + 1) * (k + 1 + 1) := Nat.add_mul _ _ _
    rw [e2, h6, ← h2]
    omega
theorem binom (a : Nat) : ∀ n, (a + 1) ^ n = sm (fun k => ch n k * a ^ k) (n + 1)
  | 0 => by simp [sm, ch]
  | n + 1 => by
    have e0 : sm (fun k => ch (n + 1) k * a ^ k) (n + 1 + 1) = 1 + sm (fun k => ch (n + 1) (k + 1) * a ^ (k + 1)) (n + 1) := by
      rw [sm_front, ch_zero]; simp
    have e1 : sm (fun k => ch (n + 1) (k + 1) * a ^ (k + 1)) (n + 1) = sm (fun k => a * (ch n k * a ^ k) + ch n (k + 1) * a ^ (k + 1)) (n + 1) := by
      refine sm_same (fun k => ?_) _
      rw [show ch (n + 1) (k + 1) = ch n k + ch n (k + 1) from rfl, Nat.add_mul, Nat.pow_succ]
      have : ch n k * (a ^ k * a) = a * (ch n k * a ^ k) := by rw [← Nat.mul_assoc, Nat.mul_comm]
      omega
    have e2 : sm (fun k => ch n (k + 1) * a ^ (k + 1)) (n + 1) = sm (fun k => ch n (k + 1) * a ^ (k + 1)) n := by
      rw [sm, ch_gt n (n + 1) (by omega), Nat.zero_mul, Nat.add_zero]
    have e3 : sm (fun k => ch n k * a ^ k) (n + 1) = 1 + sm (fun k => ch n (k + 1) * a ^ (k + 1)) n := by
      rw [sm_front, ch_zero]; simp
    rw [Nat.pow_succ, binom a n, e0, e1, sm_add, sm_mul, e2, Nat.mul_add, Nat.mul_one, Nat.mul_comm]
    omega

/-! ### Primes -/
def Prime (p : Nat) : Prop := 2 ≤ p ∧ ∀ d, d ∣ p → d = 1 ∨ d = p
theorem Prime.cop {p k : Nat} (h : Prime p) (hk : ¬ p ∣ k) : Nat.gcd p k = 1 := by
  rcases h.2 _ (Nat.gcd_dvd_left p k) with e | e
  · exact e
  · exact absurd (e ▸ Nat.gcd_dvd_right p k) hk
theorem Prime.ch_dvd {p k : Nat} (h : Prime p) (h0 : 0 < k) (hk : k < p) : p ∣ ch p k := by
  obtain ⟨n, rfl⟩ : ∃ n, p = n + 1 := ⟨p - 1, by have := h.1; omega⟩
  obtain ⟨m, rfl⟩ : ∃ m, k = m + 1 := ⟨k - 1, by omega⟩
  have e := ch_mul n m
  have hd : (n + 1) ∣ ch (n + 1) (m + 1) * (m + 1) := ⟨_, e.symm⟩
  have hc : Nat.gcd (n + 1) (m + 1) = 1 := h.cop (fun hh => by have := Nat.le_of_dvd (by omega) hh; omega)
  exact Nat.Coprime.dvd_of_dvd_mul_right hc hd
theorem sm_mod (p : Nat) (f : Nat → Nat) : ∀ n, (∀ k, k < n → p ∣ f k) → sm f n % p = 0
  | 0, _ => Nat.zero_mod p
  | n + 1, h => by
    rw [sm, Nat.add_mod, sm_mod p f n (fun k hk => h k (by omega)), Nat.mod_eq_zero_of_dvd (h n (by omega))]; simp
theorem Prime.frob {p : Nat} (h : Prime p) (a : Nat) : (a + 1) ^ p % p = (a ^ p + 1) % p := by
  rw [binom a p, sm, ch_self, Nat.one_mul]
  obtain ⟨n, hn⟩ : ∃ n, p = n + 1 := ⟨p - 1, by have := h.1; omega⟩
  have e : sm (fun k => ch p k * a ^ k) p = 1 + sm (fun k => ch p (k + 1) * a ^ (k + 1)) n := by
    rw [hn, sm_front, ch_zero]; simp
  rw [e]
  have hz : sm (fun k => ch p (k + 1) * a ^ (k + 1)) n % p = 0 :=
    sm_mod p _ n (fun k hk => Nat.dvd_mul_right_of_dvd (h.ch_dvd (by omega) (by omega)) _)
  obtain ⟨q, hq⟩ := Nat.dvd_of_mod_eq_zero hz
  rw [hq, show 1 + p * q + a ^ p = (a ^ p + 1) + p * q by omega, Nat.add_mul_mod_self_left]
theorem Prime.fermat0 {p : Nat} (h : Prime p) : ∀ a, a ^ p % p = a % p
  | 0 => by rw [Nat.zero_pow (by have := h.1; omega)]
  | a + 1 => by rw [h.frob, Nat.add_mod, h.fermat0 a, ← Nat.add_mod]
/-- Fermat's little theorem. -/
theorem Prime.fermat {p a : Nat} (h : Prime p) (ha : a % p ≠ 0) : a ^ (p - 1) % p = 1 := by
  have h2 := h.1
  have hna : ¬ p ∣ a := fun hh => ha (Nat.mod_eq_zero_of_dvd hh)
  have hpos : 0 < a ^ (p - 1) := Nat.pow_pos (by rcases Nat.eq_zero_or_pos a with z | z; · rw [z] at ha; simp at ha
                                                 · exact z)
  have e : a ^ p = a * a ^ (p - 1) := by
    rw [Nat.mul_comm, ← Nat.pow_succ]; congr 1; omega
  have f := h.fermat0 a
  rw [e] at f
  have hle : a ≤ a * a ^ (p - 1) := Nat.le_mul_of_pos_right a hpos
  have hd : p ∣ a * a ^ (p - 1) - a := Nat.dvd_of_mod_eq_zero (Nat.sub_mod_eq_zero_of_mod_eq f)
  have e2 : a * a ^ (p - 1) - a = a * (a ^ (p - 1) - 1) := by rw [Nat.mul_sub, Nat.mul_one]
  rw [e2] at hd
  have hd2 : p ∣ a ^ (p - 1) - 1 := Nat.Coprime.dvd_of_dvd_mul_left (h.cop hna) hd
  obtain ⟨q, hq⟩ := hd2
  have : a ^ (p - 1) = 1 + p * q := by omega
  rw [this, Nat.add_mul_mod_self_left, Nat.mod_eq_of_lt (by omega)]

/-! ### Q is prime -/
/-- None of the 2 ^ k numbers from lo on divides n. -/
def none2 (n lo : Nat) : Nat → Bool
  | 0 => decide (n % lo ≠ 0)
  | k + 1 => none2 n lo k && none2 n (lo + 2 ^ k) k
theorem none2_all {n : Nat} : ∀ (k lo : Nat), none2 n lo k = true → ∀ d, lo ≤ d → d < lo + 2 ^ k → ¬ d ∣ n
  | 0, lo, h, d, h1, h2 => by
    have : d = lo := by simp at h2; omega
    subst this
    intro hd
    simp only [none2, decide_eq_true_eq] at h
    exact h (Nat.mod_eq_zero_of_dvd hd)
  | k + 1, lo, h, d, h1, h2 => by
    rw [none2, Bool.and_eq_true] at h
    rw [Nat.pow_succ] at h2
    by_cases hd : d < lo + 2 ^ k
    · exact none2_all k lo h.1 d h1 hd
    · exact none2_all k (lo + 2 ^ k) h.2 d (by omega) (by omega)
theorem prime_of {n k : Nat} (h2 : 2 ≤ n) (hs : n < (2 + 2 ^ k) * (2 + 2 ^ k)) (h : none2 n 2 k = true) : Prime n := by
  refine ⟨h2, fun d hd => ?_⟩
  obtain ⟨e, he⟩ := hd
  have hd0 : 0 < d := by rcases Nat.eq_zero_or_pos d with z | z; · rw [z] at he; omega
                         · exact z
  have he0 : 0 < e := by rcases Nat.eq_zero_or_pos e with z | z; · rw [z] at he; omega
                         · exact z
  by_cases h1 : d = 1
  · exact Or.inl h1
  by_cases h3 : e = 1
  · right; rw [he, h3, Nat.mul_one]
  exfalso
  by_cases hdk : d < 2 + 2 ^ k
  · exact none2_all k 2 h d (by omega) hdk ⟨e, he⟩
  by_cases hek : e < 2 + 2 ^ k
  · exact none2_all k 2 h e (by omega) hek ⟨d, by rw [he, Nat.mul_comm]⟩
  have := Nat.mul_le_mul (Nat.le_of_not_lt hdk) (Nat.le_of_not_lt hek)
  omega
def Q : Nat := 1073741789
def P : Nat := 2147483579
theorem Q_chk : none2 Q 2 15 = true := by decide +kernel
theorem Q_prime : Prime Q := prime_of (by decide) (by decide) Q_chk
end Gr
end Go.Proofs.YtidhhndclkilnaaDoor
