/-
  Plain mathematics of reduced fractions: what 'reduce' gives for n divided by d, and that it is the one number with that value. No program, no model.
-/
namespace Go.Proofs.YtoaeceeookknnaaDoor
namespace Q

/-- What is in lowest terms and within the limits. -/
def Val (n d : Int) : Prop := -1000000000 ≤ n ∧ n ≤ 1000000000 ∧ 1 ≤ d ∧ d ≤ 1000000000 ∧ Nat.gcd n.natAbs d.natAbs = 1

/-- n divided by d in lowest terms, if it lies within the limits. -/
def red (n d : Int) : Option (Int × Int) :=
  if n.natAbs / Nat.gcd n.natAbs d.natAbs > 1000000000 ∨ d.natAbs / Nat.gcd n.natAbs d.natAbs > 1000000000 then none
  else if n < 0 ↔ d < 0 then some (((n.natAbs / Nat.gcd n.natAbs d.natAbs : Nat) : Int), ((d.natAbs / Nat.gcd n.natAbs d.natAbs : Nat) : Int))
  else some (-((n.natAbs / Nat.gcd n.natAbs d.natAbs : Nat) : Int), ((d.natAbs / Nat.gcd n.natAbs d.natAbs : Nat) : Int))

theorem parts (n d : Int) (hd : d ≠ 0) : ∃ g x y : Nat, 0 < g ∧ g = Nat.gcd n.natAbs d.natAbs ∧ n.natAbs = x * g ∧ d.natAbs = y * g ∧ Nat.gcd x y = 1 ∧ 0 < y ∧
    n.natAbs / Nat.gcd n.natAbs d.natAbs = x ∧ d.natAbs / Nat.gcd n.natAbs d.natAbs = y := by
  have hg : 0 < Nat.gcd n.natAbs d.natAbs := Nat.gcd_pos_of_pos_right _ (by omega)
  obtain ⟨x, hx⟩ := Nat.gcd_dvd_left n.natAbs d.natAbs
  obtain ⟨y, hy⟩ := Nat.gcd_dvd_right n.natAbs d.natAbs
  have ex : n.natAbs / Nat.gcd n.natAbs d.natAbs = x := Nat.div_eq_of_eq_mul_right hg hx
  have ey : d.natAbs / Nat.gcd n.natAbs d.natAbs = y := Nat.div_eq_of_eq_mul_right hg hy
  refine ⟨_, x, y, hg, rfl, by rw [Nat.mul_comm]; exact hx, by rw [Nat.mul_comm]; exact hy, ?_, ?_, ex, ey⟩
  · have h := Nat.gcd_mul_left (Nat.gcd n.natAbs d.natAbs) x y
    rw [← hx, ← hy] at h
    have h1 : Nat.gcd n.natAbs d.natAbs * Nat.gcd x y = Nat.gcd n.natAbs d.natAbs * 1 := by rw [← h, Nat.mul_one]
    exact Nat.eq_of_mul_eq_mul_left hg h1
  · rcases Nat.eq_zero_or_pos y with h | h
    · rw [h] at hy; omega
    · exact h

theorem red_val {n d p q : Int} (hd : d ≠ 0) (h : red n d = some (p, q)) : Val p q ∧ n * q = p * d := by
  obtain ⟨g, x, y, hg, _, hx, hy, hxy, hy0, ex, ey⟩ := parts n d hd
  unfold red at h
  rw [ex, ey] at h
  split at h
  · cases h
  · rename_i hle
    have hn : n = x * g ∨ n = -((x : Int) * g) := by
      have : ((x * g : Nat) : Int) = (x : Int) * g := Int.natCast_mul x g
      omega
    have hd' : d = y * g ∨ d = -((y : Int) * g) := by
      have : ((y * g : Nat) : Int) = (y : Int) * g := Int.natCast_mul y g
      omega
    have hgz : (0 : Int) < g := by omega
    have hyz : (0 : Int) < y := by omega
    have hxz : (0 : Int) ≤ x := by omega
    have hyg : (0 : Int) < (y : Int) * g := Int.mul_pos hyz hgz
    have hxg : (0 : Int) ≤ (x : Int) * g := Int.mul_nonneg hxz (by omega)
    split at h
    · rename_i hs
      obtain ⟨rfl, rfl⟩ : (x : Int) = p ∧ (y : Int) = q := by simpa using h
      refine ⟨⟨by omega, by omega, by omega, by omega, by simpa using hxy⟩, ?_⟩
      rcases hn with hn | hn <;> rcases hd' with hd' | hd'
      · rw [hn, hd']; grind
      · exfalso; have h1 : ¬ n < 0 := by omega
        have h2 : d < 0 := by omega
        exact h1 (hs.2 h2)
      · by_cases hx0 : (x : Int) = 0
        · rw [hn, hx0]; simp
        · exfalso
          have : (0 : Int) < (x : Int) * g := Int.mul_pos (by omega) hgz
          have h1 : n < 0 := by omega
          have h2 : ¬ d < 0 := by omega
          exact h2 (hs.1 h1)
      · rw [hn, hd']; grind
    · rename_i hs
      obtain ⟨rfl, rfl⟩ : -(x : Int) = p ∧ (y : Int) = q := by simpa using h
      refine ⟨⟨by omega, by omega, by omega, by omega, by simpa using hxy⟩, ?_⟩
      rcases hn with hn | hn <;> rcases hd' with hd' | hd'
      · exfalso; exact hs ⟨fun _ => by omega, fun _ => by omega⟩
      · rw [hn, hd']; grind
      · rw [hn, hd']; grind
      · by_cases hx0 : (x : Int) = 0
        · rw [hn, hx0]; simp
        · exfalso
          have : (0 : Int) < (x : Int) * g := Int.mul_pos (by omega) hgz
          exact hs ⟨fun _ => by omega, fun _ => by omega⟩

theorem red_of {n d p q : Int} (hd : d ≠ 0) (hv : Val p q) (h : n * q = p * d) : red n d = some (p, q) := by
  obtain ⟨v1, v2, v3, v4, v5⟩ := hv
  have e : n.natAbs * q.natAbs = p.natAbs * d.natAbs := by rw [← Int.natAbs_mul, ← Int.natAbs_mul, h]
  have hq : q.natAbs ∣ d.natAbs := by
    have h1 : q.natAbs ∣ p.natAbs * d.natAbs := ⟨n.natAbs, by rw [← e, Nat.mul_comm]⟩
    exact Nat.Coprime.dvd_of_dvd_mul_left (by rw [Nat.Coprime, Nat.gcd_comm]; exact v5) h1
  obtain ⟨k, hk⟩ := hq
  have hk0 : 0 < k := by
    rcases Nat.eq_zero_or_pos k with h | h
    · rw [h] at hk; omega
    · exact h
  have hn : n.natAbs = p.natAbs * k := by
    have : n.natAbs * q.natAbs = (p.natAbs * k) * q.natAbs := by rw [e, hk]; grind
    exact Nat.eq_of_mul_eq_mul_right (by omega) this
  have hg : Nat.gcd n.natAbs d.natAbs = k := by
    rw [hn, hk, Nat.gcd_mul_right, v5, Nat.one_mul]
  have ex : n.natAbs / Nat.gcd n.natAbs d.natAbs = p.natAbs := by rw [hg, hn]; exact Nat.mul_div_cancel _ hk0
  have ey : d.natAbs / Nat.gcd n.natAbs d.natAbs = q.natAbs := by rw [hg, hk]; exact Nat.mul_div_cancel _ hk0
  unfold red
  rw [ex, ey, if_neg (by omega)]
  have hqz : (q.natAbs : Int) = q := by omega
  have hq0 : 0 < q := by omega
  rcases Int.lt_trichotomy p 0 with hp | hp | hp
  · have hs : ¬ (n < 0 ↔ d < 0) := by
      intro hs
      rcases Int.lt_trichotomy d 0 with h1 | h1 | h1
      · have a := Int.mul_pos_of_neg_of_neg hp h1
        have b := Int.mul_neg_of_neg_of_pos (hs.2 h1) hq0
        omega
      · exact hd h1
      · have a := Int.mul_neg_of_neg_of_pos hp h1
        have h2 : ¬ n < 0 := fun x => by have := hs.1 x; omega
        have b := Int.mul_nonneg (by omega : 0 ≤ n) (by omega : 0 ≤ q)
        omega
    rw [if_neg hs]
    simp only [Option.some.injEq, Prod.mk.injEq]; omega
  · subst hp
    split <;> (simp only [Option.some.injEq, Prod.mk.injEq]; omega)
  · have hs : n < 0 ↔ d < 0 := by
      rcases Int.lt_trichotomy d 0 with h1 | h1 | h1
      · refine ⟨fun _ => h1, fun _ => ?_⟩
        have a := Int.mul_neg_of_pos_of_neg hp h1
        rcases Int.lt_or_le n 0 with h2 | h2
        · exact h2
        · have b := Int.mul_nonneg h2 (by omega : 0 ≤ q); omega
      · exact absurd h1 hd
      · refine ⟨fun h2 => ?_, fun h2 => by omega⟩
        have a := Int.mul_pos hp h1
        have b := Int.mul_neg_of_neg_of_pos h2 hq0
        omega
    rw [if_pos hs]
    simp only [Option.some.injEq, Prod.mk.injEq]; omega

/-- Two numbers in lowest terms with one value are one. -/
theorem val_one {p q r s : Int} (h1 : Val p q) (h2 : Val r s) (h : p * s = r * q) : p = r ∧ q = s := by
  have a := red_of (n := p) (d := q) (by have := h1.2.2.1; omega) h1 rfl
  have b := red_of (n := p) (d := q) (by have := h1.2.2.1; omega) h2 h
  rw [a] at b
  simpa using b

/-- What is multiplied above and below has the same reduced form. -/
theorem red_mul {n d k : Int} (hd : d ≠ 0) (hk : k ≠ 0) : red (k * n) (k * d) = red n d := by
  have hkd : k * d ≠ 0 := Int.mul_ne_zero hk hd
  cases h : red n d with
  | some r =>
    obtain ⟨p, q⟩ := r
    obtain ⟨hv, e⟩ := red_val hd h
    exact red_of hkd hv (by grind)
  | none =>
    cases h' : red (k * n) (k * d) with
    | none => rfl
    | some r =>
      obtain ⟨p, q⟩ := r
      obtain ⟨hv, e⟩ := red_val hkd h'
      have : n * q = p * d := Int.eq_of_mul_eq_mul_left hk (by grind)
      rw [red_of hd hv this] at h; cases h

/-! The sums of three numbers. -/
theorem sub_add {an ad bn bd p q : Int} (ha : Val an ad) (hb : Val bn bd) (h : red (an * bd + bn * ad) (ad * bd) = some (p, q)) : red (p * bd - bn * q) (q * bd) = some (an, ad) := by
  have h1 := ha.2.2.1
  have h2 := hb.2.2.1
  obtain ⟨hv, e⟩ := red_val (Int.mul_ne_zero (by omega) (by omega)) h
  have h3 := hv.2.2.1
  exact red_of (Int.mul_ne_zero (by omega) (by omega)) ha (by grind)

theorem add_assoc {an ad bn bd cn cd p q r s t u v x : Int} (ha : Val an ad) (hb : Val bn bd) (hc : Val cn cd)
    (h1 : red (an * bd + bn * ad) (ad * bd) = some (p, q)) (h2 : red (bn * cd + cn * bd) (bd * cd) = some (r, s))
    (h3 : red (p * cd + cn * q) (q * cd) = some (t, u)) (h4 : red (an * s + r * ad) (ad * s) = some (v, x)) : t = v ∧ u = x := by
  have a0 := ha.2.2.1
  have b0 := hb.2.2.1
  have c0 := hc.2.2.1
  obtain ⟨v1, e1⟩ := red_val (Int.mul_ne_zero (by omega) (by omega)) h1
  have q0 := v1.2.2.1
  obtain ⟨v2, e2⟩ := red_val (Int.mul_ne_zero (by omega) (by omega)) h2
  have s0 := v2.2.2.1
  obtain ⟨v3, e3⟩ := red_val (Int.mul_ne_zero (by omega) (by omega)) h3
  have u0 := v3.2.2.1
  obtain ⟨v4, e4⟩ := red_val (Int.mul_ne_zero (by omega) (by omega)) h4
  have x0 := v4.2.2.1
  refine val_one v3 v4 ?_
  have k1 : t * (ad * bd * cd) = (an * bd * cd + bn * ad * cd + cn * ad * bd) * u := Int.eq_of_mul_eq_mul_left (a := q) (by omega) (by grind)
  have k2 : v * (ad * bd * cd) = (an * bd * cd + bn * ad * cd + cn * ad * bd) * x := Int.eq_of_mul_eq_mul_left (a := s) (by omega) (by grind)
  have hD : ad * bd * cd ≠ 0 := Int.mul_ne_zero (Int.mul_ne_zero (by omega) (by omega)) (by omega)
  exact Int.eq_of_mul_eq_mul_left hD (by grind)
end Q
end Go.Proofs.YtoaeceeookknnaaDoor
