/-
  Plain mathematics of products.
-/
import Derived.Test.YtohnmffokichkaaDoorMath
namespace Go.Proofs.YtohnmffokichkaaDoor
namespace Q
/-- Dividing a product by one of its factors gives the other one. -/
theorem div_mul {an ad bn bd p q : Int} (ha : Val an ad) (hb : Val bn bd) (hn : bn ≠ 0) (h : red (an * bn) (ad * bd) = some (p, q)) : red (p * bd) (q * bn) = some (an, ad) := by
  have h1 := ha.2.2.1
  have h2 := hb.2.2.1
  obtain ⟨hv, e⟩ := red_val (Int.mul_ne_zero (by omega) (by omega)) h
  have h3 := hv.2.2.1
  exact red_of (Int.mul_ne_zero (by omega) hn) ha (by grind)

theorem mul_assoc' {an ad bn bd cn cd p q r s t u v x : Int} (ha : Val an ad) (hb : Val bn bd) (hc : Val cn cd)
    (h1 : red (an * bn) (ad * bd) = some (p, q)) (h2 : red (bn * cn) (bd * cd) = some (r, s))
    (h3 : red (p * cn) (q * cd) = some (t, u)) (h4 : red (an * r) (ad * s) = some (v, x)) : t = v ∧ u = x := by
  have a0 := ha.2.2.1
  have b0 := hb.2.2.1
  have c0 := hc.2.2.1
  obtain ⟨v1, e1⟩ := red_val (Int.mul_ne_zero (by omega) (by omega)) h1
  have q0 := v1.2.2.1
  obtain ⟨v2, e2⟩ := red_val (Int.mul_ne_zero (by omega) (by omega)) h2
  have s0 := v2.2.2.1
  obtain ⟨v3, e3⟩ := red_val (Int.mul_ne_zero (by omega) (by omega)) h3
  have u0 := v3.2.2.1
  obtain ⟨v4, e4⟩ := red_val (Int.mul_ne_zero (by omega) (by omega)) h4
  have x0 := v4.2.2.1
  refine val_one v3 v4 ?_
  have k1 : t * (ad * bd * cd) = (an * bn * cn) * u := Int.eq_of_mul_eq_mul_left (a := q) (by omega) (by grind)
  have k2 : v * (ad * bd * cd) = (an * bn * cn) * x := Int.eq_of_mul_eq_mul_left (a := s) (by omega) (by grind)
  have hD : ad * bd * cd ≠ 0 := Int.mul_ne_zero (Int.mul_ne_zero (by omega) (by omega)) (by omega)
  exact Int.eq_of_mul_eq_mul_left hD (by grind)

/-- a (b + c) is a b + a c: r/s the sum, t/u the product with it; p/q and y/z the products, v/x their sum. -/
theorem distrib {an ad bn bd cn cd p q r s t u y z v x : Int} (ha : Val an ad) (hb : Val bn bd) (hc : Val cn cd)
    (h1 : red (an * bn) (ad * bd) = some (p, q)) (h2 : red (bn * cd + cn * bd) (bd * cd) = some (r, s))
    (h3 : red (an * r) (ad * s) = some (t, u)) (h4 : red (an * cn) (ad * cd) = some (y, z)) (h5 : red (p * z + y * q) (q * z) = some (v, x)) : t = v ∧ u = x := by
  have a0 := ha.2.2.1
  have b0 := hb.2.2.1
  have c0 := hc.2.2.1
  obtain ⟨v1, e1⟩ := red_val (Int.mul_ne_zero (by omega) (by omega)) h1
  have q0 := v1.2.2.1
  obtain ⟨v2, e2⟩ := red_val (Int.mul_ne_zero (by omega) (by omega)) h2
  have s0 := v2.2.2.1
  obtain ⟨v3, e3⟩ := red_val (Int.mul_ne_zero (by omega) (by omega)) h3
  have u0 := v3.2.2.1
  obtain ⟨v4, e4⟩ := red_val (Int.mul_ne_zero (by omega) (by omega)) h4
  have z0 := v4.2.2.1
  obtain ⟨v5, e5⟩ := red_val (Int.mul_ne_zero (by omega) (by omega)) h5
  have x0 := v5.2.2.1
  refine val_one v3 v5 ?_
  -- both are an (bn cd + cn bd) / (ad bd cd)
  have k1 : t * (ad * bd * cd) = (an * (bn * cd + cn * bd)) * u := Int.eq_of_mul_eq_mul_left (a := s) (by omega) (by grind)
  have k2 : v * (ad * bd * cd) = (an * (bn * cd + cn * bd)) * x := by
    have m1 : (q * z) * (ad * ad * (bd * cd)) ≠ 0 := Int.mul_ne_zero (Int.mul_ne_zero (by omega) (by omega)) (Int.mul_ne_zero (Int.mul_ne_zero (by omega) (by omega)) (Int.mul_ne_zero (by omega) (by omega)))
    refine Int.eq_of_mul_eq_mul_left m1 ?_
    have f1 : an * bn * q * (z * cd) = p * (ad * bd) * (z * cd) := by rw [e1]
    have f2 : an * cn * z * (q * bd) = y * (ad * cd) * (q * bd) := by rw [e4]
    have f3 : (p * z + y * q) * (ad * bd * cd) = an * (bn * cd + cn * bd) * (q * z) := by grind
    grind
  have hD : ad * bd * cd ≠ 0 := Int.mul_ne_zero (Int.mul_ne_zero (by omega) (by omega)) (by omega)
  exact Int.eq_of_mul_eq_mul_left hD (by grind)
end Q
end Go.Proofs.YtohnmffokichkaaDoor
