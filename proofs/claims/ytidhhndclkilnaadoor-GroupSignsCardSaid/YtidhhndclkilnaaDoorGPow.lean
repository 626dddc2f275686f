/-
  Mathematics of layer 8: powers modulo P, elements, what exponents modulo Q do. No program in it.
-/
import Derived.Test.YtidhhndclkilnaaDoorGMath
namespace Go.Proofs.YtidhhndclkilnaaDoor
namespace Gr

/-! ### Powers modulo a number -/
theorem pw_ex : ∃ f : Nat → Nat → Nat → Nat, ∀ a x m, f a x m = a ^ x % m := ⟨fun a x m => a ^ x % m, fun _ _ _ => rfl⟩
/-- a to the power of x, modulo m; nothing unfolds it. -/
noncomputable def pw (a x m : Nat) : Nat := Classical.choose pw_ex a x m
theorem pw_def (a x m : Nat) : pw a x m = a ^ x % m := Classical.choose_spec pw_ex a x m
theorem pw_lt {m : Nat} (h : 0 < m) (a x : Nat) : pw a x m < m := by rw [pw_def]; exact Nat.mod_lt _ h
theorem pw_zero (a m : Nat) : pw a 0 m = 1 % m := by rw [pw_def, Nat.pow_zero]
theorem pw_self (a m : Nat) : pw a 1 m = a % m := by rw [pw_def, Nat.pow_one]
theorem pw_one (x m : Nat) : pw 1 x m = 1 % m := by rw [pw_def, Nat.one_pow]
theorem pw_mod (a x m : Nat) : pw (a % m) x m = pw a x m := by rw [pw_def, pw_def, ← Nat.pow_mod]
theorem pw_add (a x y m : Nat) : pw a (x + y) m = pw a x m * pw a y m % m := by rw [pw_def, pw_def, pw_def, Nat.pow_add, Nat.mul_mod]
theorem pw_pw (a x y m : Nat) : pw (pw a x m) y m = pw a (x * y) m := by rw [pw_def a x, pw_mod, pw_def, pw_def, Nat.pow_mul]
theorem pw_mul (a b x m : Nat) : pw (a * b % m) x m = pw a x m * pw b x m % m := by rw [pw_mod, pw_def, pw_def, pw_def, Nat.mul_pow, Nat.mul_mod]
/-- The steps of the loop. -/
theorem lp_even {x : Nat} (h : x % 2 = 0) (out a m : Nat) : out * pw (a * a % m) (x / 2) m % m = out * pw a x m % m := by
  rw [pw_mul, ← pw_add, show x / 2 + x / 2 = x by omega]
theorem lp_odd {x : Nat} (h : x % 2 = 1) (out a m : Nat) : (out * a % m) * pw (a * a % m) (x / 2) m % m = out * pw a x m % m := by
  rw [pw_mul, ← pw_add]
  have e : x = x / 2 + x / 2 + 1 := by omega
  have e2 : pw a x m = pw a (x / 2 + x / 2) m * pw a 1 m % m := by
    rw [← pw_add]; exact congrArg (fun z => pw a z m) e
  rw [e2, pw_self, Nat.mod_mul_mod, Nat.mul_mod_mod, Nat.mul_comm (pw a (x / 2 + x / 2) m), ← Nat.mul_assoc, Nat.mul_mod (out * (a % m)), Nat.mul_mod_mod out a, ← Nat.mul_mod]
theorem lp_end {out m : Nat} (h : out < m) (h1 : 1 < m) (a : Nat) : out * pw a 0 m % m = out := by
  rw [pw_zero, Nat.mod_eq_of_lt h1, Nat.mul_one, Nat.mod_eq_of_lt h]
theorem lp_start {m : Nat} (a x : Nat) : 1 * pw a x m % m = pw a x m := by
  rw [Nat.one_mul, pw_def, Nat.mod_mod]
/-- Powers by squaring, to be reckoned. -/
def bp (m : Nat) : Nat → Nat → Nat → Nat → Nat
  | 0, out, _, _ => out
  | f + 1, out, a, x => bp m f (if x % 2 = 1 then out * a % m else out) (a * a % m) (x / 2)
theorem bp_eq {m : Nat} (h1 : 1 < m) : ∀ (f out a x : Nat), out < m → x < 2 ^ f → bp m f out a x = out * pw a x m % m
  | 0, out, a, x, ho, hx => by
    have : x = 0 := by simp at hx; exact hx
    subst this
    rw [lp_end ho h1]; rfl
  | f + 1, out, a, x, ho, hx => by
    rw [Nat.pow_succ] at hx
    rw [bp]
    by_cases h : x % 2 = 1
    · rw [if_pos h, bp_eq h1 f _ _ _ (Nat.mod_lt _ (by omega)) (by omega), lp_odd h]
    · rw [if_neg h, bp_eq h1 f _ _ _ ho (by omega), lp_even (by omega)]

/-! ### The group -/
theorem P_pos : 0 < P := by decide
theorem Q_pos : 0 < Q := by decide
theorem P_one : 1 % P = 1 := by decide
/-- Is it an element? -/
def mem (a : Nat) : Prop := 1 ≤ a ∧ a < P ∧ pw a Q P = 1
theorem four_Q : pw 4 Q P = 1 := by
  have h := bp_eq (m := P) (by decide) 31 1 4 Q (by decide) (by decide)
  rw [lp_start] at h
  rw [← h]
  decide +kernel
theorem nine_Q : pw 9 Q P = 1 := by
  have h := bp_eq (m := P) (by decide) 31 1 9 Q (by decide) (by decide)
  rw [lp_start] at h
  rw [← h]
  decide +kernel
theorem mem_four : mem 4 := ⟨by decide, by decide, four_Q⟩
theorem pw_period {a : Nat} (h : pw a Q P = 1) (x : Nat) : pw a x P = pw a (x % Q) P := by
  have e : x = Q * (x / Q) + x % Q := (Nat.div_add_mod x Q).symm
  have e2 : pw a (Q * (x / Q) + x % Q) P = pw a (x % Q) P := by
    rw [pw_add, ← pw_pw, h, pw_one, P_one, lp_start]
  rw [← e] at e2
  exact e2
theorem pw_same {a : Nat} (h : pw a Q P = 1) {x y : Nat} (hxy : x % Q = y % Q) : pw a x P = pw a y P := by
  rw [pw_period h x, pw_period h y, hxy]
theorem pw_pos {a : Nat} (h : pw a Q P = 1) (x : Nat) : 1 ≤ pw a x P := by
  rcases Nat.eq_zero_or_pos (pw a x P) with z | z
  · exfalso
    have e : pw a (x + (Q - x % Q)) P = 1 := by
      have h0 : (x + (Q - x % Q)) % Q = 0 % Q := by
        have hlt : x % Q < Q := Nat.mod_lt _ Q_pos
        have e : x + (Q - x % Q) = Q * (x / Q) + Q := by
          have := Nat.div_add_mod x Q
          omega
        rw [e, Nat.add_mod_right, Nat.mul_mod_right, Nat.zero_mod]
      rw [pw_same h h0, pw_zero, P_one]
    rw [pw_add, z, Nat.zero_mul, Nat.zero_mod] at e
    cases e
  · exact z
theorem mem_pw {a : Nat} (h : pw a Q P = 1) (x : Nat) : mem (pw a x P) := by
  refine ⟨pw_pos h x, pw_lt P_pos _ _, ?_⟩
  rw [pw_pw, Nat.mul_comm, ← pw_pw, h, pw_one, P_one]
theorem mem_mul {a b : Nat} (ha : mem a) (hb : mem b) : mem (a * b % P) := by
  have hq : pw (a * b % P) Q P = 1 := by rw [pw_mul, ha.2.2, hb.2.2]; decide
  have e : pw (a * b % P) 1 P = a * b % P := by rw [pw_self, Nat.mod_mod]
  have := pw_pos hq 1
  rw [e] at this
  exact ⟨this, Nat.mod_lt _ P_pos, hq⟩
theorem mem_self {a : Nat} (h : mem a) : pw a 1 P = a := by rw [pw_self, Nat.mod_eq_of_lt h.2.1]

/-! ### Division of exponents -/
/-- a divided by b, modulo Q. -/
noncomputable def ovr (a b : Nat) : Nat := a * pw b (Q - 2) Q % Q
theorem ovr_lt (a b : Nat) : ovr a b < Q := Nat.mod_lt _ Q_pos
theorem inv_mul {b : Nat} (h : b % Q ≠ 0) : b * pw b (Q - 2) Q % Q = 1 := by
  have f := Q_prime.fermat h
  rw [pw_def, Nat.mul_mod_mod, Nat.mul_comm, ← Nat.pow_succ]
  exact f
theorem ovr_mul {a b : Nat} (h : b % Q ≠ 0) : b * ovr a b % Q = a % Q := by
  unfold ovr
  rw [Nat.mul_mod_mod, ← Nat.mul_assoc, Nat.mul_comm b a, Nat.mul_assoc, Nat.mul_mod, inv_mul h, Nat.mul_one, Nat.mod_mod]
theorem ovr_of {c b : Nat} (h : b % Q ≠ 0) : ovr (b * c % Q) b = c % Q := by
  unfold ovr
  rw [Nat.mod_mul_mod, Nat.mul_comm b c, Nat.mul_assoc, Nat.mul_mod, inv_mul h, Nat.mul_one, Nat.mod_mod]
/-- G to the power of a secret is not 1. -/
theorem four_ne {k : Nat} (h : k % Q ≠ 0) : pw 4 k P ≠ 1 := by
  intro e
  have e1 : pw 4 (k * pw k (Q - 2) Q) P = 1 := by rw [← pw_pw, e, pw_one, P_one]
  rw [pw_period four_Q, inv_mul h, pw_self] at e1
  revert e1
  decide

/-! ### Differences modulo Q -/
/-- a - b, modulo Q. -/
def dif (a b : Nat) : Nat := (a + (Q - b % Q)) % Q
theorem dif_lt (a b : Nat) : dif a b < Q := Nat.mod_lt _ Q_pos
theorem dif_add (a b : Nat) : (b + dif a b) % Q = a % Q := by
  unfold dif
  have hb : b % Q < Q := Nat.mod_lt _ Q_pos
  have e : b + (a + (Q - b % Q)) = a + Q * (b / Q) + Q := by
    have := Nat.div_add_mod b Q
    omega
  rw [Nat.add_mod_mod, e, Nat.add_mod_right, Nat.add_mul_mod_self_left]
theorem dif_of {a b d : Nat} (h : (b + d) % Q = a % Q) : dif a b = d % Q := by
  have h1 := dif_add a b
  have h2 : (b + dif a b) % Q = (b + d) % Q := by rw [h1, h]
  have hb : b % Q < Q := Nat.mod_lt _ Q_pos
  have h3 : ((Q - b % Q) + (b + dif a b)) % Q = ((Q - b % Q) + (b + d)) % Q := by rw [Nat.add_mod, h2, ← Nat.add_mod]
  have e : ∀ z, ((Q - b % Q) + (b + z)) % Q = z % Q := fun z => by
    have : (Q - b % Q) + (b + z) = z + Q * (b / Q) + Q := by
      have := Nat.div_add_mod b Q
      omega
    rw [this, Nat.add_mod_right, Nat.add_mul_mod_self_left]
  rw [e, e, Nat.mod_eq_of_lt (dif_lt a b)] at h3
  exact h3

/-! ### Signatures -/
/-- b ^ S * a ^ (Q - C). -/
noncomputable def bck (b a C S : Nat) : Nat := pw b S P * pw a ((Q - C) % Q) P % P
theorem bck_sig {b : Nat} (hb : pw b Q P = 1) {o k C : Nat} (hC : C < Q) : bck b (pw b k P) C ((o + C * k) % Q) = pw b o P := by
  unfold bck
  rw [pw_pw, ← pw_add]
  refine pw_same hb ?_
  rw [Nat.mod_add_mod]
  have e : (C + (Q - C) % Q) % Q = 0 := by rw [Nat.add_mod_mod, show C + (Q - C) = Q by omega, Nat.mod_self]
  have e2 : k * (C + (Q - C) % Q) % Q = 0 := by rw [Nat.mul_mod, e, Nat.mul_zero, Nat.zero_mod]
  have e3 : o + C * k + k * ((Q - C) % Q) = o + k * (C + (Q - C) % Q) := by rw [Nat.mul_add, Nat.mul_comm C k, Nat.add_assoc]
  rw [e3, Nat.add_mod, e2, Nat.add_zero, Nat.mod_mod]
/-- Commitments with the base G ^ k. -/
theorem com_eq (k v r : Nat) : pw 4 v P * pw (pw 4 k P) r P % P = pw 4 (v + k * r) P := by rw [pw_pw, ← pw_add]
theorem hide_eq {k x y r : Nat} (hk : k % Q ≠ 0) : pw 4 x P * pw (pw 4 k P) r P % P = pw 4 y P * pw (pw 4 k P) ((r + ovr (dif x y) k) % Q) P % P := by
  rw [com_eq, com_eq]
  refine pw_same four_Q ?_
  have e1 : k * ((r + ovr (dif x y) k) % Q) % Q = (k * r + dif x y) % Q := by
    rw [Nat.mul_mod_mod, Nat.mul_add, Nat.add_mod, ovr_mul hk, ← Nat.add_mod]
  have e2 : (y + k * ((r + ovr (dif x y) k) % Q)) % Q = (y + (k * r + dif x y)) % Q := by rw [Nat.add_mod, e1, ← Nat.add_mod]
  have e3 : (k * r + (y + dif x y)) % Q = (k * r + x) % Q := by rw [Nat.add_mod, dif_add, ← Nat.add_mod]
  rw [e2, show y + (k * r + dif x y) = k * r + (y + dif x y) by omega, e3, Nat.add_comm]
theorem hide_ne {k x y r : Nat} (hk : k % Q ≠ 0) (hx : x < Q) (hy : y < Q) (hr : r < Q) (h : (r + ovr (dif x y) k) % Q = r) : x = y := by
  have ho := ovr_lt (dif x y) k
  have h0 : ovr (dif x y) k = 0 := by
    by_cases hlt : r + ovr (dif x y) k < Q
    · rw [Nat.mod_eq_of_lt hlt] at h; omega
    · rw [Nat.mod_eq_sub_mod (by omega), Nat.mod_eq_of_lt (by omega)] at h; omega
  have e := ovr_mul (a := dif x y) hk
  rw [h0, Nat.mul_zero, Nat.zero_mod, Nat.mod_eq_of_lt (dif_lt x y)] at e
  have e2 := dif_add x y
  rw [← e, Nat.add_zero, Nat.mod_eq_of_lt hx, Nat.mod_eq_of_lt hy] at e2
  exact e2.symm
/-- Two signatures with the same number that is used once show the secret. -/
theorem extract_eq {k r C D : Nat} (hk : k < Q) (hC : C < Q) (hD : D < Q) (hne : C ≠ D) : ovr (dif ((r + C * k) % Q) ((r + D * k) % Q)) (dif C D) = k := by
  have hd0 : dif C D % Q ≠ 0 := by
    rw [Nat.mod_eq_of_lt (dif_lt C D)]
    intro e
    have h := dif_add C D
    rw [e, Nat.add_zero, Nat.mod_eq_of_lt hC, Nat.mod_eq_of_lt hD] at h
    exact hne h.symm
  have e : dif ((r + C * k) % Q) ((r + D * k) % Q) = dif C D * k % Q := by
    refine dif_of ?_
    rw [Nat.mod_add_mod, Nat.mod_mod, Nat.add_assoc, ← Nat.add_mul, Nat.add_mod, Nat.mul_mod, dif_add, ← Nat.mul_mod, ← Nat.add_mod]
  rw [e, ovr_of hd0, Nat.mod_eq_of_lt hk]
end Gr
end Go.Proofs.YtidhhndclkilnaaDoor
