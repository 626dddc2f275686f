/-
  Contract of Valid; and of what is computed of two fractions.
-/
import Derived.Test.YtohnmffokichkaaDoorWalks2
namespace Go.Proofs.YtohnmffokichkaaDoor
open Go.RowKit

/-- Is it a number? -/
def vld (n d : Int) : Bool := decide (-1000000000 ≤ n) && decide (n ≤ 1000000000) && decide (1 ≤ d) && decide (d ≤ 1000000000) && (gd (mag n) (mag d) == 1)
theorem vld_iff (n d : Int) : vld n d = true ↔ Q.Val n d := by
  unfold vld Q.Val gd mag
  simp only [Bool.and_eq_true, decide_eq_true_eq, beq_iff_eq, and_assoc]

set_option maxRecDepth 100000 in
set_option maxHeartbeats 400000 in
theorem valid_far (n d : Int) (w : World) (n0 : -9223372036854775808 ≤ n) (n1 : n ≤ 9223372036854775807) (d0 : -9223372036854775808 ≤ d) (d1 : d ≤ 9223372036854775807)
    (h : n < -1000000000 ∨ 1000000000 < n ∨ d < 1 ∨ 1000000000 < d) :
    Calls Tryd.prog 10 #[.agg #[.int .i64 n, .int .i64 d]] w fun e w' => e = .returned (.bool false) ∧ Below w.heap.size w w' := by
  have H := Lib.hid h
  clear h
  by_cases h1 : n < -1000000000
  · clear H
    go_enter Tryd.func10, Tryd.ntmps10
    go_wp2
    go_ret
    exact ⟨rfl, (by repeat' (first | exact Below.refl _ _ | refine below_drewN ?_ _ | refine Below.alloc ?_ (by first | (simp; done) | (simp; omega)) _))⟩
  by_cases h2 : 1000000000 < n
  · clear H
    have b1 : decide (n < -1000000000) = false := by simp; omega
    go_enter Tryd.func10, Tryd.ntmps10
    go_wp2
    go_ret
    exact ⟨rfl, (by repeat' (first | exact Below.refl _ _ | refine below_drewN ?_ _ | refine Below.alloc ?_ (by first | (simp; done) | (simp; omega)) _))⟩
  by_cases h3 : d < 1
  · clear H
    have b1 : decide (n < -1000000000) = false := by simp; omega
    have b2 : decide (1000000000 < n) = false := by simp; omega
    go_enter Tryd.func10, Tryd.ntmps10
    go_wp2
    go_ret
    exact ⟨rfl, (by repeat' (first | exact Below.refl _ _ | refine below_drewN ?_ _ | refine Below.alloc ?_ (by first | (simp; done) | (simp; omega)) _))⟩
  · have h4 : 1000000000 < d := by have := H.out; omega
    clear H
    have b1 : decide (n < -1000000000) = false := by simp; omega
    have b2 : decide (1000000000 < n) = false := by simp; omega
    have b3 : decide (d < 1) = false := by simp; omega
    go_enter Tryd.func10, Tryd.ntmps10
    go_wp2
    go_ret
    exact ⟨rfl, (by repeat' (first | exact Below.refl _ _ | refine below_drewN ?_ _ | refine Below.alloc ?_ (by first | (simp; done) | (simp; omega)) _))⟩

set_option maxRecDepth 100000 in
set_option maxHeartbeats 400000 in
theorem valid_near (n d : Int) (w : World) (n0 : -1000000000 ≤ n) (n1 : n ≤ 1000000000) (d0 : 1 ≤ d) (d1 : d ≤ 1000000000) :
    Calls Tryd.prog 10 #[.agg #[.int .i64 n, .int .i64 d]] w fun e w' => e = .returned (.bool ((gd (mag n) (mag d) : Int) == 1)) ∧ Below w.heap.size w w' := by
  have hX := mag_lt (n := n) (by omega) (by omega)
  have hY := mag_lt (n := d) (by omega) (by omega)
  have b1 : decide (n < -1000000000) = false := by simp; omega
  have b2 : decide (1000000000 < n) = false := by simp; omega
  have b3 : decide (d < 1) = false := by simp; omega
  have b4 : decide (1000000000 < d) = false := by simp; omega
  go_enter Tryd.func10, Tryd.ntmps10
  go_wp2
  go_quiet ((first | (go_at_call 33; exact Calls.quiet_of_same (size_any _ _ (by omega) (by omega))) | (go_at_call 32; exact Calls.quiet_of (divisor_any _ _ _ (by omega) (by omega)))))
  go_wp2
  go_ret
  exact ⟨rfl, (by repeat' (first | exact Below.refl _ _ | refine below_drewN ?_ _ | refine Below.alloc ?_ (by first | (simp; done) | (simp; omega)) _))⟩

theorem valid_any (n d : Int) (w : World) (n0 : -9223372036854775808 ≤ n) (n1 : n ≤ 9223372036854775807) (d0 : -9223372036854775808 ≤ d) (d1 : d ≤ 9223372036854775807) :
    Calls Tryd.prog 10 #[.agg #[.int .i64 n, .int .i64 d]] w fun e w' => e = .returned (.bool (vld n d)) ∧ Below w.heap.size w w' := by
  by_cases h : n < -1000000000 ∨ 1000000000 < n ∨ d < 1 ∨ 1000000000 < d
  · refine (valid_far n d w n0 n1 d0 d1 h).mono ?_
    rintro e w' ⟨rfl, hb⟩
    refine ⟨?_, hb⟩
    have : vld n d = false := by
      rw [Bool.eq_false_iff]; intro hv
      have := (vld_iff n d).1 hv
      unfold Q.Val at this; omega
    rw [this]
  · refine (valid_near n d w (by omega) (by omega) (by omega) (by omega)).mono ?_
    rintro e w' ⟨rfl, hb⟩
    refine ⟨?_, hb⟩
    have : vld n d = ((gd (mag n) (mag d) : Int) == 1) := by
      unfold vld
      rw [Bool.eq_iff_iff]
      simp only [Bool.and_eq_true, decide_eq_true_eq, beq_iff_eq]
      omega
    rw [this]

/-! What is computed of two fractions, in the walk's spelling. -/
theorem plus_any (a b c d : Int) (w : World) :
    Calls Tryd.prog 39 #[.agg #[.int .i64 a, .int .i64 b], .agg #[.int .i64 c, .int .i64 d]] w fun e w' =>
      e = .returned (.agg #[.int .i64 (wrap64 (wrap64 (a * d) + wrap64 (c * b))), .int .i64 (wrap64 (b * d))]) ∧ Below w.heap.size w w' := by
  go_enter Tryd.func39, Tryd.ntmps39
  go_wp2
  refine bodyPost_ret (v := .agg #[.int .i64 (wrap64 (wrap64 (a * d) + wrap64 (c * b))), .int .i64 (wrap64 (b * d))]) (by simp [results, Tryd.results39, go_sem]) rfl ⟨rfl, ?_⟩
  repeat' (first | exact Below.refl _ _ | refine Below.setCell ?_ (by first | (simp; done) | (simp; omega)) _ | refine below_drewN ?_ _ | refine Below.alloc ?_ (by first | (simp; done) | (simp; omega)) _)

theorem times_any (a b c d : Int) (w : World) :
    Calls Tryd.prog 42 #[.agg #[.int .i64 a, .int .i64 b], .agg #[.int .i64 c, .int .i64 d]] w fun e w' =>
      e = .returned (.agg #[.int .i64 (wrap64 (a * c)), .int .i64 (wrap64 (b * d))]) ∧ Below w.heap.size w w' := by
  go_enter Tryd.func42, Tryd.ntmps42
  go_wp2
  refine bodyPost_ret (v := .agg #[.int .i64 (wrap64 (a * c)), .int .i64 (wrap64 (b * d))]) (by simp [results, Tryd.results42, go_sem]) rfl ⟨rfl, ?_⟩
  repeat' (first | exact Below.refl _ _ | refine Below.setCell ?_ (by first | (simp; done) | (simp; omega)) _ | refine below_drewN ?_ _ | refine Below.alloc ?_ (by first | (simp; done) | (simp; omega)) _)

theorem over_any (a b c d : Int) (w : World) :
    Calls Tryd.prog 43 #[.agg #[.int .i64 a, .int .i64 b], .agg #[.int .i64 c, .int .i64 d]] w fun e w' =>
      e = .returned (.agg #[.int .i64 (wrap64 (a * d)), .int .i64 (wrap64 (b * c))]) ∧ Below w.heap.size w w' := by
  go_enter Tryd.func43, Tryd.ntmps43
  go_wp2
  refine bodyPost_ret (v := .agg #[.int .i64 (wrap64 (a * d)), .int .i64 (wrap64 (b * c))]) (by simp [results, Tryd.results43, go_sem]) rfl ⟨rfl, ?_⟩
  repeat' (first | exact Below.refl _ _ | refine Below.setCell ?_ (by first | (simp; done) | (simp; omega)) _ | refine below_drewN ?_ _ | refine Below.alloc ?_ (by first | (simp; done) | (simp; omega)) _)

/-- The bounds on what is computed of two numbers: nothing wraps. -/
theorem mul_le {a b : Int} (a0 : -1000000000 ≤ a) (a1 : a ≤ 1000000000) (b0 : -1000000000 ≤ b) (b1 : b ≤ 1000000000) : -1000000000000000000 ≤ a * b ∧ a * b ≤ 1000000000000000000 := by
  have h : (a * b).natAbs ≤ 1000000000 * 1000000000 := by rw [Int.natAbs_mul]; exact Nat.mul_le_mul (by omega) (by omega)
  omega
theorem mul_wrap {a b : Int} (a0 : -1000000000 ≤ a) (a1 : a ≤ 1000000000) (b0 : -1000000000 ≤ b) (b1 : b ≤ 1000000000) : wrap64 (a * b) = a * b := by
  have := mul_le a0 a1 b0 b1
  exact IntWalk.wrap64_in _ ⟨by omega, by omega⟩

/-- A function of two fractions, at two numbers. -/
def Does (F : Nat) (a b c d n m : Int) : Prop := ∀ w : World, Calls Tryd.prog F #[.agg #[.int .i64 a, .int .i64 b], .agg #[.int .i64 c, .int .i64 d]] w fun e w' =>
  e = .returned (.agg #[.int .i64 n, .int .i64 m]) ∧ Below w.heap.size w w'

theorem plus_does {a b c d : Int} (h : Q.Val a b) (k : Q.Val c d) : Does 39 a b c d (a * d + c * b) (b * d) := by
  obtain ⟨h1, h2, h3, h4, _⟩ := h
  obtain ⟨k1, k2, k3, k4, _⟩ := k
  intro w
  have e := plus_any a b c d w
  have x := mul_le h1 h2 (b := d) (by omega) k4
  have y := mul_le k1 k2 (b := b) (by omega) h4
  rw [mul_wrap h1 h2 (b := d) (by omega) k4, mul_wrap k1 k2 (b := b) (by omega) h4, mul_wrap (a := b) (b := d) (by omega) h4 (by omega) k4, IntWalk.wrap64_in _ ⟨by omega, by omega⟩] at e
  exact e
theorem times_does {a b c d : Int} (h : Q.Val a b) (k : Q.Val c d) : Does 42 a b c d (a * c) (b * d) := by
  obtain ⟨h1, h2, h3, h4, _⟩ := h
  obtain ⟨k1, k2, k3, k4, _⟩ := k
  intro w
  have e := times_any a b c d w
  rw [mul_wrap h1 h2 k1 k2, mul_wrap (a := b) (b := d) (by omega) h4 (by omega) k4] at e
  exact e
theorem over_does {a b c d : Int} (h : Q.Val a b) (k : Q.Val c d) : Does 43 a b c d (a * d) (b * c) := by
  obtain ⟨h1, h2, h3, h4, _⟩ := h
  obtain ⟨k1, k2, k3, k4, _⟩ := k
  intro w
  have e := over_any a b c d w
  rw [mul_wrap h1 h2 (b := d) (by omega) k4, mul_wrap (a := b) (by omega) h4 k1 k2] at e
  exact e
end Go.Proofs.YtohnmffokichkaaDoor
