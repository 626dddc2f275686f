/-
  Contracts of Compare and Floor.
-/
import Derived.Test.YtohnmffokichkaaDoorWalks4
import Derived.Test.YtohnmffokichkaaDoorShelf
namespace Go.Proofs.YtohnmffokichkaaDoor
open Go.RowKit

/-- The sign of a comparison. -/
def cmp3 (x y : Int) : Int := if x < y then -1 else if x = y then 0 else 1
theorem compareInt_is (x y : Int) : Lib.compareInt x y = cmp3 x y := by
  unfold Lib.compareInt cmp3
  repeat' split
  all_goals omega

/-- What Compare gives. -/
def cmpR (a b c d : Int) : Int × Int := if vld a b = true ∧ vld c d = true then (cmp3 (a * d) (c * b), 0) else (0, 1)

set_option maxRecDepth 100000 in
set_option maxHeartbeats 400000 in
theorem compare_any (a b c d : Int) (w : World)
    (a0 : -9223372036854775808 ≤ a) (a1 : a ≤ 9223372036854775807) (b0 : -9223372036854775808 ≤ b) (b1 : b ≤ 9223372036854775807)
    (c0 : -9223372036854775808 ≤ c) (c1 : c ≤ 9223372036854775807) (d0 : -9223372036854775808 ≤ d) (d1 : d ≤ 9223372036854775807) :
    Calls Tryd.prog 22 #[.agg #[.int .i64 a, .int .i64 b], .agg #[.int .i64 c, .int .i64 d]] w fun e w' =>
      e = .returned (.tuple #[.int .i64 (cmpR a b c d).1, .int .i64 (cmpR a b c d).2]) ∧ Below w.heap.size w w' := by
  cases h : vld a b
  · have e : cmpR a b c d = (0, 1) := by unfold cmpR; rw [if_neg (fun x => by rw [h] at x; cases x.1)]
    rw [e]
    go_enter Tryd.func22, Tryd.ntmps22
    go_wp2_with fail
    refine (valid_any _ _ _ (by omega) (by omega) (by omega) (by omega)).mono ?_
    rintro e w1 ⟨rfl, hb1⟩
    have HBX : Below w.heap.size w w1 := (((Below.refl _ _).alloc (Nat.le_refl _) _).alloc (by simp) _).trans (hb1.mono (by simp; omega))
    clear hb1
    go_wp2
    go_ret2
    exact ⟨rfl, HBX⟩
  cases k : vld c d
  · have e : cmpR a b c d = (0, 1) := by unfold cmpR; rw [if_neg (fun x => by rw [k] at x; cases x.2)]
    rw [e]
    go_enter Tryd.func22, Tryd.ntmps22
    go_wp2_with fail
    refine (valid_any _ _ _ (by omega) (by omega) (by omega) (by omega)).mono ?_
    rintro e w1 ⟨rfl, hb1⟩
    have hz1 := hb1.size
    simp only [World.size_alloc] at hz1
    have C1 : At2 w1 (w.heap.size + 1) (.int .i64 c) (.int .i64 d) := by
      have := (At2.new (w.alloc (.cells #[.int .i64 a, .int .i64 b] 23)) (.int .i64 c) (.int .i64 d) 23).below hb1 (by simp)
      simpa using this
    have HB1 : Below w.heap.size w w1 := (((Below.refl _ _).alloc (Nat.le_refl _) _).alloc (by simp) _).trans (hb1.mono (by simp; omega))
    clear hb1
    obtain ⟨p4, p5, p6, p7⟩ := C1
    go_wp2_with fail
    refine (valid_any _ _ _ (by omega) (by omega) (by omega) (by omega)).mono ?_
    rintro e w2 ⟨rfl, hb2⟩
    have HBX : Below w.heap.size w w2 := HB1.trans (hb2.mono (by omega))
    clear p4 p5 p6 p7 hb2 HB1
    go_wp2
    go_ret2
    exact ⟨rfl, HBX⟩
  · have e : cmpR a b c d = (cmp3 (a * d) (c * b), 0) := by unfold cmpR; rw [if_pos ⟨h, k⟩]
    rw [e]
    obtain ⟨v1, v2, v3, v4, _⟩ := (vld_iff a b).1 h
    obtain ⟨u1, u2, u3, u4, _⟩ := (vld_iff c d).1 k
    have x1 := mul_le v1 v2 (b := d) (by omega) u4
    have x2 := mul_le u1 u2 (b := b) (by omega) v4
    go_enter Tryd.func22, Tryd.ntmps22
    go_wp2_with fail
    refine (valid_any _ _ _ (by omega) (by omega) (by omega) (by omega)).mono ?_
    rintro e w1 ⟨rfl, hb1⟩
    have hz1 := hb1.size
    simp only [World.size_alloc] at hz1
    have A1 : At2 w1 w.heap.size (.int .i64 a) (.int .i64 b) := ((At2.new w _ _ _).alloc (by simp) _).below hb1 (by simp; omega)
    have C1 : At2 w1 (w.heap.size + 1) (.int .i64 c) (.int .i64 d) := by
      have := (At2.new (w.alloc (.cells #[.int .i64 a, .int .i64 b] 23)) (.int .i64 c) (.int .i64 d) 23).below hb1 (by simp)
      simpa using this
    have HB1 : Below w.heap.size w w1 := (((Below.refl _ _).alloc (Nat.le_refl _) _).alloc (by simp) _).trans (hb1.mono (by simp; omega))
    clear hb1
    obtain ⟨p0, p1, p2, p3⟩ := A1
    obtain ⟨p4, p5, p6, p7⟩ := C1
    go_wp2_with fail
    refine (valid_any _ _ _ (by omega) (by omega) (by omega) (by omega)).mono ?_
    rintro e w2 ⟨rfl, hb2⟩
    have A2 := (At2.mk p0 p1 p2 p3).below hb2 (by omega)
    have C2 := (At2.mk p4 p5 p6 p7).below hb2 (by omega)
    have HBX : Below w.heap.size w w2 := HB1.trans (hb2.mono (by omega))
    clear p0 p1 p2 p3 p4 p5 p6 p7 hb2 HB1
    obtain ⟨p0, p1, p2, p3⟩ := A2
    obtain ⟨p4, p5, p6, p7⟩ := C2
    go_wp2_with fail
    refine (Tryd.cmp_Compare_int _ _ _).mono ?_
    rintro e w' ⟨rfl, rfl⟩
    rw [compareInt_is]
    go_wp2
    go_ret2
    exact ⟨rfl, HBX⟩

theorem floor_pos {a b : Int} (hb : 1 ≤ b) (h : 0 ≤ a.tmod b) : a.tdiv b = a / b := by
  have e := Int.mul_tdiv_add_tmod a b
  have l := Int.tmod_lt_of_pos a (show 0 < b by omega)
  have : a / b = (b * a.tdiv b + a.tmod b) / b := by rw [e]
  rw [this, Int.mul_add_ediv_left _ _ (by omega), Int.ediv_eq_zero_of_lt h l, Int.add_zero]
theorem floor_neg {a b : Int} (a0 : -1000000000 ≤ a) (a1 : a ≤ 1000000000) (hb : 1 ≤ b) (b1 : b ≤ 1000000000) (h : a.tmod b < 0) : wrap64 (a.tdiv b - 1) = a / b := by
  have e := Int.mul_tdiv_add_tmod a b
  have l : -b < a.tmod b := by
    have h1 := Int.tmod_lt_of_pos (-a) (show 0 < b by omega)
    rw [Int.neg_tmod] at h1; omega
  have e2 : b * (a.tdiv b - 1) + (a.tmod b + b) = a := by
    have : b * (a.tdiv b - 1) = b * a.tdiv b - b := by rw [Int.mul_sub, Int.mul_one]
    omega
  have e3 : a / b = a.tdiv b - 1 := by
    have : a / b = (b * (a.tdiv b - 1) + (a.tmod b + b)) / b := by rw [e2]
    rw [this, Int.mul_add_ediv_left _ _ (by omega), Int.ediv_eq_zero_of_lt (by omega) (by omega), Int.add_zero]
  have f1 := Int.ediv_mul_le a (show b ≠ 0 by omega)
  have f2 := Int.lt_ediv_add_one_mul_self a (show 0 < b by omega)
  rw [e3]
  have g : (a / b).natAbs ≤ 1000000000 := by
    rcases Int.le_total 0 a with h0 | h0
    · have := Int.ediv_le_self (b := b) h0
      have := Int.ediv_nonneg h0 (show 0 ≤ b by omega); omega
    · have h1 : a ≤ a / b := by
        rcases Int.lt_or_le (a / b) a with h2 | h2
        · exfalso
          have h3 : (a / b + 1) * b ≤ a * b := Int.mul_le_mul_of_nonneg_right (by omega) (by omega)
          have h4 : (-a) * 1 ≤ (-a) * b := Int.mul_le_mul_of_nonneg_left hb (by omega)
          rw [Int.neg_mul, Int.neg_mul, Int.mul_one] at h4
          omega
        · exact h2
      have h5 : a / b ≤ 0 := by
        rcases Int.lt_or_le 0 (a / b) with h2 | h2
        · exfalso
          have h3 : 1 * b ≤ a / b * b := Int.mul_le_mul_of_nonneg_right (by omega) (by omega)
          omega
        · exact h2
      omega
  exact IntWalk.wrap64_in _ ⟨by omega, by omega⟩

/-- What Floor gives. -/
def flr (a b : Int) : Int × Int := if vld a b = true then (a / b, 0) else (0, 1)

set_option maxRecDepth 100000 in
set_option maxHeartbeats 400000 in
theorem floor_any (a b : Int) (w : World)
    (a0 : -9223372036854775808 ≤ a) (a1 : a ≤ 9223372036854775807) (b0 : -9223372036854775808 ≤ b) (b1 : b ≤ 9223372036854775807) :
    Calls Tryd.prog 24 #[.agg #[.int .i64 a, .int .i64 b]] w fun e w' =>
      e = .returned (.tuple #[.int .i64 (flr a b).1, .int .i64 (flr a b).2]) ∧ Below w.heap.size w w' := by
  cases h : vld a b
  · have e : flr a b = (0, 1) := by unfold flr; rw [if_neg (fun x => by rw [h] at x; cases x)]
    rw [e]
    go_enter Tryd.func24, Tryd.ntmps24
    go_wp2_with fail
    refine (valid_any _ _ _ (by omega) (by omega) (by omega) (by omega)).mono ?_
    rintro e w1 ⟨rfl, hb1⟩
    have HBX : Below w.heap.size w w1 := ((Below.refl _ _).alloc (Nat.le_refl _) _).trans (hb1.mono (by simp))
    clear hb1
    go_wp2
    go_ret2
    exact ⟨rfl, HBX⟩
  · have e : flr a b = (a / b, 0) := by unfold flr; rw [if_pos h]
    rw [e]
    obtain ⟨v1, v2, v3, v4, _⟩ := (vld_iff a b).1 h
    go_enter Tryd.func24, Tryd.ntmps24
    go_wp2_with fail
    refine (valid_any _ _ _ (by omega) (by omega) (by omega) (by omega)).mono ?_
    rintro e w1 ⟨rfl, hb1⟩
    have A1 : At2 w1 w.heap.size (.int .i64 a) (.int .i64 b) := (At2.new w _ _ _).below hb1 (by simp)
    have HBX : Below w.heap.size w w1 := ((Below.refl _ _).alloc (Nat.le_refl _) _).trans (hb1.mono (by simp))
    clear hb1
    obtain ⟨p0, p1, p2, p3⟩ := A1
    go_wp2
    · have hr : a.tmod b < 0 := by assumption
      go_ret2
      exact ⟨by rw [floor_neg v1 v2 v3 v4 hr]; rfl, HBX⟩
    · have hr : 0 ≤ a.tmod b := by assumption
      go_ret2
      exact ⟨by rw [floor_pos v3 hr]; rfl, HBX⟩
end Go.Proofs.YtohnmffokichkaaDoor
