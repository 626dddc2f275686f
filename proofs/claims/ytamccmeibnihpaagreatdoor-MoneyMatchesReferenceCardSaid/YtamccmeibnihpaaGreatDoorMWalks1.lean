/-
  Contracts of the small functions of package money: sign, abs, isAmount, within, round; and Add, Scale.
-/
import Derived.Test.YtamccmeibnihpaaGreatDoorMRat
namespace Go.Proofs.YtamccmeibnihpaaGreatDoor
open Go.RowKit

theorem ret_int {k : IntKind} {a b : Int} (h : a = b) : Ending.returned (.int k a) = .returned (.int k b) := by rw [h]
theorem ret_2 {a b c d : Int} (h : a = c) (h' : b = d) : Ending.returned (.tuple #[.int .i64 a, .int .i64 b]) = .returned (.tuple #[.int .i64 c, .int .i64 d]) := by rw [h, h']

/-- The sign of the difference. -/
def cmp3 (x y : Int) : Int := if x < y then -1 else if y < x then 1 else 0

set_option maxHeartbeats 400000 in
theorem cmp_any (x y : Int) (w : World) : Calls Tryz.prog 45 #[.int .i64 x, .int .i64 y] w fun e w' => e = .returned (.int .i64 (cmp3 x y)) ∧ w = w' := by
  have hn : ∀ (z : Int) (w : World), Calls Tryz.prog 65 #[.int .i64 z] w fun e w' => e = .returned (.bool false) ∧ w = w' := by
    intro z w
    go_enter Tryz.func65, Tryz.ntmps65
    go_wp2
    go_ret
    exact ⟨by simp, rfl⟩
  by_cases h1 : x < y
  · go_enter Tryz.func45, Tryz.ntmps45
    go_wp2_with ((with_reducible refine (hn _ _).mono ?_); rintro e w' ⟨rfl, rfl⟩)
    go_ret
    exact ⟨ret_int (by unfold cmp3; rw [if_pos (by omega)]), rfl⟩
  · by_cases h2 : y < x
    · go_enter Tryz.func45, Tryz.ntmps45
      go_wp2_with ((with_reducible refine (hn _ _).mono ?_); rintro e w' ⟨rfl, rfl⟩)
      go_ret
      exact ⟨ret_int (by unfold cmp3; rw [if_neg (by omega), if_pos (by omega)]), rfl⟩
    · go_enter Tryz.func45, Tryz.ntmps45
      go_wp2_with ((with_reducible refine (hn _ _).mono ?_); rintro e w' ⟨rfl, rfl⟩)
      go_ret
      exact ⟨ret_int (by unfold cmp3; rw [if_neg (by omega), if_neg (by omega)]), rfl⟩

/-- The sign of an integer. -/
def sgn (x : Int) : Int := cmp3 x 0
theorem sgn_pos {x : Int} (h : 0 < x) : sgn x = 1 := by unfold sgn cmp3; rw [if_neg (by omega), if_pos h]
theorem sgn_neg {x : Int} (h : x < 0) : sgn x = -1 := by unfold sgn cmp3; rw [if_pos h]
theorem sgn_zero : sgn 0 = 0 := by decide
theorem sgn_le (x : Int) : -1 ≤ sgn x ∧ sgn x ≤ 1 := by unfold sgn cmp3; split <;> (try split) <;> omega

theorem sign_any (x : Int) (w : World) : Calls Tryz.prog 36 #[.int .i64 x] w fun e w' => e = .returned (.int .i64 (sgn x)) ∧ w = w' := by
  go_enter Tryz.func36, Tryz.ntmps36
  go_wp2_with ((with_reducible refine (cmp_any _ _ _).mono ?_); rintro e w' ⟨rfl, rfl⟩)
  go_ret
  exact ⟨rfl, rfl⟩

/-- An integer without its sign. -/
def ab (x : Int) : Int := if x < 0 then -x else x
theorem ab_mul (x : Int) : x * sgn x = ab x := by
  unfold ab
  by_cases h : x < 0
  · rw [if_pos h, sgn_neg h]; omega
  · rw [if_neg h]
    by_cases h2 : x = 0
    · subst h2; simp
    · rw [sgn_pos (by omega)]; omega

set_option maxHeartbeats 400000 in
theorem abs_any (x : Int) (w : World) (h0 : -9223372036854775807 ≤ x) (h1 : x ≤ 9223372036854775807) : Calls Tryz.prog 26 #[.int .i64 x] w fun e w' => e = .returned (.int .i64 (ab x)) ∧ w = w' := by
  have e := ab_mul x
  have e2 : wrap64 (x * sgn x) = ab x := by rw [e]; exact IntWalk.wrap64_in _ (by unfold ab; split <;> omega)
  generalize hS : sgn x = s at e e2
  have k : ∀ w : World, Calls Tryz.prog 36 #[.int .i64 x] w fun e w' => e = .returned (.int .i64 s) ∧ w = w' := fun w => by rw [← hS]; exact sign_any x w
  have K := Lib.hid k
  have E := Lib.hid e2
  clear k hS e e2
  go_enter Tryz.func26, Tryz.ntmps26
  go_wp2_with ((with_reducible refine (K.out _).mono ?_); rintro e w' ⟨rfl, rfl⟩)
  go_ret
  exact ⟨ret_int E.out, rfl⟩

/-- Is it an amount? -/
def amt (c : Int) : Bool := decide (-1000000000 ≤ c) && decide (c ≤ 1000000000)
theorem amt_iff (c : Int) : amt c = true ↔ -1000000000 ≤ c ∧ c ≤ 1000000000 := by unfold amt; simp

set_option maxHeartbeats 400000 in
theorem amount_any (c : Int) (w : World) : Calls Tryz.prog 17 #[.int .i64 c] w fun e w' => e = .returned (.bool (amt c)) ∧ w = w' := by
  by_cases h : -1000000000 ≤ c
  · have e : amt c = decide (c ≤ 1000000000) := by unfold amt; simp [h]
    rw [e]
    go_enter Tryz.func17, Tryz.ntmps17
    go_wp2
    go_ret
    exact ⟨rfl, rfl⟩
  · have e : amt c = false := by unfold amt; simp [h]
    rw [e]
    have e' : decide (-1000000000 ≤ c) = false := by simpa using h
    go_enter Tryz.func17, Tryz.ntmps17
    go_wp2
    go_ret
    exact ⟨rfl, rfl⟩

/-- An integer that is an amount, or the error. -/
def wth (c : Int) : Int × Int := if amt c = true then (c, 0) else (0, 3)

set_option maxHeartbeats 400000 in
theorem within_any (c : Int) (w : World) : Calls Tryz.prog 18 #[.int .i64 c] w fun e w' => e = .returned (.tuple #[.int .i64 (wth c).1, .int .i64 (wth c).2]) ∧ w = w' := by
  cases h : amt c with
  | true =>
    have e : wth c = (c, 0) := by unfold wth; rw [if_pos h]
    rw [e]
    have k : ∀ w : World, Calls Tryz.prog 17 #[.int .i64 c] w fun e w' => e = .returned (.bool true) ∧ w = w' := fun w => by rw [← h]; exact amount_any c w
    have K := Lib.hid k
    clear k h e
    go_enter Tryz.func18, Tryz.ntmps18
    go_wp2_with ((with_reducible refine (K.out _).mono ?_); rintro e w' ⟨rfl, rfl⟩)
    go_ret2
    exact ⟨rfl, rfl⟩
  | false =>
    have e : wth c = (0, 3) := by unfold wth; rw [h, if_neg (by simp)]
    rw [e]
    have k : ∀ w : World, Calls Tryz.prog 17 #[.int .i64 c] w fun e w' => e = .returned (.bool false) ∧ w = w' := fun w => by rw [← h]; exact amount_any c w
    have K := Lib.hid k
    clear k h e
    go_enter Tryz.func18, Tryz.ntmps18
    go_wp2_with ((with_reducible refine (K.out _).mono ?_); rintro e w' ⟨rfl, rfl⟩)
    go_ret2
    exact ⟨rfl, rfl⟩
end Go.Proofs.YtamccmeibnihpaaGreatDoor
