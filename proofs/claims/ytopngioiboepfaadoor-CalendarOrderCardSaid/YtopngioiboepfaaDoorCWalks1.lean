/-
  What the walks of layer 3 share: the table of lengths; contracts of isDay, weekday, yearStart, length.
-/
import Derived.Test.YtopngioiboepfaaDoorRows
import Derived.Test.YtopngioiboepfaaDoorCMath
import Derived.WalkKit
import Derived.WalkSpells
import Derived.WalkLawsBesides
import Derived.Lib.Hide
import Derived.Lib.LaidTab
import Derived.Deep.LoopGhost
import Derived.Deep.QuietTactic
import Derived.BigQuiet
import Derived.IntWalk
namespace Go.Proofs.YtopngioiboepfaaDoor
open Go.RowKit Cal

theorem ret_int {k : IntKind} {a b : Int} (h : a = b) : Ending.returned (.int k a) = .returned (.int k b) := by rw [h]
theorem ret_bool {a b : Bool} (h : a = b) : Ending.returned (.bool a) = .returned (.bool b) := by rw [h]
theorem ret_2 {a b c d : Int} (h : a = c) (h' : b = d) : Ending.returned (.tuple #[.int .i64 a, .int .i64 b]) = .returned (.tuple #[.int .i64 c, .int .i64 d]) := by rw [h, h']

theorem gTab : Tryd.prog.globalNamed "cohousing/calendar.lengths" = some 0 := by kernel_rfl
/-- The lengths of the months, as integers. -/
def lensI : List Int := [31, 28, 31, 30, 31, 30, 31, 31, 30, 31, 30, 31]
theorem lensI_at (k : Nat) (h : k < 12) : lensI.getD k 0 = (lens.getD k 0 : Nat) :=
  (show ∀ k < 12, lensI.getD k 0 = (lens.getD k 0 : Nat) by decide) k h
/-- The table reads as it was laid. -/
def Tab (w : World) : Prop := Lib.TabIs Tryd.prog w "cohousing/calendar.lengths" .i64 lensI

theorem Tab.at {w : World} (h : Tab w) (k : Nat) (hk : k < 12) : w.cell? ⟨0, k, none⟩ = some (.int .i64 (lens.getD k 0 : Nat)) := by
  rw [← lensI_at k hk]; exact Lib.TabIs.cell h gTab k hk
theorem tab_lt {w : World} (h : Tab w) : 0 < w.heap.size := World.block_lt_of_cell? _ _ (h.at 0 (by omega))
theorem Tab.below {w w1 : World} (h : Tab w) (hb : Below w.heap.size w w1) : Tab w1 := var?_below hb gTab (tab_lt h) h

theorem isDay_any (d : Int) (w : World) : Calls Tryd.prog 28 #[.int .i64 d] w fun e w' => e = .returned (.bool (isD d)) ∧ w = w' := by
  by_cases h : 0 ≤ d
  · have e : isD d = decide (d ≤ 36524) := by unfold isD; simp [h]
    rw [e]
    go_enter Tryd.func28, Tryd.ntmps28
    go_wp2
    go_ret
    exact ⟨rfl, rfl⟩
  · have e : isD d = false := by unfold isD; simp [h]
    rw [e]
    have e' : decide (0 ≤ d) = false := by simpa using h
    go_enter Tryd.func28, Tryd.ntmps28
    go_wp2
    go_ret
    exact ⟨rfl, rfl⟩

theorem weekday_any (d : Int) (w : World) (h0 : 0 ≤ d) (h1 : d ≤ 40000) : Calls Tryd.prog 35 #[.int .i64 d] w fun e w' => e = .returned (.int .i64 ((d + 5) % 7)) ∧ w = w' := by
  go_enter Tryd.func35, Tryd.ntmps35
  go_wp2
  go_ret
  exact ⟨rfl, rfl⟩

theorem yearStart_any (y : Int) (w : World) (h0 : 0 ≤ y) (h1 : y ≤ 200) : Calls Tryd.prog 40 #[.int .i64 y] w fun e w' => e = .returned (.int .i64 (MS (12 * y))) ∧ w = w' := by
  have E := Lib.hid (MS_year h0)
  go_enter Tryd.func40, Tryd.ntmps40
  go_wp2
  go_ret
  exact ⟨ret_int (by rw [E.out]; omega), rfl⟩

set_option maxHeartbeats 400000 in
theorem length_any (m : Int) (w : World) (hT : Tab w) (h0 : 0 ≤ m) (h1 : m ≤ 100000) : Calls Tryd.prog 33 #[.int .i64 m] w fun e w' => e = .returned (.int .i64 (ML m)) ∧ w = w' := by
  obtain ⟨k, hk⟩ : ∃ k : Nat, m % 12 = (k : Int) := ⟨(m % 12).toNat, by omega⟩
  have hk2 : k < 12 := by omega
  have hkz : (k : Int) < 12 := by omega
  have hk0 : (0 : Int) ≤ (k : Int) := by omega
  have e0 := ML_eq h0 k hk
  have hc := hT.at k hk2
  have hbd := lens_bd k hk2
  obtain ⟨x, hx⟩ : ∃ x : Nat, x = lens.getD k 0 := ⟨_, rfl⟩
  rw [← hx] at hc hbd e0
  clear hT hx
  by_cases hk1 : k = 1
  · subst hk1
    by_cases hl : m / 12 % 4 = 0
    · rw [if_pos ⟨rfl, hl⟩] at e0
      have E := Lib.hid e0
      clear e0
      go_enter Tryd.func33, Tryd.ntmps33
      go_wp2
      go_ret
      exact ⟨ret_int E.out.symm, rfl⟩
    · rw [if_neg (fun h => hl h.2), Int.add_zero] at e0
      have E := Lib.hid e0
      clear e0
      go_enter Tryd.func33, Tryd.ntmps33
      go_wp2
      go_ret
      exact ⟨ret_int E.out.symm, rfl⟩
  · have hd : ((k : Int) == 1) = false := by simp; omega
    rw [if_neg (fun h => hk1 h.1), Int.add_zero] at e0
    have E := Lib.hid e0
    clear e0
    go_enter Tryd.func33, Tryd.ntmps33
    go_wp2
    go_ret
    exact ⟨ret_int E.out.symm, rfl⟩

set_option maxHeartbeats 1000000 in
theorem start_any (m : Int) (w : World) (hT : Tab w) (h0 : 0 ≤ m) (h1 : m ≤ 1200) : Calls Tryd.prog 34 #[.int .i64 m] w fun e w' => e = .returned (.int .i64 (MS m)) ∧ w = w' := by
  have HT := Lib.hid hT
  clear hT
  go_enter Tryd.func34, Tryd.ntmps34
  go_wp2_with ((with_reducible refine (yearStart_any _ _ (by omega) (by omega)).mono ?_); rintro e w' ⟨rfl, rfl⟩)
  go_loop [4, 5] (fun d i => ∃ j s : Int, i = .int .i64 j ∧ d = .int .i64 s ∧ 0 ≤ j ∧ j ≤ m ∧ 0 ≤ s ∧ s ≤ 36525 ∧ Hid (s = MS j)) (fun _ i => (m - intOf i).toNat)
  case atStart =>
    have k := MS_nonneg (12 * (m / 12))
    have k2 := MS_le (show 12 * (m / 12) ≤ 1200 by omega)
    exact ⟨12 * (m / 12), MS (12 * (m / 12)), by rw [Int.mul_comm], rfl, by omega, by omega, k, k2, rfl⟩
  case round =>
    obtain ⟨j, s, rfl, rfl, j0, j1, s0, s1, HS⟩ := hrel
    by_cases hlt : j < m
    · have e := MS_succ j0
      have e2 := MS_le (show j + 1 ≤ 1200 by omega)
      have hb := ML_bd j
      obtain ⟨x, hx⟩ : ∃ x, x = ML j := ⟨_, rfl⟩
      have k : ∀ w : World, Tab w → Calls Tryd.prog 33 #[.int .i64 j] w fun e w' => e = .returned (.int .i64 x) ∧ w = w' := fun w hw => by rw [hx]; exact length_any j w hw (by omega) (by omega)
      have K := Lib.hid k
      rw [← hx] at e hb
      have hs := HS.out
      have b1 : s + x ≤ 36525 := by omega
      have HN : Hid (s + x = MS (j + 1)) := by show _ = _; omega
      clear k hx e e2 hs HS
      go_wp2_with ((with_reducible refine (K.out _ HT.out).mono ?_); rintro e w' ⟨rfl, rfl⟩)
      go_round
      case rel => exact ⟨j + 1, s + x, rfl, rfl, by omega, by omega, by omega, by omega, HN⟩
      case measure => simp [intOf]; omega
    · have hm : m = j := by omega
      have HM := Lib.hid hm
      clear hm
      go_wp2
      go_ret
      exact ⟨ret_int (by rw [HS.out, HM.out]), rfl⟩

set_option maxHeartbeats 1000000 in
theorem locate_any (d : Int) (w : World) (hT : Tab w) (h0 : 0 ≤ d) (h1 : d ≤ 36524) : Calls Tryd.prog 29 #[.int .i64 d] w fun e w' => e = .returned (.tuple #[.int .i64 (MO d), .int .i64 (d - MS (MO d) + 1)]) ∧ w = w' := by
  have HT := Lib.hid hT
  clear hT
  obtain ⟨y, hy⟩ : ∃ y, y = d * 4 / 1461 := ⟨_, rfl⟩
  have y0 : 0 ≤ y := by omega
  have y1 : y ≤ 99 := by omega
  have e1 := MS_year y0
  have e2 := MS_year (show 0 ≤ y + 1 by omega)
  have b1 : MS (12 * y) ≤ d := by omega
  have b2 : d < MS (12 * (y + 1)) := by omega
  obtain ⟨s, hs⟩ : ∃ s, s = MS (12 * y) := ⟨_, rfl⟩
  have k : ∀ w : World, Calls Tryd.prog 40 #[.int .i64 y] w fun e w' => e = .returned (.int .i64 s) ∧ w = w' := fun w => by rw [hs]; exact yearStart_any y w y0 (by omega)
  have K := Lib.hid k
  have s0 := MS_nonneg (12 * y)
  rw [← hs] at b1 s0
  have HS := Lib.hid hs
  have B2 := Lib.hid b2
  have hy2 : d * 4 / 1461 = y := hy.symm
  clear k hs e1 e2 b2 hy
  go_enter Tryd.func29, Tryd.ntmps29
  go_wp2_with ((with_reducible refine (K.out _).mono ?_); rintro e w' ⟨rfl, rfl⟩)
  clear hy2
  go_loop [2, 3] (fun a b => ∃ m t : Int, a = .int .i64 m ∧ b = .int .i64 t ∧ 12 * y ≤ m ∧ m < 12 * (y + 1) ∧ 1 ≤ t ∧ t ≤ 40000 ∧ Hid (t = d - MS m + 1)) (fun a _ => (12 * (y + 1) - intOf a).toNat)
  case atStart => exact ⟨y * 12, d - s + 1, rfl, rfl, by omega, by omega, by omega, by omega, (show _ = _ by rw [HS.out, Int.mul_comm y 12])⟩
  case round =>
    obtain ⟨m, t, rfl, rfl, m0, m1, t0, t1, HR⟩ := hrel
    obtain ⟨x, hx⟩ : ∃ x, x = ML m := ⟨_, rfl⟩
    have k : ∀ w : World, Tab w → Calls Tryd.prog 33 #[.int .i64 m] w fun e w' => e = .returned (.int .i64 x) ∧ w = w' := fun w hw => by rw [hx]; exact length_any m w hw (by omega) (by omega)
    have K2 := Lib.hid k
    have hb := ML_bd m
    have e := MS_succ (show 0 ≤ m by omega)
    rw [← hx] at hb e
    have hr := HR.out
    by_cases hlt : x < t
    · have HN : Hid (t - x = d - MS (m + 1) + 1) := by show _ = _; omega
      have m2 : m + 1 < 12 * (y + 1) := by
        rcases (show m + 1 < 12 * (y + 1) ∨ 12 * (y + 1) ≤ m + 1 by omega) with z | z
        · exact z
        · have := MS_mono z
          have := B2.out
          omega
      clear k hx e hr HR
      go_wp2_with ((with_reducible refine (K2.out _ HT.out).mono ?_); rintro e w' ⟨rfl, rfl⟩)
      go_round
      case rel => exact ⟨m + 1, t - x, rfl, rfl, by omega, by omega, by omega, by omega, HN⟩
      case measure => simp [intOf]; omega
    · have hm : MO d = m := MO_uniq h0 h1 (by omega) (by omega) (by omega)
      have HM := Lib.hid hm
      clear k hx e hr hm
      go_wp2_with ((with_reducible refine (K2.out _ HT.out).mono ?_); rintro e w' ⟨rfl, rfl⟩)
      go_ret2
      exact ⟨ret_2 HM.out.symm (by rw [HM.out]; exact HR.out), rfl⟩
end Go.Proofs.YtopngioiboepfaaDoor
