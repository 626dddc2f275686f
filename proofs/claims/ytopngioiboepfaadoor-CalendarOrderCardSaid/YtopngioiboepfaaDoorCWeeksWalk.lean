/-
  The walk of the law on weeks.
-/
import Derived.Test.YtopngioiboepfaaDoorCSuccWalk
namespace Go.Proofs.YtopngioiboepfaaDoor
open Go.RowKit Cal

theorem week_is (d x e : Int) (h : wdV d = x ∧ dtE d = e) (w : World) : Calls Tryd.prog 17 #[.int .i64 d] w fun e' w' => e' = .returned (.tuple #[.int .i64 x, .int .i64 e]) ∧ w = w' := by
  obtain ⟨rfl, rfl⟩ := h; exact Weekday_any d w
theorem wd_in {d : Int} (h0 : 0 ≤ d) (h1 : d ≤ 36524) : wdV d = (d + 5) % 7 ∧ dtE d = 0 := by
  have e := (isD_iff d).2 ⟨h0, h1⟩
  unfold wdV dtE; rw [if_pos e, if_pos e]; exact ⟨rfl, rfl⟩

set_option maxRecDepth 100000 in
set_option maxHeartbeats 4000000 in
theorem weeks_law (d : Int) (w : World) (hE : Tab w) (d0 : -9223372036854775808 ≤ d) (d1 : d ≤ 9223372036854775807) :
    Calls Tryd.prog 7 #[.int .i64 d] w fun e w' => e = .returned (.bool true) ∧ Below w.heap.size w w' := by
  have KH := Lib.hid (head_any w hE)
  have HE := Lib.hid hE
  clear hE
  by_cases hd : 0 ≤ d ∧ d ≤ 36524
  · obtain ⟨h0, h1⟩ := hd
    obtain ⟨y, m, t, y0, y1, m0, m1, t0, t1, a, b⟩ := weeks_ok h0 h1
    obtain ⟨x, hx⟩ : ∃ x, x = (d + 5) % 7 := ⟨_, rfl⟩
    have x0 : 0 ≤ x := by omega
    have x1 : x ≤ 6 := by omega
    have w1 := wd_in h0 h1
    rw [← hx] at w1
    have k1 : ∀ w, _ := fun w => week_is d x 0 w1 w
    have k2 : ∀ w, Tab w → _ := fun w hT => date_is d y m t 0 a w hT
    have K1 := Lib.hid k1
    have K2 := Lib.hid k2
    have B := Lib.hid b
    have X := Lib.hid hx
    clear k1 k2 a b w1 hx
    by_cases hl : d < 36524
    · have k3 : ∀ w, _ := fun w => week_is (d + 1) ((x + 1) % 7) 0 (by
        have := wd_in (d := d + 1) (by omega) (by omega)
        rw [this.1, this.2, X.out]; exact ⟨by omega, rfl⟩) w
      have K3 := Lib.hid k3
      clear k3
      by_cases h28 : y + 28 ≤ 2099
      · obtain ⟨b1, b2, b3⟩ := B.out h28
        have k4 : ∀ w, Tab w → _ := fun w hT => day_is (y + 28) m t (d + 10227) 0 ⟨b1, b2⟩ w hT
        have k5 : ∀ w, _ := fun w => week_is (d + 10227) x 0 (by
          have := wd_in (d := d + 10227) (by omega) (by omega)
          rw [this.1, this.2, X.out]; exact ⟨by omega, rfl⟩) w
        have K4 := Lib.hid k4
        have K5 := Lib.hid k5
        clear k4 k5 b1 b2
        go_enter Tryd.func7, Tryd.ntmps7
        go_wp2_with fail
        refine KH.out.mono ?_
        rintro _ w1 ⟨rfl, hb1⟩
        have HB1 := Lib.hid hb1
        have HE1 := Lib.hid (HE.out.below hb1)
        clear hb1
        go_wp2_with fail
        refine (K1.out _).mono ?_
        rintro _ w' ⟨rfl, rfl⟩
        go_wp2_with fail
        refine (K3.out _).mono ?_
        rintro _ w' ⟨rfl, rfl⟩
        go_wp2_with fail
        refine (K2.out _ HE1.out).mono ?_
        rintro _ w' ⟨rfl, rfl⟩
        go_wp2_with fail
        refine (K4.out _ HE1.out).mono ?_
        rintro _ w' ⟨rfl, rfl⟩
        go_wp2_with fail
        refine (K5.out _).mono ?_
        rintro _ w' ⟨rfl, rfl⟩
        go_wp2
        go_ret
        exact ⟨by simp, HB1.out⟩
      · go_enter Tryd.func7, Tryd.ntmps7
        go_wp2_with fail
        refine KH.out.mono ?_
        rintro _ w1 ⟨rfl, hb1⟩
        have HB1 := Lib.hid hb1
        have HE1 := Lib.hid (HE.out.below hb1)
        clear hb1
        go_wp2_with fail
        refine (K1.out _).mono ?_
        rintro _ w' ⟨rfl, rfl⟩
        go_wp2_with fail
        refine (K3.out _).mono ?_
        rintro _ w' ⟨rfl, rfl⟩
        go_wp2_with fail
        refine (K2.out _ HE1.out).mono ?_
        rintro _ w' ⟨rfl, rfl⟩
        go_wp2
        go_ret
        exact ⟨by simp, HB1.out⟩
    · have h28 : ¬ y + 28 ≤ 2099 := by
        intro h
        have := (B.out h).2.2
        omega
      go_enter Tryd.func7, Tryd.ntmps7
      go_wp2_with fail
      refine KH.out.mono ?_
      rintro _ w1 ⟨rfl, hb1⟩
      have HB1 := Lib.hid hb1
      have HE1 := Lib.hid (HE.out.below hb1)
      clear hb1
      go_wp2_with fail
      refine (K1.out _).mono ?_
      rintro _ w' ⟨rfl, rfl⟩
      go_wp2_with fail
      refine (K2.out _ HE1.out).mono ?_
      rintro _ w' ⟨rfl, rfl⟩
      go_wp2
      go_ret
      exact ⟨by simp, HB1.out⟩
  · obtain ⟨_, _, _, e4, e5, _⟩ := date_no hd
    have k1 : ∀ w, _ := fun w => week_is d 0 3 ⟨e5, e4⟩ w
    have K1 := Lib.hid k1
    clear k1 e4 e5
    have hd2 : d < 0 ∨ (0 ≤ d ∧ 36524 < d) := by omega
    clear hd
    rcases hd2 with h2 | ⟨h2, h3⟩
    all_goals
      go_enter Tryd.func7, Tryd.ntmps7
      go_wp2_with fail
      refine KH.out.mono ?_
      rintro _ w1 ⟨rfl, hb1⟩
      have HB1 := Lib.hid hb1
      clear hb1
      go_wp2_with fail
      refine (K1.out _).mono ?_
      rintro _ w' ⟨rfl, rfl⟩
      go_wp2
      go_ret
      exact ⟨by simp, HB1.out⟩
end Go.Proofs.YtopngioiboepfaaDoor
