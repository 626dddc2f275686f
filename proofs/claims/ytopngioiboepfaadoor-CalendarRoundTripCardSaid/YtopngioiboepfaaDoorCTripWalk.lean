/-
  The walk of the law on round trips.
-/
import Derived.Test.YtopngioiboepfaaDoorCSuccWalk
namespace Go.Proofs.YtopngioiboepfaaDoor
open Go.RowKit Cal

set_option maxRecDepth 100000 in
set_option maxHeartbeats 4000000 in
theorem trip_law (d y m t : Int) (w : World) (hE : Tab w) (d0 : -9223372036854775808 ≤ d) (d1 : d ≤ 9223372036854775807) (_y0 : -9223372036854775808 ≤ y) (_y1 : y ≤ 9223372036854775807) (_m0 : -9223372036854775808 ≤ m) (_m1 : m ≤ 9223372036854775807) (_t0 : -9223372036854775808 ≤ t) (_t1 : t ≤ 9223372036854775807) :
    Calls Tryd.prog 4 #[.int .i64 d, .int .i64 y, .int .i64 m, .int .i64 t] w fun e w' => e = .returned (.bool true) ∧ Below w.heap.size w w' := by
  have KH := Lib.hid (head_any w hE)
  have HE := Lib.hid hE
  clear hE
  by_cases hd : 0 ≤ d ∧ d ≤ 36524
  · obtain ⟨h0, h1⟩ := hd
    obtain ⟨e1, e2, e3⟩ := trip_ok h0 h1
    obtain ⟨a, ha⟩ : ∃ a, a = dtY d := ⟨_, rfl⟩
    obtain ⟨b, hb⟩ : ∃ b, b = dtM d := ⟨_, rfl⟩
    obtain ⟨c, hc⟩ : ∃ c, c = dtT d := ⟨_, rfl⟩
    have k1 : ∀ w, Tab w → _ := fun w hT => date_is d a b c 0 ⟨ha.symm, hb.symm, hc.symm, e3⟩ w hT
    rw [← ha, ← hb, ← hc] at e1 e2
    have k2 : ∀ w, Tab w → _ := fun w hT => day_is a b c d 0 ⟨e1, e2⟩ w hT
    have K1 := Lib.hid k1
    have K2 := Lib.hid k2
    clear k1 k2 e1 e2 e3 ha hb hc
    by_cases h : isT y m t = true
    · obtain ⟨e1, e2, e3, e4, e5⟩ := trip_back h
      obtain ⟨x, hx⟩ : ∃ x, x = dyV y m t := ⟨_, rfl⟩
      rw [← hx] at e2 e3 e4 e5
      have k3 : ∀ w, Tab w → _ := fun w hT => day_is y m t x 0 ⟨hx.symm, e1⟩ w hT
      have k4 : ∀ w, Tab w → _ := fun w hT => date_is x y m t 0 ⟨e2, e3, e4, e5⟩ w hT
      have K3 := Lib.hid k3
      have K4 := Lib.hid k4
      clear k3 k4 e1 e2 e3 e4 e5 hx h
      go_enter Tryd.func4, Tryd.ntmps4
      go_wp2_with fail
      refine KH.out.mono ?_
      rintro _ w1 ⟨rfl, hb1⟩
      have HB1 := Lib.hid hb1
      have HE1 := Lib.hid (HE.out.below hb1)
      clear hb1
      go_wp2_with fail
      refine (K1.out _ HE1.out).mono ?_
      rintro _ w' ⟨rfl, rfl⟩
      go_wp2_with fail
      refine (K2.out _ HE1.out).mono ?_
      rintro _ w' ⟨rfl, rfl⟩
      go_wp2_with fail
      refine (K3.out _ HE1.out).mono ?_
      rintro _ w' ⟨rfl, rfl⟩
      go_wp2_with fail
      refine (K4.out _ HE1.out).mono ?_
      rintro _ w' ⟨rfl, rfl⟩
      go_wp2
      go_ret
      exact ⟨by simp, HB1.out⟩
    · have k3 : ∀ w, Tab w → _ := fun w hT => day_is y m t 0 3 (day_no h) w hT
      have K3 := Lib.hid k3
      clear k3 h
      go_enter Tryd.func4, Tryd.ntmps4
      go_wp2_with fail
      refine KH.out.mono ?_
      rintro _ w1 ⟨rfl, hb1⟩
      have HB1 := Lib.hid hb1
      have HE1 := Lib.hid (HE.out.below hb1)
      clear hb1
      go_wp2_with fail
      refine (K1.out _ HE1.out).mono ?_
      rintro _ w' ⟨rfl, rfl⟩
      go_wp2_with fail
      refine (K2.out _ HE1.out).mono ?_
      rintro _ w' ⟨rfl, rfl⟩
      go_wp2_with fail
      refine (K3.out _ HE1.out).mono ?_
      rintro _ w' ⟨rfl, rfl⟩
      go_wp2
      go_ret
      exact ⟨by simp, HB1.out⟩
  · obtain ⟨e1, e2, e3, e4, _, _⟩ := date_no hd
    have k1 : ∀ w, Tab w → _ := fun w hT => date_is d 0 0 0 3 ⟨e1, e2, e3, e4⟩ w hT
    have K1 := Lib.hid k1
    clear k1 e1 e2 e3 e4
    have hd2 : d < 0 ∨ (0 ≤ d ∧ 36524 < d) := by omega
    clear hd
    by_cases h : isT y m t = true
    · obtain ⟨e1, e2, e3, e4, e5⟩ := trip_back h
      obtain ⟨x, hx⟩ : ∃ x, x = dyV y m t := ⟨_, rfl⟩
      rw [← hx] at e2 e3 e4 e5
      have k3 : ∀ w, Tab w → _ := fun w hT => day_is y m t x 0 ⟨hx.symm, e1⟩ w hT
      have k4 : ∀ w, Tab w → _ := fun w hT => date_is x y m t 0 ⟨e2, e3, e4, e5⟩ w hT
      have K3 := Lib.hid k3
      have K4 := Lib.hid k4
      clear k3 k4 e1 e2 e3 e4 e5 hx h
      rcases hd2 with h2 | ⟨h2, h3⟩
      all_goals
        go_enter Tryd.func4, Tryd.ntmps4
        go_wp2_with fail
        refine KH.out.mono ?_
        rintro _ w1 ⟨rfl, hb1⟩
        have HB1 := Lib.hid hb1
        have HE1 := Lib.hid (HE.out.below hb1)
        clear hb1
        go_wp2_with fail
        refine (K1.out _ HE1.out).mono ?_
        rintro _ w' ⟨rfl, rfl⟩
        go_wp2_with fail
        refine (K3.out _ HE1.out).mono ?_
        rintro _ w' ⟨rfl, rfl⟩
        go_wp2_with fail
        refine (K4.out _ HE1.out).mono ?_
        rintro _ w' ⟨rfl, rfl⟩
        go_wp2
        go_ret
        exact ⟨by simp, HB1.out⟩
    · have k3 : ∀ w, Tab w → _ := fun w hT => day_is y m t 0 3 (day_no h) w hT
      have K3 := Lib.hid k3
      clear k3 h
      rcases hd2 with h2 | ⟨h2, h3⟩
      all_goals
        go_enter Tryd.func4, Tryd.ntmps4
        go_wp2_with fail
        refine KH.out.mono ?_
        rintro _ w1 ⟨rfl, hb1⟩
        have HB1 := Lib.hid hb1
        have HE1 := Lib.hid (HE.out.below hb1)
        clear hb1
        go_wp2_with fail
        refine (K1.out _ HE1.out).mono ?_
        rintro _ w' ⟨rfl, rfl⟩
        go_wp2_with fail
        refine (K3.out _ HE1.out).mono ?_
        rintro _ w' ⟨rfl, rfl⟩
        go_wp2
        go_ret
        exact ⟨by simp, HB1.out⟩
end Go.Proofs.YtopngioiboepfaaDoor
