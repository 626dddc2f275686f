/-
  The walk of the law on succession.
-/
import Derived.Test.YtopngioiboepfaaDoorCHead
import Derived.Test.YtopngioiboepfaaDoorCLawMath
namespace Go.Proofs.YtopngioiboepfaaDoor
open Go.RowKit Cal

theorem date_is (d y m t e : Int) (h : dtY d = y ∧ dtM d = m ∧ dtT d = t ∧ dtE d = e) (w : World) (hT : Tab w) : Calls Tryd.prog 13 #[.int .i64 d] w fun e' w' => e' = .returned (.tuple #[.int .i64 y, .int .i64 m, .int .i64 t, .int .i64 e]) ∧ w = w' := by
  obtain ⟨rfl, rfl, rfl, rfl⟩ := h; exact Date_any d w hT
theorem day_is (y m t x e : Int) (h : dyV y m t = x ∧ dyE y m t = e) (w : World) (hT : Tab w) : Calls Tryd.prog 15 #[.int .i64 y, .int .i64 m, .int .i64 t] w fun e' w' => e' = .returned (.tuple #[.int .i64 x, .int .i64 e]) ∧ w = w' := by
  obtain ⟨rfl, rfl⟩ := h; exact Day_any y m t w hT

set_option maxRecDepth 100000 in
set_option maxHeartbeats 4000000 in
theorem succ_law (d : Int) (w : World) (hE : Tab w) (d0 : -9223372036854775808 ≤ d) (d1 : d ≤ 9223372036854775807) :
    Calls Tryd.prog 5 #[.int .i64 d] w fun e w' => e = .returned (.bool true) ∧ Below w.heap.size w w' := by
  have KH := Lib.hid (head_any w hE)
  have HE := Lib.hid hE
  clear hE
  by_cases h0 : 0 ≤ d
  · by_cases h1 : d < 36524
    · obtain ⟨y, m, t, y', m', t', x, e, y0, y1, m0, m1, t0, t1, a, b, c, r⟩ := succ_ok h0 h1
      have k1 : ∀ w, Tab w → _ := fun w hT => date_is d y m t 0 a w hT
      have k2 : ∀ w, Tab w → _ := fun w hT => date_is (d + 1) y' m' t' 0 b w hT
      have k3 : ∀ w, Tab w → _ := fun w hT => day_is y m (t + 1) x e c w hT
      clear a b c
      rcases r with ⟨rfl, rfl, rfl, rfl⟩ | ⟨rfl, rfl, rfl, rfl⟩ | ⟨rfl, rfl, rfl, rfl, rfl⟩
      all_goals
        have K1 := Lib.hid k1
        have K2 := Lib.hid k2
        have K3 := Lib.hid k3
        clear k1 k2 k3
        go_enter Tryd.func5, Tryd.ntmps5
        go_wp2_with fail
        refine KH.out.mono ?_
        rintro _ w1 ⟨rfl, hb1⟩
        have HB1 := Lib.hid hb1
        have HE1 := Lib.hid (HE.out.below hb1)
        clear hb1
        go_wp2_with fail
        refine (K1.out _ HE1.out).mono ?_
        rintro _ w' ⟨rfl, rfl⟩
        go_wp2_with fail
        refine (K2.out _ HE1.out).mono ?_
        rintro _ w' ⟨rfl, rfl⟩
        go_wp2_with fail
        refine (K3.out _ HE1.out).mono ?_
        rintro _ w' ⟨rfl, rfl⟩
        go_wp2
        go_ret
        exact ⟨by simp, HB1.out⟩
    · go_enter Tryd.func5, Tryd.ntmps5
      go_wp2_with fail
      refine KH.out.mono ?_
      rintro _ w1 ⟨rfl, hb1⟩
      have HB1 := Lib.hid hb1
      clear hb1
      go_wp2
      go_ret
      exact ⟨rfl, HB1.out⟩
  · go_enter Tryd.func5, Tryd.ntmps5
    go_wp2_with fail
    refine KH.out.mono ?_
    rintro _ w1 ⟨rfl, hb1⟩
    have HB1 := Lib.hid hb1
    clear hb1
    go_wp2
    go_ret
    exact ⟨rfl, HB1.out⟩
end Go.Proofs.YtopngioiboepfaaDoor
