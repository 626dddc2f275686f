/-
  Contracts of the difference of two fractions, and of Sub.
-/
import Derived.Test.YtohnmffokichkaaDoorWalks4
namespace Go.Proofs.YtohnmffokichkaaDoor
open Go.RowKit

theorem minus_any (a b c d : Int) (w : World) :
    Calls Tryd.prog 41 #[.agg #[.int .i64 a, .int .i64 b], .agg #[.int .i64 c, .int .i64 d]] w fun e w' =>
      e = .returned (.agg #[.int .i64 (wrap64 (wrap64 (a * d) - wrap64 (c * b))), .int .i64 (wrap64 (b * d))]) ∧ Below w.heap.size w w' := by
  go_enter Tryd.func41, Tryd.ntmps41
  go_wp2
  refine bodyPost_ret (v := .agg #[.int .i64 (wrap64 (wrap64 (a * d) - wrap64 (c * b))), .int .i64 (wrap64 (b * d))]) (by simp [results, Tryd.results41, go_sem]) rfl ⟨rfl, ?_⟩
  repeat' (first | exact Below.refl _ _ | refine Below.setCell ?_ (by first | (simp; done) | (simp; omega)) _ | refine below_drewN ?_ _ | refine Below.alloc ?_ (by first | (simp; done) | (simp; omega)) _)

theorem minus_does {a b c d : Int} (h : Q.Val a b) (k : Q.Val c d) : Does 41 a b c d (a * d - c * b) (b * d) := by
  obtain ⟨h1, h2, h3, h4, _⟩ := h
  obtain ⟨k1, k2, k3, k4, _⟩ := k
  intro w
  have e := minus_any a b c d w
  have x := mul_le h1 h2 (b := d) (by omega) k4
  have y := mul_le k1 k2 (b := b) (by omega) h4
  rw [mul_wrap h1 h2 (b := d) (by omega) k4, mul_wrap k1 k2 (b := b) (by omega) h4, mul_wrap (a := b) (b := d) (by omega) h4 (by omega) k4, IntWalk.wrap64_in _ ⟨by omega, by omega⟩] at e
  exact e
theorem minus_bounds {a b c d : Int} (h : Q.Val a b) (k : Q.Val c d) : -9223372036854775808 ≤ a * d - c * b ∧ a * d - c * b ≤ 9223372036854775807 ∧ -9223372036854775808 ≤ b * d ∧ b * d ≤ 9223372036854775807 := by
  obtain ⟨h1, h2, h3, h4, _⟩ := h
  obtain ⟨k1, k2, k3, k4, _⟩ := k
  have x := mul_le h1 h2 (b := d) (by omega) k4
  have y := mul_le k1 k2 (b := b) (by omega) h4
  have z := mul_le (a := b) (b := d) (by omega) h4 (by omega) k4
  omega
theorem enter_minus (args : Array Value) (w : World) : (callFunc 41 args).run Tryd.prog w = .ok (.enter 41 args) w := by kernel_rfl
set_option maxRecDepth 100000 in
set_option maxHeartbeats 400000 in
theorem sub_any (a b c d : Int) (w : World)
    (a0 : -9223372036854775808 ≤ a) (a1 : a ≤ 9223372036854775807) (b0 : -9223372036854775808 ≤ b) (b1 : b ≤ 9223372036854775807)
    (c0 : -9223372036854775808 ≤ c) (c1 : c ≤ 9223372036854775807) (d0 : -9223372036854775808 ≤ d) (d1 : d ≤ 9223372036854775807) :
    Calls Tryd.prog 16 #[.agg #[.int .i64 a, .int .i64 b], .agg #[.int .i64 c, .int .i64 d]] w fun e w' =>
      e = .returned (.tuple #[.agg #[.int .i64 (op2 a b c d (a * d - c * b) (b * d)).1, .int .i64 (op2 a b c d (a * d - c * b) (b * d)).2.1], .int .i64 (op2 a b c d (a * d - c * b) (b * d)).2.2]) ∧ Below w.heap.size w w' := by
  have hF : ∀ w, Calls Tryd.prog 38 #[.agg #[.int .i64 a, .int .i64 b], .agg #[.int .i64 c, .int .i64 d], .func (.func 41) #[] #[]] w fun e w' =>
      e = .returned (.tuple #[.agg #[.int .i64 (op2 a b c d (a * d - c * b) (b * d)).1, .int .i64 (op2 a b c d (a * d - c * b) (b * d)).2.1], .int .i64 (op2 a b c d (a * d - c * b) (b * d)).2.2]) ∧ Below w.heap.size w w' := fun w =>
    operate_any _ a b c d _ _ w (fun h k => ⟨minus_does h k, minus_bounds h k⟩) enter_minus a0 a1 b0 b1 c0 c1 d0 d1
  generalize op2 a b c d (a * d - c * b) (b * d) = r at hF ⊢
  have HF := Lib.hid hF
  clear hF
  go_enter Tryd.func16, Tryd.ntmps16
  go_wp2_with fail
  refine (HF.out _).mono ?_
  rintro e w1 ⟨rfl, hb1⟩
  have hz1 := hb1.size
  simp only [World.size_alloc] at hz1
  have R1 : At2 w1 (w.heap.size + 1 + 1) (.int .i64 0) (.int .i64 0) := by
    have := (At2.new ((w.alloc (.cells #[.int .i64 a, .int .i64 b] 23)).alloc (.cells #[.int .i64 c, .int .i64 d] 23)) (.int .i64 0) (.int .i64 0) 23).below hb1 (by simp)
    simpa using this
  have HBX : Below w.heap.size w w1 := ((((Below.refl _ _).alloc (Nat.le_refl _) _).alloc (by simp) _).alloc (by simp; omega) _).trans (hb1.mono (by simp; omega))
  clear hb1
  obtain ⟨p8, p9, p10, p11⟩ := R1
  go_wp2
  refine bodyPost_ret (v := .tuple #[.agg #[.int .i64 r.1, .int .i64 r.2.1], .int .i64 r.2.2]) (by simp [results, Tryd.results16, go_sem, p8, p9]) rfl ⟨rfl, ?_⟩
  repeat' (first | exact HBX | refine Below.setCell ?_ (by first | (simp; done) | (simp; omega)) _ | refine below_drewN ?_ _ | refine Below.alloc ?_ (by first | (simp; done) | (simp; omega)) _)

end Go.Proofs.YtohnmffokichkaaDoor
