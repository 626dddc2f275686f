/-
  Contracts of the reference implementation: Compare and Floor.
-/
import Derived.Test.YtohnmffokichkaaDoorRef2
namespace Go.Proofs.YtohnmffokichkaaDoor
open Go.RowKit

set_option maxRecDepth 100000 in
set_option maxHeartbeats 400000 in
theorem rcompare_any (a b c d : Int) (w : World)
    (a0 : -9223372036854775808 ≤ a) (a1 : a ≤ 9223372036854775807) (b0 : -9223372036854775808 ≤ b) (b1 : b ≤ 9223372036854775807)
    (c0 : -9223372036854775808 ≤ c) (c1 : c ≤ 9223372036854775807) (d0 : -9223372036854775808 ≤ d) (d1 : d ≤ 9223372036854775807) :
    Calls Tryd.prog 23 #[.agg #[.int .i64 a, .int .i64 b], .agg #[.int .i64 c, .int .i64 d]] w fun e w' =>
      e = .returned (.tuple #[.int .i64 (cmpR a b c d).1, .int .i64 (cmpR a b c d).2]) ∧ Below w.heap.size w w' := by
  cases h : (vld a b && vld c d)
  · have e : cmpR a b c d = (0, 1) := by unfold cmpR; rw [if_neg (fun x => by rw [x.1, x.2] at h; cases h)]
    rw [e]
    have HV := Lib.hid h
    clear h e
    go_enter Tryd.func23, Tryd.ntmps23
    go_wp2_with fail
    refine (both_any a b c d _ a0 a1 b0 b1 c0 c1 d0 d1).mono ?_
    rw [HV.out]
    rintro e w1 ⟨rfl, hb1⟩
    have HBX : Below w.heap.size w w1 := (((Below.refl _ _).alloc (Nat.le_refl _) _).alloc (by simp) _).trans (hb1.mono (by simp; omega))
    clear hb1
    go_wp2
    go_ret2
    exact ⟨rfl, HBX⟩
  · have e : cmpR a b c d = (cmp3 (a * d) (c * b), 0) := by unfold cmpR; rw [if_pos (Bool.and_eq_true_iff.1 h)]
    rw [e]
    have HV := Lib.hid h
    obtain ⟨hv1, hv2⟩ := Bool.and_eq_true_iff.1 h
    obtain ⟨v1, v2, v3, v4, _⟩ := (vld_iff a b).1 hv1
    obtain ⟨u1, u2, u3, u4, _⟩ := (vld_iff c d).1 hv2
    have x1 := mul_le v1 v2 (b := d) (by omega) u4
    have x2 := mul_le u1 u2 (b := b) (by omega) v4
    clear h e hv1 hv2
    have HC := Lib.hid (show (a * d < c * b → cmp3 (a * d) (c * b) = -1) ∧ (c * b < a * d → cmp3 (a * d) (c * b) = 1) ∧ (a * d = c * b → cmp3 (a * d) (c * b) = 0) by
      unfold cmp3
      refine ⟨fun h => by rw [if_pos h], fun h => by rw [if_neg (by omega), if_neg (by omega)], fun h => by rw [if_neg (by omega), if_pos h]⟩)
    go_enter Tryd.func23, Tryd.ntmps23
    go_wp2_with fail
    refine (both_any a b c d _ a0 a1 b0 b1 c0 c1 d0 d1).mono ?_
    rw [HV.out]
    rintro e w1 ⟨rfl, hb1⟩
    have hz1 := hb1.size
    simp only [World.size_alloc] at hz1
    have A1 : At2 w1 w.heap.size (.int .i64 a) (.int .i64 b) := ((At2.new w _ _ _).alloc (by simp) _).below hb1 (by simp; omega)
    have C1 : At2 w1 (w.heap.size + 1) (.int .i64 c) (.int .i64 d) := by
      have := (At2.new (w.alloc (.cells #[.int .i64 a, .int .i64 b] 23)) (.int .i64 c) (.int .i64 d) 23).below hb1 (by simp)
      simpa using this
    have HBX : Below w.heap.size w w1 := (((Below.refl _ _).alloc (Nat.le_refl _) _).alloc (by simp) _).trans (hb1.mono (by simp; omega))
    clear hb1
    obtain ⟨p0, p1, p2, p3⟩ := A1
    obtain ⟨p4, p5, p6, p7⟩ := C1
    rcases Int.lt_trichotomy (a * d) (c * b) with h | h | h
    · go_wp2
      go_ret2
      exact ⟨by rw [HC.out.1 h]; rfl, HBX⟩
    · have H0 := Lib.hid h
      have f1 : decide (a * d < c * b) = false := by simp; omega
      have f2 : decide (c * b < a * d) = false := by simp; omega
      clear h
      go_wp2
      go_ret2
      exact ⟨by rw [HC.out.2.2 H0.out]; rfl, HBX⟩
    · have f1 : decide (a * d < c * b) = false := by simp; omega
      go_wp2
      go_ret2
      exact ⟨by rw [HC.out.2.1 h]; rfl, HBX⟩

set_option maxRecDepth 100000 in
set_option maxHeartbeats 400000 in
theorem rfloor_any (a b : Int) (w : World)
    (a0 : -9223372036854775808 ≤ a) (a1 : a ≤ 9223372036854775807) (b0 : -9223372036854775808 ≤ b) (b1 : b ≤ 9223372036854775807) :
    Calls Tryd.prog 25 #[.agg #[.int .i64 a, .int .i64 b]] w fun e w' =>
      e = .returned (.tuple #[.int .i64 (flr a b).1, .int .i64 (flr a b).2]) ∧ Below w.heap.size w w' := by
  cases h : vld a b
  · have e : flr a b = (0, 1) := by unfold flr; rw [if_neg (fun x => by rw [h] at x; cases x)]
    rw [e]
    go_enter Tryd.func25, Tryd.ntmps25
    go_wp2_with fail
    refine (rvalid_any a b _ a0 a1 b0 b1).mono ?_
    rintro e w1 ⟨rfl, hb1⟩
    have HBX : Below w.heap.size w w1 := ((Below.refl _ _).alloc (Nat.le_refl _) _).trans (hb1.mono (by simp))
    clear hb1
    go_wp2
    go_ret2
    exact ⟨rfl, HBX⟩
  · have e : flr a b = (a / b, 0) := by unfold flr; rw [if_pos h]
    rw [e]
    obtain ⟨v1, v2, v3, v4, _⟩ := (vld_iff a b).1 h
    have e1 := Int.mul_tdiv_add_tmod a b
    have l1 := Int.tmod_lt_of_pos a (show 0 < b by omega)
    have l2 : -b < a.tmod b := by
      have h1 := Int.tmod_lt_of_pos (-a) (show 0 < b by omega)
      rw [Int.neg_tmod] at h1; omega
    have e2 : b * a.tdiv b = a.tdiv b * b := Int.mul_comm _ _
    have y1 : -2000000000 ≤ a.tdiv b * b := by omega
    have y2 : a.tdiv b * b ≤ 2000000000 := by omega
    have HT := Lib.hid (show (a < a.tdiv b * b → a.tmod b < 0) ∧ (a.tdiv b * b ≤ a → 0 ≤ a.tmod b) by omega)
    clear e e1 e2 l1 l2
    go_enter Tryd.func25, Tryd.ntmps25
    go_wp2_with fail
    refine (rvalid_any a b _ a0 a1 b0 b1).mono ?_
    rintro e w1 ⟨rfl, hb1⟩
    have A1 : At2 w1 w.heap.size (.int .i64 a) (.int .i64 b) := (At2.new w _ _ _).below hb1 (by simp)
    have HBX : Below w.heap.size w w1 := ((Below.refl _ _).alloc (Nat.le_refl _) _).trans (hb1.mono (by simp))
    clear hb1
    obtain ⟨p0, p1, p2, p3⟩ := A1
    by_cases hx : a < a.tdiv b * b
    · have hr := HT.out.1 hx
      have HR := Lib.hid (floor_neg v1 v2 v3 v4 hr)
      clear hr
      go_wp2
      go_ret2
      exact ⟨by rw [← HR.out]; rfl, HBX⟩
    · have hr := HT.out.2 (by omega)
      have HR := Lib.hid (floor_pos v3 hr)
      clear hr
      go_wp2
      go_ret2
      exact ⟨by rw [← HR.out]; rfl, HBX⟩
end Go.Proofs.YtohnmffokichkaaDoor
