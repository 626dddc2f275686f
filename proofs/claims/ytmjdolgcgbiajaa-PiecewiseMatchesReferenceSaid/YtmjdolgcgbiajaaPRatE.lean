/-
  Contract of Compare, and of cmp.Compare at int.
-/
import Derived.Test.YtmjdolgcgbiajaaPRatD
namespace Go.Proofs.Ytmjdolgcgbiajaa
open Go.RowKit

/-- The sign of a comparison. -/
def cmp3 (x y : Int) : Int := if x < y then -1 else if x = y then 0 else 1
set_option maxHeartbeats 400000 in
theorem isnan_any (x : Int) (w : World) : Calls Try.prog 81 #[.int .i64 x] w fun e w' => e = .returned (.bool false) ∧ w' = w := by
  go_enter Try.func81, Try.ntmps81
  go_wp2
  go_ret
  exact ⟨by simp, rfl⟩
set_option maxHeartbeats 400000 in
theorem cmpInt_any (x y : Int) (w : World) : Calls Try.prog 80 #[.int .i64 x, .int .i64 y] w fun e w' => e = .returned (.int .i64 (cmp3 x y)) ∧ w' = w := by
  have H := Lib.hid (show cmp3 x y = if x < y then -1 else if x = y then 0 else 1 from rfl)
  by_cases h1 : x < y
  · go_enter Try.func80, Try.ntmps80
    go_wp2_with (go_at_call 81; refine (isnan_any _ _).mono ?_; rintro e w' ⟨rfl, rfl⟩)
    go_ret
    exact ⟨by rw [H.out, if_pos (by omega)]; rfl, rfl⟩
  by_cases h2 : y < x
  · go_enter Try.func80, Try.ntmps80
    go_wp2_with (go_at_call 81; refine (isnan_any _ _).mono ?_; rintro e w' ⟨rfl, rfl⟩)
    go_ret
    exact ⟨by rw [H.out, if_neg (by omega), if_neg (by omega)]; rfl, rfl⟩
  · go_enter Try.func80, Try.ntmps80
    go_wp2_with (go_at_call 81; refine (isnan_any _ _).mono ?_; rintro e w' ⟨rfl, rfl⟩)
    go_ret
    exact ⟨by rw [H.out, if_neg (by omega), if_pos (by omega)]; rfl, rfl⟩

/-- What Compare gives. -/
def cmpR (a b c d : Int) : Int × Int := if vld a b = true ∧ vld c d = true then (cmp3 (a * d) (c * b), 0) else (0, 1)

set_option maxRecDepth 100000 in
set_option maxHeartbeats 400000 in
theorem compare_any (a b c d : Int) (w : World)
    (a0 : -9223372036854775808 ≤ a) (a1 : a ≤ 9223372036854775807) (b0 : -9223372036854775808 ≤ b) (b1 : b ≤ 9223372036854775807)
    (c0 : -9223372036854775808 ≤ c) (c1 : c ≤ 9223372036854775807) (d0 : -9223372036854775808 ≤ d) (d1 : d ≤ 9223372036854775807) :
    Calls Try.prog 79 #[.agg #[.int .i64 a, .int .i64 b], .agg #[.int .i64 c, .int .i64 d]] w fun e w' =>
      e = .returned (.tuple #[.int .i64 (cmpR a b c d).1, .int .i64 (cmpR a b c d).2]) ∧ Below w.heap.size w w' := by
  cases h : vld a b
  · have e : cmpR a b c d = (0, 1) := by unfold cmpR; rw [if_neg (fun x => by rw [h] at x; cases x.1)]
    rw [e]
    go_enter Try.func79, Try.ntmps79
    go_wp2_with fail
    refine (valid_any _ _ _ (by omega) (by omega) (by omega) (by omega)).mono ?_
    rintro e w1 ⟨rfl, hb1⟩
    have HBX : Below w.heap.size w w1 := (((Below.refl _ _).alloc (Nat.le_refl _) _).alloc (by simp) _).trans (hb1.mono (by simp; omega))
    clear hb1
    go_wp2
    go_ret2
    exact ⟨rfl, HBX⟩
  cases k : vld c d
  · have e : cmpR a b c d = (0, 1) := by unfold cmpR; rw [if_neg (fun x => by rw [k] at x; cases x.2)]
    rw [e]
    go_enter Try.func79, Try.ntmps79
    go_wp2_with fail
    refine (valid_any _ _ _ (by omega) (by omega) (by omega) (by omega)).mono ?_
    rintro e w1 ⟨rfl, hb1⟩
    have hz1 := hb1.size
    simp only [World.size_alloc] at hz1
    have C1 : At2 w1 (w.heap.size + 1) (.int .i64 c) (.int .i64 d) := by
      have := (At2.new (w.alloc (.cells #[.int .i64 a, .int .i64 b] 24)) (.int .i64 c) (.int .i64 d) 24).below hb1 (by simp)
      simpa using this
    have HB1 : Below w.heap.size w w1 := (((Below.refl _ _).alloc (Nat.le_refl _) _).alloc (by simp) _).trans (hb1.mono (by simp; omega))
    clear hb1
    obtain ⟨p4, p5, p6, p7⟩ := C1
    go_wp2_with fail
    refine (valid_any _ _ _ (by omega) (by omega) (by omega) (by omega)).mono ?_
    rintro e w2 ⟨rfl, hb2⟩
    have HBX : Below w.heap.size w w2 := HB1.trans (hb2.mono (by omega))
    clear p4 p5 p6 p7 hb2 HB1
    go_wp2
    go_ret2
    exact ⟨rfl, HBX⟩
  · have e : cmpR a b c d = (cmp3 (a * d) (c * b), 0) := by unfold cmpR; rw [if_pos ⟨h, k⟩]
    rw [e]
    obtain ⟨v1, v2, v3, v4, _⟩ := (vld_iff a b).1 h
    obtain ⟨u1, u2, u3, u4, _⟩ := (vld_iff c d).1 k
    have x1 := mul_le v1 v2 (b := d) (by omega) u4
    have x2 := mul_le u1 u2 (b := b) (by omega) v4
    go_enter Try.func79, Try.ntmps79
    go_wp2_with fail
    refine (valid_any _ _ _ (by omega) (by omega) (by omega) (by omega)).mono ?_
    rintro e w1 ⟨rfl, hb1⟩
    have hz1 := hb1.size
    simp only [World.size_alloc] at hz1
    have A1 : At2 w1 w.heap.size (.int .i64 a) (.int .i64 b) := ((At2.new w _ _ _).alloc (by simp) _).below hb1 (by simp; omega)
    have C1 : At2 w1 (w.heap.size + 1) (.int .i64 c) (.int .i64 d) := by
      have := (At2.new (w.alloc (.cells #[.int .i64 a, .int .i64 b] 24)) (.int .i64 c) (.int .i64 d) 24).below hb1 (by simp)
      simpa using this
    have HB1 : Below w.heap.size w w1 := (((Below.refl _ _).alloc (Nat.le_refl _) _).alloc (by simp) _).trans (hb1.mono (by simp; omega))
    clear hb1
    obtain ⟨p0, p1, p2, p3⟩ := A1
    obtain ⟨p4, p5, p6, p7⟩ := C1
    go_wp2_with fail
    refine (valid_any _ _ _ (by omega) (by omega) (by omega) (by omega)).mono ?_
    rintro e w2 ⟨rfl, hb2⟩
    have A2 := (At2.mk p0 p1 p2 p3).below hb2 (by omega)
    have C2 := (At2.mk p4 p5 p6 p7).below hb2 (by omega)
    have HBX : Below w.heap.size w w2 := HB1.trans (hb2.mono (by omega))
    clear p0 p1 p2 p3 p4 p5 p6 p7 hb2 HB1
    obtain ⟨p0, p1, p2, p3⟩ := A2
    obtain ⟨p4, p5, p6, p7⟩ := C2
    go_wp2_with fail
    refine (cmpInt_any _ _ _).mono ?_
    rintro e w' ⟨rfl, rfl⟩
    go_wp2
    go_ret2
    exact ⟨rfl, HBX⟩
end Go.Proofs.Ytmjdolgcgbiajaa
