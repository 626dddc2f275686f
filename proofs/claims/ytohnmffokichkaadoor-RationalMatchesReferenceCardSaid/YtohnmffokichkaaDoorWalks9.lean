/-
  Contract of head: the fixed numbers.
-/
import Derived.Test.YtohnmffokichkaaDoorWalks8
namespace Go.Proofs.YtohnmffokichkaaDoor
open Go.RowKit

theorem hd_make (w : World) : Calls Tryd.prog 12 #[.int .i64 6, .int .i64 (-4)] w fun e w' => e = .returned (.tuple #[.agg #[.int .i64 (-3), .int .i64 2], .int .i64 0]) ∧ Below w.heap.size w w' := by
  have h := make_any 6 (-4) w (by omega) (by omega) (by omega) (by omega)
  rw [show mk 6 (-4) = (-3, 2, 0) by decide +kernel] at h
  exact h
theorem hd_add (w : World) : Calls Tryd.prog 14 #[.agg #[.int .i64 1, .int .i64 2], .agg #[.int .i64 1, .int .i64 3]] w fun e w' => e = .returned (.tuple #[.agg #[.int .i64 5, .int .i64 6], .int .i64 0]) ∧ Below w.heap.size w w' := by
  have h := add_any 1 2 1 3 w (by omega) (by omega) (by omega) (by omega) (by omega) (by omega) (by omega) (by omega)
  rw [show op2 1 2 1 3 (1 * 3 + 1 * 2) (2 * 3) = (5, 6, 0) by decide +kernel] at h
  exact h
theorem hd_floor (w : World) : Calls Tryd.prog 24 #[.agg #[.int .i64 (-3), .int .i64 2]] w fun e w' => e = .returned (.tuple #[.int .i64 (-2), .int .i64 0]) ∧ Below w.heap.size w w' := by
  have h := floor_any (-3) 2 w (by omega) (by omega) (by omega) (by omega)
  rw [show flr (-3) 2 = (-2, 0) by decide +kernel] at h
  exact h
theorem hd_text (w : World) (hE : Env w) : Calls Tryd.prog 26 #[.agg #[.int .i64 (-3), .int .i64 4]] w fun e w' => e = .returned (.tuple #[.string ⟨#[45, 51, 47, 52]⟩, .int .i64 0]) ∧ Below w.heap.size w w' := by
  have h := text_any (-3) 4 w hE (by omega) (by omega) (by omega) (by omega)
  have e1 : Lib.itoa (-3) = [45, 51] := by unfold Lib.itoa; rw [if_pos (by omega)]; simp [Lib.decDigits]
  have e2 : Lib.itoa 4 = [52] := by unfold Lib.itoa; rw [if_neg (by omega)]; simp [Lib.decDigits]
  rw [show texR (-3) 4 = ([45, 51, 47, 52], 0) by unfold texR; rw [if_pos (by decide +kernel)]; unfold txt; rw [if_neg (by omega), e1, e2]; rfl] at h
  exact h
theorem hd_parse (w : World) (hE : Env w) : Calls Tryd.prog 28 #[.string ⟨#[54, 47, 52]⟩] w fun e w' => e = .returned (.tuple #[.agg #[.int .i64 0, .int .i64 0], .int .i64 8]) ∧ Below w.heap.size w w' := by
  have h := parse_any ⟨#[54, 47, 52]⟩ w hE (by decide)
  have e1 : Lib.atoiAll [54] = .ok 6 := rfl
  have e2 : Lib.atoiAll [52] = .ok 4 := rfl
  have e3 : cutS [54, 47, 52] = ([54], [52], true) := by decide
  have e4 : fin ⟨#[54, 47, 52]⟩ 6 4 = (0, 0, 8) := fin_err (by unfold texR; rw [if_neg (by decide +kernel)]; decide)
  rw [show parR ⟨#[54, 47, 52]⟩ = (0, 0, 8) by unfold parR; simp only [e3, e1, e2, if_true]; exact e4] at h
  exact h
theorem hd_mul (w : World) : Calls Tryd.prog 18 #[.agg #[.int .i64 1000000000, .int .i64 1], .agg #[.int .i64 2, .int .i64 1]] w fun e w' => e = .returned (.tuple #[.agg #[.int .i64 0, .int .i64 0], .int .i64 3]) ∧ Below w.heap.size w w' := by
  have h := mul_any 1000000000 1 2 1 w (by omega) (by omega) (by omega) (by omega) (by omega) (by omega) (by omega) (by omega)
  rw [show op2 1000000000 1 2 1 (1000000000 * 2) (1 * 1) = (0, 0, 3) by decide +kernel] at h
  exact h
theorem hd_div (w : World) : Calls Tryd.prog 20 #[.agg #[.int .i64 1, .int .i64 2], .agg #[.int .i64 0, .int .i64 1]] w fun e w' => e = .returned (.tuple #[.agg #[.int .i64 0, .int .i64 0], .int .i64 7]) ∧ Below w.heap.size w w' := by
  have h := div_any 1 2 0 1 w (by omega) (by omega) (by omega) (by omega) (by omega) (by omega) (by omega) (by omega)
  rw [show op2 1 2 0 1 (1 * 1) (2 * 0) = (0, 0, 7) by decide +kernel] at h
  exact h
theorem hd_compare (w : World) : Calls Tryd.prog 22 #[.agg #[.int .i64 1, .int .i64 2], .agg #[.int .i64 1, .int .i64 3]] w fun e w' => e = .returned (.tuple #[.int .i64 1, .int .i64 0]) ∧ Below w.heap.size w w' := by
  have h := compare_any 1 2 1 3 w (by omega) (by omega) (by omega) (by omega) (by omega) (by omega) (by omega) (by omega)
  rw [show cmpR 1 2 1 3 = (1, 0) by decide +kernel] at h
  exact h
theorem hd_valid1 (w : World) : Calls Tryd.prog 10 #[.agg #[.int .i64 (-3), .int .i64 2]] w fun e w' => e = .returned (.bool true) ∧ Below w.heap.size w w' := by
  have h := valid_any (-3) 2 w (by omega) (by omega) (by omega) (by omega)
  rw [show vld (-3) 2 = true by decide +kernel] at h
  exact h
theorem hd_valid2 (w : World) : Calls Tryd.prog 10 #[.agg #[.int .i64 2, .int .i64 4]] w fun e w' => e = .returned (.bool false) ∧ Below w.heap.size w w' := by
  have h := valid_any 2 4 w (by omega) (by omega) (by omega) (by omega)
  rw [show vld 2 4 = false by decide +kernel] at h
  exact h

set_option maxRecDepth 100000 in
set_option maxHeartbeats 1000000 in
theorem head_any (w : World) (hE : Env w) : Calls Tryd.prog 9 #[] w fun e w' => e = .returned (.bool true) ∧ Below w.heap.size w w' := by
  have HE := Lib.hid hE
  clear hE
  go_enter Tryd.func9, Tryd.ntmps9
  go_wp2_with fail
  refine (hd_make _).mono ?_
  rintro e w1 ⟨rfl, hb1⟩
  have HB1 := hb1
  have hz1 := hb1.size
  clear hb1
  go_wp2_with fail
  refine (hd_add _).mono ?_
  rintro e w2 ⟨rfl, hb2⟩
  have hz2 := hb2.size
  simp only [World.size_alloc] at hz2
  have A2 := (At2.new w1 (.int .i64 (-3)) (.int .i64 2) 23).below hb2 (by simp)
  have HB2 : Below w.heap.size w w2 := (HB1.alloc hz1 _).trans (hb2.mono (by simp; omega))
  clear hb2 HB1
  obtain ⟨a0, a1, a2, a3⟩ := A2
  go_wp2_with fail
  refine (hd_floor _).mono ?_
  rintro e w3 ⟨rfl, hb3⟩
  have hz3 := hb3.size
  simp only [World.size_alloc] at hz3
  have A3 := ((At2.mk a0 a1 a2 a3).alloc (by omega) _).below hb3 (by simp; omega)
  have B3 := (At2.new w2 (.int .i64 5) (.int .i64 6) 23).below hb3 (by simp)
  have hq3 := HB2.size
  have HB3 : Below w.heap.size w w3 := (HB2.alloc hq3 _).trans (hb3.mono (by simp; omega))
  clear hb3 HB2 a0 a1 a2 a3
  obtain ⟨a0, a1, a2, a3⟩ := A3
  obtain ⟨b0, b1, b2, b3⟩ := B3
  go_wp2_with fail
  refine (hd_text _ (HE.out.below HB3)).mono ?_
  rintro e w4 ⟨rfl, hb4⟩
  have hz4 := hb4.size
  have A4 := (At2.mk a0 a1 a2 a3).below hb4 (by omega)
  have B4 := (At2.mk b0 b1 b2 b3).below hb4 (by omega)
  have hq4 := HB3.size
  have HB4 : Below w.heap.size w w4 := HB3.trans (hb4.mono hq4)
  clear hb4 HB3 a0 a1 a2 a3 b0 b1 b2 b3
  obtain ⟨a0, a1, a2, a3⟩ := A4
  obtain ⟨b0, b1, b2, b3⟩ := B4
  go_wp2_with fail
  refine (hd_parse _ (HE.out.below HB4)).mono ?_
  rintro e w5 ⟨rfl, hb5⟩
  have hz5 := hb5.size
  have A5 := (At2.mk a0 a1 a2 a3).below hb5 (by omega)
  have B5 := (At2.mk b0 b1 b2 b3).below hb5 (by omega)
  have hq5 := HB4.size
  have HB5 : Below w.heap.size w w5 := HB4.trans (hb5.mono hq5)
  clear hb5 HB4 a0 a1 a2 a3 b0 b1 b2 b3
  obtain ⟨a0, a1, a2, a3⟩ := A5
  obtain ⟨b0, b1, b2, b3⟩ := B5
  go_wp2_with fail
  refine (hd_mul _).mono ?_
  rintro e w6 ⟨rfl, hb6⟩
  have hz6 := hb6.size
  simp only [World.size_alloc] at hz6
  have A6 := ((At2.mk a0 a1 a2 a3).alloc (by omega) _).below hb6 (by simp; omega)
  have B6 := ((At2.mk b0 b1 b2 b3).alloc (by omega) _).below hb6 (by simp; omega)
  have hq6 := HB5.size
  have HB6 : Below w.heap.size w w6 := (HB5.alloc hq6 _).trans (hb6.mono (by simp; omega))
  clear hb6 HB5 a0 a1 a2 a3 b0 b1 b2 b3
  obtain ⟨a0, a1, a2, a3⟩ := A6
  obtain ⟨b0, b1, b2, b3⟩ := B6
  go_wp2_with fail
  refine (hd_div _).mono ?_
  rintro e w7 ⟨rfl, hb7⟩
  have hz7 := hb7.size
  simp only [World.size_alloc] at hz7
  have A7 := ((At2.mk a0 a1 a2 a3).alloc (by omega) _).below hb7 (by simp; omega)
  have B7 := ((At2.mk b0 b1 b2 b3).alloc (by omega) _).below hb7 (by simp; omega)
  have hq7 := HB6.size
  have HB7 : Below w.heap.size w w7 := (HB6.alloc hq7 _).trans (hb7.mono (by simp; omega))
  clear hb7 HB6 a0 a1 a2 a3 b0 b1 b2 b3
  obtain ⟨a0, a1, a2, a3⟩ := A7
  obtain ⟨b0, b1, b2, b3⟩ := B7
  go_wp2_with fail
  refine (hd_compare _).mono ?_
  rintro e w8 ⟨rfl, hb8⟩
  have hz8 := hb8.size
  simp only [World.size_alloc] at hz8
  have A8 := ((At2.mk a0 a1 a2 a3).alloc (by omega) _).below hb8 (by simp; omega)
  have B8 := ((At2.mk b0 b1 b2 b3).alloc (by omega) _).below hb8 (by simp; omega)
  have hq8 := HB7.size
  have HB8 : Below w.heap.size w w8 := (HB7.alloc hq8 _).trans (hb8.mono (by simp; omega))
  clear hb8 HB7 a0 a1 a2 a3 b0 b1 b2 b3
  obtain ⟨a0, a1, a2, a3⟩ := A8
  obtain ⟨b0, b1, b2, b3⟩ := B8
  go_wp2_with fail
  refine (hd_valid1 _).mono ?_
  rintro e w9 ⟨rfl, hb9⟩
  have hz9 := hb9.size
  have HB9 : Below w.heap.size w w9 := HB8.trans (hb9.mono (by omega))
  clear hb9 HB8 a0 a1 a2 a3 b0 b1 b2 b3
  go_wp2_with fail
  refine (hd_valid2 _).mono ?_
  rintro e w10 ⟨rfl, hb10⟩
  have HBX : Below w.heap.size w w10 := HB9.trans (hb10.mono (by omega))
  clear hb10 HB9
  go_wp2_with fail
  go_ret
  exact ⟨rfl, HBX⟩
end Go.Proofs.YtohnmffokichkaaDoor
