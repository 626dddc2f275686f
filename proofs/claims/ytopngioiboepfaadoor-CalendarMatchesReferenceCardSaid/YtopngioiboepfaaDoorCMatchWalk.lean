/-
  The walk of the law on the reference implementation.
-/
import Derived.Test.YtopngioiboepfaaDoorCRefE
import Derived.Test.YtopngioiboepfaaDoorCRefF
import Derived.Test.YtopngioiboepfaaDoorCMonthsWalk
namespace Go.Proofs.YtopngioiboepfaaDoor
open Go.RowKit Cal

set_option maxRecDepth 100000 in
set_option maxHeartbeats 8000000 in
theorem match_law (d y m t days how : Int) (l : List Int) (p : Option Addr) (b off cap len : Nat) (w : World) (hE : Tab w) (_d0 : -9223372036854775808 ≤ d) (_d1 : d ≤ 9223372036854775807) (_y0 : -9223372036854775808 ≤ y) (_y1 : y ≤ 9223372036854775807) (_m0 : -9223372036854775808 ≤ m) (_m1 : m ≤ 9223372036854775807) (_t0 : -9223372036854775808 ≤ t) (_t1 : t ≤ 9223372036854775807) (_e0 : -9223372036854775808 ≤ days) (_e1 : days ≤ 9223372036854775807) (_h0 : -9223372036854775808 ≤ how) (_h1 : how ≤ 9223372036854775807) (hS : Sl w p b off len l) :
    Calls Tryd.prog 3 #[.int .i64 d, .int .i64 y, .int .i64 m, .int .i64 t, .int .i64 days, .int .i64 how, .slice p len cap] w fun e w' => e = .returned (.bool true) ∧ Below w.heap.size w w' := by
  have KH := Lib.hid (head_any w hE)
  have HE := Lib.hid hE
  have HS := Lib.hid hS
  have KF := Lib.hid (few_is p cap len)
  clear hE hS
  cases hf : decide (len ≤ 150) with
  | false =>
    have HF := Lib.hid hf
    clear hf
    go_enter Tryd.func3, Tryd.ntmps3
    go_wp2_with fail
    refine KH.out.mono ?_
    rintro _ w1 ⟨rfl, hb1⟩
    have HB1 := Lib.hid hb1
    clear hb1
    go_wp2_with fail
    refine (KF.out false HF.out _).mono ?_
    rintro _ w' ⟨rfl, rfl⟩
    go_wp2
    go_ret
    exact ⟨rfl, HB1.out⟩
  | true =>
    have HF := Lib.hid hf
    clear hf
    have kA := fun w h => Date_any d w h
    have kA2 := fun w => rDate_any d w
    have kD := fun w h => Month_any d w h
    have kD2 := fun w => rMonth_any d w
    have kC := fun w => Weekday_any d w
    have kC2 := fun w => rWeekday_any d w
    generalize dtY d = va at kA kA2
    generalize dtM d = vb at kA kA2
    generalize dtT d = vc at kA kA2
    generalize moV d = vm at kD kD2
    generalize wdV d = vw at kC kC2
    generalize dtE d = ve at kA kA2 kD kD2 kC kC2
    have KA := Lib.hid kA
    have KA2 := Lib.hid kA2
    have KD := Lib.hid kD
    have KD2 := Lib.hid kD2
    have KC := Lib.hid kC
    have KC2 := Lib.hid kC2
    clear kA kA2 kD kD2 kC kC2
    have kB := fun w h => Day_any y m t w h
    have kB2 := fun w => rDay_any y m t w
    generalize dyV y m t = vd at kB kB2
    generalize dyE y m t = vf at kB kB2
    have KB := Lib.hid kB
    have KB2 := Lib.hid kB2
    clear kB kB2
    have kG := fun w h => Days_any m w h
    have kG2 := fun w => rDays_any m w
    generalize dsF m = vs at kG kG2
    generalize dsU m = vu at kG kG2
    generalize dsE m = vg at kG kG2
    have KG := Lib.hid kG
    have KG2 := Lib.hid kG2
    clear kG kG2
    have kI := fun w h => Working_any d l p b off cap len w h
    have kI2 := fun w h => rWorking_any d l p b off cap len w h
    generalize wkV d l = vx at kI kI2
    generalize wkE d l = vi at kI kI2
    have KI := Lib.hid kI
    have KI2 := Lib.hid kI2
    clear kI kI2
    have kJ := fun w h => Deadline_any d days how l p b off cap len w h
    have kJ2 := fun w h => rDeadline_any d days how l p b off cap len w h
    generalize dnV d days how l = vl at kJ kJ2
    generalize dnE d days how l = vj at kJ kJ2
    have KJ := Lib.hid kJ
    have KJ2 := Lib.hid kJ2
    clear kJ kJ2
    go_enter Tryd.func3, Tryd.ntmps3
    go_wp2_with fail
    refine KH.out.mono ?_
    rintro _ w1 ⟨rfl, hb1⟩
    have HB1 := Lib.hid hb1
    have HE1 := Lib.hid (HE.out.below hb1)
    have HS1 := Lib.hid (HS.out.below hb1)
    clear hb1
    go_wp2_with fail
    refine (KF.out true HF.out _).mono ?_
    rintro _ w' ⟨rfl, rfl⟩
    go_wp2_with fail
    refine (KA.out _ HE1.out).mono ?_
    rintro _ w' ⟨rfl, rfl⟩
    go_wp2_with fail
    refine (KA2.out _).mono ?_
    rintro _ w' ⟨rfl, rfl⟩
    go_wp2_with fail
    refine (KB.out _ HE1.out).mono ?_
    rintro _ w' ⟨rfl, rfl⟩
    go_wp2_with fail
    refine (KB2.out _).mono ?_
    rintro _ w' ⟨rfl, rfl⟩
    go_wp2_with fail
    refine (KC.out _).mono ?_
    rintro _ w' ⟨rfl, rfl⟩
    go_wp2_with fail
    refine (KC2.out _).mono ?_
    rintro _ w' ⟨rfl, rfl⟩
    go_wp2_with fail
    refine (KD.out _ HE1.out).mono ?_
    rintro _ w' ⟨rfl, rfl⟩
    go_wp2_with fail
    refine (KD2.out _).mono ?_
    rintro _ w' ⟨rfl, rfl⟩
    go_wp2_with fail
    refine (KG.out _ HE1.out).mono ?_
    rintro _ w2 ⟨rfl, hb2⟩
    have HB2 := Lib.hid (HB1.out.trans (hb2.mono HB1.out.size))
    have HS2 := Lib.hid (HS1.out.below hb2)
    clear hb2 HB1 HE1 HS1
    have S2 := Lib.hid (At2.new w2 (.int .i64 vs) (.int .i64 vu) 32)
    go_wp2_with fail
    refine (KG2.out _).mono ?_
    rintro _ w3 ⟨rfl, hb3⟩
    have S3 := S2.out.below hb3 (by simp)
    have hl3 : w2.heap.size < w3.heap.size := by have := hb3.size; simp at this; omega
    have HB3 := Lib.hid ((HB2.out.alloc HB2.out.size (.cells #[.int .i64 vs, .int .i64 vu] 32)).trans (hb3.mono (by have := HB2.out.size; simp; omega)))
    have HS3 := Lib.hid ((HS2.out.below ((Below.refl _ _).alloc (Nat.le_refl _) _)).below hb3)
    clear hb3 HB2 HS2 S2
    obtain ⟨s0, s1, s2, s3⟩ := S3
    go_wp2_with fail
    refine (KI.out _ (HS3.out.below ((Below.refl _ _).alloc (Nat.le_refl _) _))).mono ?_
    rintro _ w4 ⟨rfl, hq⟩
    have HB4 := Lib.hid (Below.drew3 (HB3.out.alloc HB3.out.size _) hq)
    have HS4 := Lib.hid ((HS3.out.below ((Below.refl _ _).alloc (Nat.le_refl _) _)).drew hq)
    clear hq HB3 HS3 s0 s1 s2 s3 hl3
    go_wp2_with fail
    refine (KI2.out _ HS4.out).mono ?_
    rintro _ w5 ⟨rfl, hq⟩
    have HB5 := Lib.hid (Below.drew3 HB4.out hq)
    have HS5 := Lib.hid (HS4.out.drew hq)
    clear hq HB4 HS4
    go_wp2_with fail
    refine (KJ.out _ HS5.out).mono ?_
    rintro _ w6 ⟨rfl, hq⟩
    have HB6 := Lib.hid (Below.drew3 HB5.out hq)
    have HS6 := Lib.hid (HS5.out.drew hq)
    clear hq HB5 HS5
    go_wp2_with fail
    refine (KJ2.out _ HS6.out).mono ?_
    rintro _ w7 ⟨rfl, hq⟩
    have HB7 := Lib.hid (Below.drew3 HB6.out hq)
    clear hq HB6 HS6
    go_wp2
    go_ret
    exact ⟨rfl, HB7.out⟩
end Go.Proofs.YtopngioiboepfaaDoor
