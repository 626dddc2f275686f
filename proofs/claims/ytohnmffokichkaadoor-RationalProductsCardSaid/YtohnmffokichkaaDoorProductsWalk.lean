/-
  The law on products, out of its walks.
-/
import Derived.Test.YtohnmffokichkaaDoorProductsA
import Derived.Test.YtohnmffokichkaaDoorProductsB
import Derived.Test.YtohnmffokichkaaDoorProductsC
import Derived.Test.YtohnmffokichkaaDoorProductsD
import Derived.Test.YtohnmffokichkaaDoorMath2
namespace Go.Proofs.YtohnmffokichkaaDoor
open Go.RowKit

theorem gives_mul (a b c d : Int) (p q e : Int) (h : op2 a b c d (a * c) (b * d) = (p, q, e))
    (a0 : -9223372036854775808 ≤ a) (a1 : a ≤ 9223372036854775807) (b0 : -9223372036854775808 ≤ b) (b1 : b ≤ 9223372036854775807)
    (c0 : -9223372036854775808 ≤ c) (c1 : c ≤ 9223372036854775807) (d0 : -9223372036854775808 ≤ d) (d1 : d ≤ 9223372036854775807) :
    Gives 18 #[.agg #[.int .i64 a, .int .i64 b], .agg #[.int .i64 c, .int .i64 d]] (.tuple #[.agg #[.int .i64 p, .int .i64 q], .int .i64 e]) :=
  gives_of (fun w => mul_any a b c d w a0 a1 b0 b1 c0 c1 d0 d1) (by rw [h])
theorem gives_div (a b c d : Int) (p q e : Int) (h : op2 a b c d (a * d) (b * c) = (p, q, e))
    (a0 : -9223372036854775808 ≤ a) (a1 : a ≤ 9223372036854775807) (b0 : -9223372036854775808 ≤ b) (b1 : b ≤ 9223372036854775807)
    (c0 : -9223372036854775808 ≤ c) (c1 : c ≤ 9223372036854775807) (d0 : -9223372036854775808 ≤ d) (d1 : d ≤ 9223372036854775807) :
    Gives 20 #[.agg #[.int .i64 a, .int .i64 b], .agg #[.int .i64 c, .int .i64 d]] (.tuple #[.agg #[.int .i64 p, .int .i64 q], .int .i64 e]) :=
  gives_of (fun w => div_any a b c d w a0 a1 b0 b1 c0 c1 d0 d1) (by rw [h])

theorem products_law (a b c d g h : Int) (w : World) (hE : Env w)
    (a0 : -9223372036854775808 ≤ a) (a1 : a ≤ 9223372036854775807) (b0 : -9223372036854775808 ≤ b) (b1 : b ≤ 9223372036854775807)
    (c0 : -9223372036854775808 ≤ c) (c1 : c ≤ 9223372036854775807) (d0 : -9223372036854775808 ≤ d) (d1 : d ≤ 9223372036854775807)
    (g0 : -9223372036854775808 ≤ g) (g1 : g ≤ 9223372036854775807) (h0 : -9223372036854775808 ≤ h) (h1 : h ≤ 9223372036854775807) :
    Calls Tryd.prog 6 #[.agg #[.int .i64 a, .int .i64 b], .agg #[.int .i64 c, .int .i64 d], .agg #[.int .i64 g, .int .i64 h]] w fun e w' =>
      e = .returned (.bool true) ∧ Below w.heap.size w w' := by
  cases hv : (vld a b && vld c d && vld g h)
  · exact products_law_no a b c d g h w hE hv a0 a1 b0 b1 c0 c1 d0 d1 g0 g1 h0 h1
  obtain ⟨hv12, hv3⟩ := Bool.and_eq_true_iff.1 hv
  obtain ⟨hv1, hv2⟩ := Bool.and_eq_true_iff.1 hv12
  have V1 := (vld_iff a b).1 hv1
  have V2 := (vld_iff c d).1 hv2
  have V3 := (vld_iff g h).1 hv3
  have comm : op2 c d a b (c * a) (d * b) = op2 a b c d (a * c) (b * d) := by
    have e1 : c * a = a * c := Int.mul_comm _ _
    have e2 : d * b = b * d := Int.mul_comm _ _
    unfold op2
    rw [e1, e2, hv1, hv2]
  obtain ⟨p1, p2, pe, hp⟩ : ∃ p1 p2 pe, op2 a b c d (a * c) (b * d) = (p1, p2, pe) := ⟨_, _, _, rfl⟩
  by_cases he : pe = 0
  · subst he
    have e1 := (op2_ok hp).2.2.2
    have VP := (Q.red_val (den_ne V1 V2) e1).1
    obtain ⟨x0, x1, x2, x3⟩ := val_range VP
    have k1 := gives_mul a b c d p1 p2 0 hp a0 a1 b0 b1 c0 c1 d0 d1
    have k2 := gives_mul c d a b p1 p2 0 (comm.trans hp) c0 c1 d0 d1 a0 a1 b0 b1
    obtain ⟨r1, r2, re, hr⟩ : ∃ r1 r2 re, op2 c d g h (c * g) (d * h) = (r1, r2, re) := ⟨_, _, _, rfl⟩
    have k4 := gives_mul c d g h r1 r2 re hr c0 c1 d0 d1 g0 g1 h0 h1
    obtain ⟨u1, u2, ue, hu⟩ : ∃ u1 u2 ue, op2 p1 p2 g h (p1 * g) (p2 * h) = (u1, u2, ue) := ⟨_, _, _, rfl⟩
    have k5 := gives_mul p1 p2 g h u1 u2 ue hu x0 x1 x2 x3 g0 g1 h0 h1
    have rr := op2_range c d g h (c * g) (d * h)
    rw [hr] at rr
    obtain ⟨y0, y1, y2, y3⟩ := rr
    obtain ⟨v1, v2, ve, hw⟩ : ∃ v1 v2 ve, op2 a b r1 r2 (a * r1) (b * r2) = (v1, v2, ve) := ⟨_, _, _, rfl⟩
    have k6 := gives_mul a b r1 r2 v1 v2 ve hw a0 a1 b0 b1 y0 y1 y2 y3
    obtain ⟨R1, R2, Re, hR⟩ : ∃ R1 R2 Re, op2 c d g h (c * h + g * d) (d * h) = (R1, R2, Re) := ⟨_, _, _, rfl⟩
    have k7 := gives_add c d g h R1 R2 Re hR c0 c1 d0 d1 g0 g1 h0 h1
    have RR := op2_range c d g h (c * h + g * d) (d * h)
    rw [hR] at RR
    obtain ⟨Y0, Y1, Y2, Y3⟩ := RR
    obtain ⟨U1, U2, Ue, hU⟩ : ∃ U1 U2 Ue, op2 a b R1 R2 (a * R1) (b * R2) = (U1, U2, Ue) := ⟨_, _, _, rfl⟩
    have k8 := gives_mul a b R1 R2 U1 U2 Ue hU a0 a1 b0 b1 Y0 Y1 Y2 Y3
    obtain ⟨s1, s2, se, hs⟩ : ∃ s1 s2 se, op2 a b g h (a * g) (b * h) = (s1, s2, se) := ⟨_, _, _, rfl⟩
    have k9 := gives_mul a b g h s1 s2 se hs a0 a1 b0 b1 g0 g1 h0 h1
    have SS := op2_range a b g h (a * g) (b * h)
    rw [hs] at SS
    obtain ⟨S0, S1, S2, S3⟩ := SS
    obtain ⟨V1', V2', Ve, hV⟩ : ∃ V1 V2 Ve, op2 p1 p2 s1 s2 (p1 * s2 + s1 * p2) (p2 * s2) = (V1, V2, Ve) := ⟨_, _, _, rfl⟩
    have k10 := gives_add p1 p2 s1 s2 V1' V2' Ve hV x0 x1 x2 x3 S0 S1 S2 S3
    by_cases hc : c = 0
    · subst hc
      have k3 := gives_div p1 p2 0 d 0 0 7 (by unfold op2; rw [if_pos ⟨(vld_iff _ _).2 VP, hv2⟩]; unfold mk; rw [if_pos (Int.mul_zero _)]) x0 x1 x2 x3 c0 c1 d0 d1
      by_cases hb1 : re = 0
      rotate_left
      · by_cases hb2 : Re = 0
        rotate_left
        · exact products_zhh a b d g h p1 p2 r1 r2 u1 u2 v1 v2 re ue ve R1 R2 U1 U2 s1 s2 V1' V2' Re Ue se Ve w hE hv a0 a1 b0 b1 d0 d1 g0 g1 h0 h1 k1 k2 k3 k4 k5 k6 k7 k8 k9 k10 hb1 hb2
        subst hb2
        by_cases hb2 : Ue = 0
        rotate_left
        · exact products_zhi a b d g h p1 p2 r1 r2 u1 u2 v1 v2 re ue ve R1 R2 U1 U2 s1 s2 V1' V2' Ue se Ve w hE hv a0 a1 b0 b1 d0 d1 g0 g1 h0 h1 k1 k2 k3 k4 k5 k6 k7 k8 k9 k10 hb1 hb2
        subst hb2
        by_cases hb2 : se = 0
        rotate_left
        · exact products_zhl a b d g h p1 p2 r1 r2 u1 u2 v1 v2 re ue ve R1 R2 U1 U2 s1 s2 V1' V2' se Ve w hE hv a0 a1 b0 b1 d0 d1 g0 g1 h0 h1 k1 k2 k3 k4 k5 k6 k7 k8 k9 k10 hb1 hb2
        subst hb2
        by_cases hb2 : Ve = 0
        rotate_left
        · exact products_zhk a b d g h p1 p2 r1 r2 u1 u2 v1 v2 re ue ve R1 R2 U1 U2 s1 s2 V1' V2' Ve w hE hv a0 a1 b0 b1 d0 d1 g0 g1 h0 h1 k1 k2 k3 k4 k5 k6 k7 k8 k9 k10 hb1 hb2
        subst hb2
        obtain ⟨f1, f2⟩ := Q.distrib V1 V2 V3 e1 (op2_ok hR).2.2.2 (op2_ok hU).2.2.2 (op2_ok hs).2.2.2 (op2_ok hV).2.2.2
        subst f1; subst f2
        exact products_zho a b d g h p1 p2 r1 r2 u1 u2 v1 v2 re ue ve R1 R2 U1 U2 s1 s2 w hE hv a0 a1 b0 b1 d0 d1 g0 g1 h0 h1 k1 k2 k3 k4 k5 k6 k7 k8 k9 k10 hb1
      subst hb1
      by_cases hb1 : ue = 0
      rotate_left
      · by_cases hb2 : Re = 0
        rotate_left
        · exact products_zih a b d g h p1 p2 r1 r2 u1 u2 v1 v2 ue ve R1 R2 U1 U2 s1 s2 V1' V2' Re Ue se Ve w hE hv a0 a1 b0 b1 d0 d1 g0 g1 h0 h1 k1 k2 k3 k4 k5 k6 k7 k8 k9 k10 hb1 hb2
        subst hb2
        by_cases hb2 : Ue = 0
        rotate_left
        · exact products_zii a b d g h p1 p2 r1 r2 u1 u2 v1 v2 ue ve R1 R2 U1 U2 s1 s2 V1' V2' Ue se Ve w hE hv a0 a1 b0 b1 d0 d1 g0 g1 h0 h1 k1 k2 k3 k4 k5 k6 k7 k8 k9 k10 hb1 hb2
        subst hb2
        by_cases hb2 : se = 0
        rotate_left
        · exact products_zil a b d g h p1 p2 r1 r2 u1 u2 v1 v2 ue ve R1 R2 U1 U2 s1 s2 V1' V2' se Ve w hE hv a0 a1 b0 b1 d0 d1 g0 g1 h0 h1 k1 k2 k3 k4 k5 k6 k7 k8 k9 k10 hb1 hb2
        subst hb2
        by_cases hb2 : Ve = 0
        rotate_left
        · exact products_zik a b d g h p1 p2 r1 r2 u1 u2 v1 v2 ue ve R1 R2 U1 U2 s1 s2 V1' V2' Ve w hE hv a0 a1 b0 b1 d0 d1 g0 g1 h0 h1 k1 k2 k3 k4 k5 k6 k7 k8 k9 k10 hb1 hb2
        subst hb2
        obtain ⟨f1, f2⟩ := Q.distrib V1 V2 V3 e1 (op2_ok hR).2.2.2 (op2_ok hU).2.2.2 (op2_ok hs).2.2.2 (op2_ok hV).2.2.2
        subst f1; subst f2
        exact products_zio a b d g h p1 p2 r1 r2 u1 u2 v1 v2 ue ve R1 R2 U1 U2 s1 s2 w hE hv a0 a1 b0 b1 d0 d1 g0 g1 h0 h1 k1 k2 k3 k4 k5 k6 k7 k8 k9 k10 hb1
      subst hb1
      by_cases hb1 : ve = 0
      rotate_left
      · by_cases hb2 : Re = 0
        rotate_left
        · exact products_zkh a b d g h p1 p2 r1 r2 u1 u2 v1 v2 ve R1 R2 U1 U2 s1 s2 V1' V2' Re Ue se Ve w hE hv a0 a1 b0 b1 d0 d1 g0 g1 h0 h1 k1 k2 k3 k4 k5 k6 k7 k8 k9 k10 hb1 hb2
        subst hb2
        by_cases hb2 : Ue = 0
        rotate_left
        · exact products_zki a b d g h p1 p2 r1 r2 u1 u2 v1 v2 ve R1 R2 U1 U2 s1 s2 V1' V2' Ue se Ve w hE hv a0 a1 b0 b1 d0 d1 g0 g1 h0 h1 k1 k2 k3 k4 k5 k6 k7 k8 k9 k10 hb1 hb2
        subst hb2
        by_cases hb2 : se = 0
        rotate_left
        · exact products_zkl a b d g h p1 p2 r1 r2 u1 u2 v1 v2 ve R1 R2 U1 U2 s1 s2 V1' V2' se Ve w hE hv a0 a1 b0 b1 d0 d1 g0 g1 h0 h1 k1 k2 k3 k4 k5 k6 k7 k8 k9 k10 hb1 hb2
        subst hb2
        by_cases hb2 : Ve = 0
        rotate_left
        · exact products_zkk a b d g h p1 p2 r1 r2 u1 u2 v1 v2 ve R1 R2 U1 U2 s1 s2 V1' V2' Ve w hE hv a0 a1 b0 b1 d0 d1 g0 g1 h0 h1 k1 k2 k3 k4 k5 k6 k7 k8 k9 k10 hb1 hb2
        subst hb2
        obtain ⟨f1, f2⟩ := Q.distrib V1 V2 V3 e1 (op2_ok hR).2.2.2 (op2_ok hU).2.2.2 (op2_ok hs).2.2.2 (op2_ok hV).2.2.2
        subst f1; subst f2
        exact products_zko a b d g h p1 p2 r1 r2 u1 u2 v1 v2 ve R1 R2 U1 U2 s1 s2 w hE hv a0 a1 b0 b1 d0 d1 g0 g1 h0 h1 k1 k2 k3 k4 k5 k6 k7 k8 k9 k10 hb1
      subst hb1
      obtain ⟨f3, f4⟩ := Q.mul_assoc' V1 V2 V3 e1 (op2_ok hr).2.2.2 (op2_ok hu).2.2.2 (op2_ok hw).2.2.2
      subst f3; subst f4
      by_cases hb2 : Re = 0
      rotate_left
      · exact products_zoh a b d g h p1 p2 r1 r2 u1 u2 R1 R2 U1 U2 s1 s2 V1' V2' Re Ue se Ve w hE hv a0 a1 b0 b1 d0 d1 g0 g1 h0 h1 k1 k2 k3 k4 k5 k6 k7 k8 k9 k10 hb2
      subst hb2
      by_cases hb2 : Ue = 0
      rotate_left
      · exact products_zoi a b d g h p1 p2 r1 r2 u1 u2 R1 R2 U1 U2 s1 s2 V1' V2' Ue se Ve w hE hv a0 a1 b0 b1 d0 d1 g0 g1 h0 h1 k1 k2 k3 k4 k5 k6 k7 k8 k9 k10 hb2
      subst hb2
      by_cases hb2 : se = 0
      rotate_left
      · exact products_zol a b d g h p1 p2 r1 r2 u1 u2 R1 R2 U1 U2 s1 s2 V1' V2' se Ve w hE hv a0 a1 b0 b1 d0 d1 g0 g1 h0 h1 k1 k2 k3 k4 k5 k6 k7 k8 k9 k10 hb2
      subst hb2
      by_cases hb2 : Ve = 0
      rotate_left
      · exact products_zok a b d g h p1 p2 r1 r2 u1 u2 R1 R2 U1 U2 s1 s2 V1' V2' Ve w hE hv a0 a1 b0 b1 d0 d1 g0 g1 h0 h1 k1 k2 k3 k4 k5 k6 k7 k8 k9 k10 hb2
      subst hb2
      obtain ⟨f1, f2⟩ := Q.distrib V1 V2 V3 e1 (op2_ok hR).2.2.2 (op2_ok hU).2.2.2 (op2_ok hs).2.2.2 (op2_ok hV).2.2.2
      subst f1; subst f2
      exact products_zoo a b d g h p1 p2 r1 r2 u1 u2 R1 R2 U1 U2 s1 s2 w hE hv a0 a1 b0 b1 d0 d1 g0 g1 h0 h1 k1 k2 k3 k4 k5 k6 k7 k8 k9 k10
    · have k3 := gives_div p1 p2 c d a b 0 (op2_of VP V2 (Int.mul_ne_zero (by have := VP.2.2.1; omega) hc) (Q.div_mul V1 V2 hc e1)) x0 x1 x2 x3 c0 c1 d0 d1
      by_cases hb1 : re = 0
      rotate_left
      · by_cases hb2 : Re = 0
        rotate_left
        · exact products_nhh a b c d g h p1 p2 r1 r2 u1 u2 v1 v2 re ue ve R1 R2 U1 U2 s1 s2 V1' V2' Re Ue se Ve w hE hv a0 a1 b0 b1 c0 c1 d0 d1 g0 g1 h0 h1 k1 k2 k3 k4 k5 k6 k7 k8 k9 k10 hc hb1 hb2
        subst hb2
        by_cases hb2 : Ue = 0
        rotate_left
        · exact products_nhi a b c d g h p1 p2 r1 r2 u1 u2 v1 v2 re ue ve R1 R2 U1 U2 s1 s2 V1' V2' Ue se Ve w hE hv a0 a1 b0 b1 c0 c1 d0 d1 g0 g1 h0 h1 k1 k2 k3 k4 k5 k6 k7 k8 k9 k10 hc hb1 hb2
        subst hb2
        by_cases hb2 : se = 0
        rotate_left
        · exact products_nhl a b c d g h p1 p2 r1 r2 u1 u2 v1 v2 re ue ve R1 R2 U1 U2 s1 s2 V1' V2' se Ve w hE hv a0 a1 b0 b1 c0 c1 d0 d1 g0 g1 h0 h1 k1 k2 k3 k4 k5 k6 k7 k8 k9 k10 hc hb1 hb2
        subst hb2
        by_cases hb2 : Ve = 0
        rotate_left
        · exact products_nhk a b c d g h p1 p2 r1 r2 u1 u2 v1 v2 re ue ve R1 R2 U1 U2 s1 s2 V1' V2' Ve w hE hv a0 a1 b0 b1 c0 c1 d0 d1 g0 g1 h0 h1 k1 k2 k3 k4 k5 k6 k7 k8 k9 k10 hc hb1 hb2
        subst hb2
        obtain ⟨f1, f2⟩ := Q.distrib V1 V2 V3 e1 (op2_ok hR).2.2.2 (op2_ok hU).2.2.2 (op2_ok hs).2.2.2 (op2_ok hV).2.2.2
        subst f1; subst f2
        exact products_nho a b c d g h p1 p2 r1 r2 u1 u2 v1 v2 re ue ve R1 R2 U1 U2 s1 s2 w hE hv a0 a1 b0 b1 c0 c1 d0 d1 g0 g1 h0 h1 k1 k2 k3 k4 k5 k6 k7 k8 k9 k10 hc hb1
      subst hb1
      by_cases hb1 : ue = 0
      rotate_left
      · by_cases hb2 : Re = 0
        rotate_left
        · exact products_nih a b c d g h p1 p2 r1 r2 u1 u2 v1 v2 ue ve R1 R2 U1 U2 s1 s2 V1' V2' Re Ue se Ve w hE hv a0 a1 b0 b1 c0 c1 d0 d1 g0 g1 h0 h1 k1 k2 k3 k4 k5 k6 k7 k8 k9 k10 hc hb1 hb2
        subst hb2
        by_cases hb2 : Ue = 0
        rotate_left
        · exact products_nii a b c d g h p1 p2 r1 r2 u1 u2 v1 v2 ue ve R1 R2 U1 U2 s1 s2 V1' V2' Ue se Ve w hE hv a0 a1 b0 b1 c0 c1 d0 d1 g0 g1 h0 h1 k1 k2 k3 k4 k5 k6 k7 k8 k9 k10 hc hb1 hb2
        subst hb2
        by_cases hb2 : se = 0
        rotate_left
        · exact products_nil a b c d g h p1 p2 r1 r2 u1 u2 v1 v2 ue ve R1 R2 U1 U2 s1 s2 V1' V2' se Ve w hE hv a0 a1 b0 b1 c0 c1 d0 d1 g0 g1 h0 h1 k1 k2 k3 k4 k5 k6 k7 k8 k9 k10 hc hb1 hb2
        subst hb2
        by_cases hb2 : Ve = 0
        rotate_left
        · exact products_nik a b c d g h p1 p2 r1 r2 u1 u2 v1 v2 ue ve R1 R2 U1 U2 s1 s2 V1' V2' Ve w hE hv a0 a1 b0 b1 c0 c1 d0 d1 g0 g1 h0 h1 k1 k2 k3 k4 k5 k6 k7 k8 k9 k10 hc hb1 hb2
        subst hb2
        obtain ⟨f1, f2⟩ := Q.distrib V1 V2 V3 e1 (op2_ok hR).2.2.2 (op2_ok hU).2.2.2 (op2_ok hs).2.2.2 (op2_ok hV).2.2.2
        subst f1; subst f2
        exact products_nio a b c d g h p1 p2 r1 r2 u1 u2 v1 v2 ue ve R1 R2 U1 U2 s1 s2 w hE hv a0 a1 b0 b1 c0 c1 d0 d1 g0 g1 h0 h1 k1 k2 k3 k4 k5 k6 k7 k8 k9 k10 hc hb1
      subst hb1
      by_cases hb1 : ve = 0
      rotate_left
      · by_cases hb2 : Re = 0
        rotate_left
        · exact products_nkh a b c d g h p1 p2 r1 r2 u1 u2 v1 v2 ve R1 R2 U1 U2 s1 s2 V1' V2' Re Ue se Ve w hE hv a0 a1 b0 b1 c0 c1 d0 d1 g0 g1 h0 h1 k1 k2 k3 k4 k5 k6 k7 k8 k9 k10 hc hb1 hb2
        subst hb2
        by_cases hb2 : Ue = 0
        rotate_left
        · exact products_nki a b c d g h p1 p2 r1 r2 u1 u2 v1 v2 ve R1 R2 U1 U2 s1 s2 V1' V2' Ue se Ve w hE hv a0 a1 b0 b1 c0 c1 d0 d1 g0 g1 h0 h1 k1 k2 k3 k4 k5 k6 k7 k8 k9 k10 hc hb1 hb2
        subst hb2
        by_cases hb2 : se = 0
        rotate_left
        · exact products_nkl a b c d g h p1 p2 r1 r2 u1 u2 v1 v2 ve R1 R2 U1 U2 s1 s2 V1' V2' se Ve w hE hv a0 a1 b0 b1 c0 c1 d0 d1 g0 g1 h0 h1 k1 k2 k3 k4 k5 k6 k7 k8 k9 k10 hc hb1 hb2
        subst hb2
        by_cases hb2 : Ve = 0
        rotate_left
        · exact products_nkk a b c d g h p1 p2 r1 r2 u1 u2 v1 v2 ve R1 R2 U1 U2 s1 s2 V1' V2' Ve w hE hv a0 a1 b0 b1 c0 c1 d0 d1 g0 g1 h0 h1 k1 k2 k3 k4 k5 k6 k7 k8 k9 k10 hc hb1 hb2
        subst hb2
        obtain ⟨f1, f2⟩ := Q.distrib V1 V2 V3 e1 (op2_ok hR).2.2.2 (op2_ok hU).2.2.2 (op2_ok hs).2.2.2 (op2_ok hV).2.2.2
        subst f1; subst f2
        exact products_nko a b c d g h p1 p2 r1 r2 u1 u2 v1 v2 ve R1 R2 U1 U2 s1 s2 w hE hv a0 a1 b0 b1 c0 c1 d0 d1 g0 g1 h0 h1 k1 k2 k3 k4 k5 k6 k7 k8 k9 k10 hc hb1
      subst hb1
      obtain ⟨f3, f4⟩ := Q.mul_assoc' V1 V2 V3 e1 (op2_ok hr).2.2.2 (op2_ok hu).2.2.2 (op2_ok hw).2.2.2
      subst f3; subst f4
      by_cases hb2 : Re = 0
      rotate_left
      · exact products_noh a b c d g h p1 p2 r1 r2 u1 u2 R1 R2 U1 U2 s1 s2 V1' V2' Re Ue se Ve w hE hv a0 a1 b0 b1 c0 c1 d0 d1 g0 g1 h0 h1 k1 k2 k3 k4 k5 k6 k7 k8 k9 k10 hc hb2
      subst hb2
      by_cases hb2 : Ue = 0
      rotate_left
      · exact products_noi a b c d g h p1 p2 r1 r2 u1 u2 R1 R2 U1 U2 s1 s2 V1' V2' Ue se Ve w hE hv a0 a1 b0 b1 c0 c1 d0 d1 g0 g1 h0 h1 k1 k2 k3 k4 k5 k6 k7 k8 k9 k10 hc hb2
      subst hb2
      by_cases hb2 : se = 0
      rotate_left
      · exact products_nol a b c d g h p1 p2 r1 r2 u1 u2 R1 R2 U1 U2 s1 s2 V1' V2' se Ve w hE hv a0 a1 b0 b1 c0 c1 d0 d1 g0 g1 h0 h1 k1 k2 k3 k4 k5 k6 k7 k8 k9 k10 hc hb2
      subst hb2
      by_cases hb2 : Ve = 0
      rotate_left
      · exact products_nok a b c d g h p1 p2 r1 r2 u1 u2 R1 R2 U1 U2 s1 s2 V1' V2' Ve w hE hv a0 a1 b0 b1 c0 c1 d0 d1 g0 g1 h0 h1 k1 k2 k3 k4 k5 k6 k7 k8 k9 k10 hc hb2
      subst hb2
      obtain ⟨f1, f2⟩ := Q.distrib V1 V2 V3 e1 (op2_ok hR).2.2.2 (op2_ok hU).2.2.2 (op2_ok hs).2.2.2 (op2_ok hV).2.2.2
      subst f1; subst f2
      exact products_noo a b c d g h p1 p2 r1 r2 u1 u2 R1 R2 U1 U2 s1 s2 w hE hv a0 a1 b0 b1 c0 c1 d0 d1 g0 g1 h0 h1 k1 k2 k3 k4 k5 k6 k7 k8 k9 k10 hc
  · have e3 := op2_err V1 V2 (den_ne V1 V2) (n := a * c) (by rw [hp]; exact he)
    exact products_law_err a b c d g h w hE hv a0 a1 b0 b1 c0 c1 d0 d1 g0 g1 h0 h1 (gives_mul a b c d 0 0 3 e3 a0 a1 b0 b1 c0 c1 d0 d1) (gives_mul c d a b 0 0 3 (comm.trans e3) c0 c1 d0 d1 a0 a1 b0 b1)
end Go.Proofs.YtohnmffokichkaaDoor
