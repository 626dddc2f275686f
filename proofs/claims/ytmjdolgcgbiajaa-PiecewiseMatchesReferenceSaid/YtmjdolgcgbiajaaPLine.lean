/-
  Contracts of lines: quotients, values, slopes, comparing, the line of a piece, sums of lines.
-/
import Derived.Test.YtmjdolgcgbiajaaPKit
import Derived.RegionTactic
import Derived.BigRegion
namespace Go.Proofs.Ytmjdolgcgbiajaa
open Go.RowKit Pw

theorem quot_make (n d : Int) (w : World) (d0 : 1 ≤ d) (d1 : d ≤ 1000000000) : Calls Try.prog 61 #[.int .i64 (n.tmod d), .int .i64 d] w fun e w' =>
      e = .returned (.tuple #[.agg #[.int .i64 (qN n d), .int .i64 (qD n d)], .int .i64 0]) ∧ RowKit.Below w.heap.size w w' := by
  have h := tmod_bd n (d := d) (by omega)
  have k := makeF (n.tmod d) d w (by omega) (by omega) (by omega) (by omega)
  have ok : okR (fr (n.tmod d) d) = true := qR_ok n (by omega) d1
  unfold mkN mkD mkE at k
  rw [ok] at k
  exact k

/-- A quotient, as a value of the program. -/
def qV (n d : Int) : Value := .agg #[.int .i64 (qW n d), .int .i64 (qN n d), .int .i64 (qD n d)]

set_option maxRecDepth 100000 in
set_option maxHeartbeats 400000 in
theorem quotient_any (n d : Int) (w : World) (d0 : 1 ≤ d) (d1 : d ≤ 1000000000) (n0 : -9223372036854775808 ≤ n) (n1 : n ≤ 9223372036854775807) :
    Calls Try.prog 60 #[.int .i64 n, .int .i64 d] w fun e w' => e = .returned (.agg #[.int .i64 (qW n d), .int .i64 (qN n d), .int .i64 (qD n d)]) ∧ RowKit.Below w.heap.size w w' := by
  have K := Lib.hid (fun w => quot_make n d w d0 d1)
  have hz : (d == 0) = false := by simp; omega
  go_enter Try.func60, Try.ntmps60
  go_wp2_with fail
  refine (K.out _).mono ?_
  rintro _ w1 ⟨rfl, hb⟩
  have hz1 : w.heap.size < w1.heap.size := by have := hb.size; simp at this; omega
  have HB := Lib.hid (((Below.refl _ w).alloc (Nat.le_refl _) (.cells #[.int .i64 0, .int .i64 0, .int .i64 0] 54)).trans (hb.mono (by simp)))
  obtain ⟨c0, c1, c2, f0, f1, f2⟩ := (At3.new w (.int .i64 0) (.int .i64 0) (.int .i64 0) 54).below hb (by simp)
  clear hb
  go_wp2_with fail
  go_region
  go_wp2
  exact bodyPost_ret (v := .agg #[.int .i64 (n.tdiv d), .int .i64 (qN n d), .int .i64 (qD n d)]) (by simp [results, Try.results60, go_sem, hz1, c0, c1, c2]) rfl ⟨rfl, (by repeat' (first | (with_reducible exact HB.out) | (with_reducible refine Below.setCell ?_ ?_ _) | (with_reducible refine Below.alloc ?_ ?_ _) | (with_reducible refine Below.drew ?_) | (with_reducible refine below_drewN ?_ _) | (with_reducible exact Below.refl _ _) | omega | (simp; done) | (simp; omega)))⟩

set_option maxRecDepth 100000 in
set_option maxHeartbeats 400000 in
theorem slope_any (b r d : Int) (w : World) (d0 : 1 ≤ d) (d1 : d ≤ 1000000000) (n0 : -9223372036854775808 ≤ r) (n1 : r ≤ 9223372036854775807) :
    Calls Try.prog 70 #[.agg #[.int .i64 b, .int .i64 r, .int .i64 d]] w fun e w' => e = .returned (.agg #[.int .i64 (qW r d), .int .i64 (qN r d), .int .i64 (qD r d)]) ∧ RowKit.Below w.heap.size w w' := by
  have K := Lib.hid (fun w => quotient_any r d w d0 d1 n0 n1)
  go_enter Try.func70, Try.ntmps70
  go_wp2_with fail
  refine (K.out _).mono ?_
  rintro _ w1 ⟨rfl, hb⟩
  have hz1 : w.heap.size + 1 < w1.heap.size := by have := hb.size; simp at this; omega
  have HB := Lib.hid ((((Below.refl _ w).alloc (Nat.le_refl _) (.cells #[.int .i64 b, .int .i64 r, .int .i64 d] 56)).alloc (by simp) (.cells #[.int .i64 0, .int .i64 0, .int .i64 0] 54)).trans (hb.mono (by simp; omega)))
  obtain ⟨c0, c1, c2, f0, f1, f2⟩ := (At3.new (w.alloc (.cells #[.int .i64 b, .int .i64 r, .int .i64 d] 56)) (.int .i64 0) (.int .i64 0) (.int .i64 0) 54).below hb (by simp)
  simp only [World.size_alloc] at c0 c1 c2 f0 f1 f2
  clear hb
  go_wp2_with fail
  exact bodyPost_ret (v := .agg #[.int .i64 (qW r d), .int .i64 (qN r d), .int .i64 (qD r d)]) (by simp [results, Try.results70, go_sem, c0, c1, c2]) rfl ⟨rfl, (by repeat' (first | (with_reducible exact HB.out) | (with_reducible refine Below.setCell ?_ ?_ _) | (with_reducible refine Below.alloc ?_ ?_ _) | (with_reducible refine Below.drew ?_) | (with_reducible refine below_drewN ?_ _) | (with_reducible exact Below.refl _ _) | omega | (simp; done) | (simp; omega)))⟩

set_option maxRecDepth 100000 in
set_option maxHeartbeats 400000 in
theorem at_any (b r d x : Int) (w : World) (d0 : 1 ≤ d) (d1 : d ≤ 1000000000) (m0 : -9223372036854775808 ≤ r * x) (m1 : r * x ≤ 9223372036854775807) (n0 : -9223372036854775808 ≤ b + r * x) (n1 : b + r * x ≤ 9223372036854775807) :
    Calls Try.prog 36 #[.agg #[.int .i64 b, .int .i64 r, .int .i64 d], .int .i64 x] w fun e w' => e = .returned (.agg #[.int .i64 (qW (b + r * x) d), .int .i64 (qN (b + r * x) d), .int .i64 (qD (b + r * x) d)]) ∧ RowKit.Below w.heap.size w w' := by
  have K := Lib.hid (fun w => quotient_any (b + r * x) d w d0 d1 n0 n1)
  go_enter Try.func36, Try.ntmps36
  go_wp2_with fail
  refine (K.out _).mono ?_
  rintro _ w1 ⟨rfl, hb⟩
  have hz1 : w.heap.size + 1 < w1.heap.size := by have := hb.size; simp at this; omega
  have HB := Lib.hid ((((Below.refl _ w).alloc (Nat.le_refl _) (.cells #[.int .i64 b, .int .i64 r, .int .i64 d] 56)).alloc (by simp) (.cells #[.int .i64 0, .int .i64 0, .int .i64 0] 54)).trans (hb.mono (by simp; omega)))
  obtain ⟨c0, c1, c2, f0, f1, f2⟩ := (At3.new (w.alloc (.cells #[.int .i64 b, .int .i64 r, .int .i64 d] 56)) (.int .i64 0) (.int .i64 0) (.int .i64 0) 54).below hb (by simp)
  simp only [World.size_alloc] at c0 c1 c2 f0 f1 f2
  clear hb
  go_wp2_with fail
  exact bodyPost_ret (v := .agg #[.int .i64 (qW (b + r * x) d), .int .i64 (qN (b + r * x) d), .int .i64 (qD (b + r * x) d)]) (by simp [results, Try.results36, go_sem, c0, c1, c2]) rfl ⟨rfl, (by repeat' (first | (with_reducible exact HB.out) | (with_reducible refine Below.setCell ?_ ?_ _) | (with_reducible refine Below.alloc ?_ ?_ _) | (with_reducible refine Below.drew ?_) | (with_reducible refine below_drewN ?_ _) | (with_reducible exact Below.refl _ _) | omega | (simp; done) | (simp; omega)))⟩

/-! ### Comparing -/
theorem isless_whole (a p q a' p' q' : Int) (w : World) (h : (a == a') = false) :
    Calls Try.prog 71 #[.agg #[.int .i64 a, .int .i64 p, .int .i64 q], .agg #[.int .i64 a', .int .i64 p', .int .i64 q']] w fun e w' => e = .returned (.bool (decide (a < a'))) ∧ RowKit.Below w.heap.size w w' := by
  have hn : (a != a') = true := by simp at h; simpa using h
  clear h
  go_enter Try.func71, Try.ntmps71
  go_wp2
  go_ret
  exact ⟨rfl, (by repeat' (first | (with_reducible refine Below.setCell ?_ ?_ _) | (with_reducible refine Below.alloc ?_ ?_ _) | (with_reducible refine Below.drew ?_) | (with_reducible refine below_drewN ?_ _) | (with_reducible exact Below.refl _ _) | omega | (simp; done) | (simp; omega)))⟩
set_option maxRecDepth 100000 in
set_option maxHeartbeats 400000 in
theorem isless_rest (a p q p' q' : Int) (w : World) (hv : Q.Val p q) (hv' : Q.Val p' q') :
    Calls Try.prog 71 #[.agg #[.int .i64 a, .int .i64 p, .int .i64 q], .agg #[.int .i64 a, .int .i64 p', .int .i64 q']] w fun e w' => e = .returned (.bool (decide (p * q' < p' * q))) ∧ RowKit.Below w.heap.size w w' := by
  have hn : (a != a) = false := by simp
  have ec : cmpR p q p' q' = (cmp3 (p * q') (p' * q), 0) := by unfold cmpR; rw [if_pos ⟨(vld_iff _ _).2 hv, (vld_iff _ _).2 hv'⟩]
  have e3 : decide (cmp3 (p * q') (p' * q) < 0) = decide (p * q' < p' * q) := by
    unfold cmp3
    split
    · rename_i h; rw [decide_eq_true h]; rfl
    · rename_i h; rw [decide_eq_false h]; split <;> rfl
  have K := Lib.hid (fun w => compare_any p q p' q' w (by have := hv.1; omega) (by have := hv.2.1; omega) (by have := hv.2.2.1; omega) (by have := hv.2.2.2.1; omega) (by have := hv'.1; omega) (by have := hv'.2.1; omega) (by have := hv'.2.2.1; omega) (by have := hv'.2.2.2.1; omega))
  rw [ec] at K
  have E := Lib.hid e3
  clear e3 ec hv hv'
  generalize p * q' = u at *
  generalize p' * q = v at *
  generalize cmp3 u v = c at *
  go_enter Try.func71, Try.ntmps71
  go_wp2_with fail
  refine (K.out _).mono ?_
  rintro _ w1 ⟨rfl, hb⟩
  have HB := Lib.hid ((((Below.refl _ w).alloc (Nat.le_refl _) (.cells #[.int .i64 a, .int .i64 p, .int .i64 q] 54)).alloc (by simp) (.cells #[.int .i64 a, .int .i64 p', .int .i64 q'] 54)).trans (hb.mono (by simp; omega)))
  clear hb
  go_wp2
  go_ret
  exact ⟨ret_bool E.out, HB.out⟩
/-- Comparing two quotients compares the fractions. -/
theorem isless_any (n d n' d' : Int) (w : World) (d0 : 1 ≤ d) (d1 : d ≤ 1000000000) (d0' : 1 ≤ d') (d1' : d' ≤ 1000000000) :
    Calls Try.prog 71 #[.agg #[.int .i64 (qW n d), .int .i64 (qN n d), .int .i64 (qD n d)], .agg #[.int .i64 (qW n' d'), .int .i64 (qN n' d'), .int .i64 (qD n' d')]] w fun e w' => e = .returned (.bool (decide (fr n d < fr n' d'))) ∧ RowKit.Below w.heap.size w w' := by
  have hl := q_lt (n := n) (n' := n') (d := d) (d' := d') (by omega) (by omega)
  by_cases h : qW n d = qW n' d'
  · have k := isless_rest (qW n d) (qN n d) (qD n d) (qN n' d') (qD n' d') w (q_val n (by omega) d1) (q_val n' (by omega) d1')
    rw [← h]
    have e : decide (qN n d * qD n' d' < qN n' d' * qD n d) = decide (fr n d < fr n' d') := by rw [decide_eq_decide, ← hl]; constructor <;> intro x <;> omega
    rw [e] at k
    exact k
  · have k := isless_whole (qW n d) (qN n d) (qD n d) (qW n' d') (qN n' d') (qD n' d') w (by simpa using h)
    have e : decide (qW n d < qW n' d') = decide (fr n d < fr n' d') := by rw [decide_eq_decide, ← hl]; constructor <;> intro x <;> omega
    rw [e] at k
    exact k

/-! ### The number of a quotient -/
set_option maxRecDepth 100000 in
set_option maxHeartbeats 400000 in
theorem number_any (n d : Int) (w : World) (d0 : 1 ≤ d) (d1 : d ≤ 1000000000) (n0 : -1000000000000000000 ≤ n) (n1 : n ≤ 1000000000000000000) :
    Calls Try.prog 37 #[.agg #[.int .i64 (qW n d), .int .i64 (qN n d), .int .i64 (qD n d)]] w fun e w' =>
      e = .returned (.tuple #[.agg #[.int .i64 (mkN (fr n d)), .int .i64 (mkD (fr n d))], .int .i64 (mkE (fr n d))]) ∧ RowKit.Below w.heap.size w w' := by
  have b1 := qW_bd n (d := d) (by omega)
  have b2 := qN_le n (d := d) (by omega)
  have b3 := qD_pos n d
  have b4 := qD_le n (d := d) (by omega)
  have b5 := tmod_bd n (d := d) (by omega)
  have k := fun w => makeF (qW n d * qD n d + qN n d) (qD n d) w b3 (by omega) (by omega) (by omega)
  rw [q_back (by omega)] at k
  have K := Lib.hid k
  clear k
  generalize mkN (fr n d) = r1 at *
  generalize mkD (fr n d) = r2 at *
  generalize mkE (fr n d) = r3 at *
  generalize hA : qW n d = a at *
  generalize hP : qN n d = p at *
  generalize hQ : qD n d = q at *
  clear hA hP hQ
  have m0 : -1000000000000000000 ≤ a * q := by omega
  have m1 : a * q ≤ 1000000000000000000 := by omega
  have s0 : -1000000000000000000 - 1000000000 ≤ a * q + p := by omega
  have s1 : a * q + p ≤ 1000000000000000000 + 1000000000 := by omega
  clear b1 b2 b5
  go_enter Try.func37, Try.ntmps37
  go_wp2_with fail
  refine (K.out _).mono ?_
  rintro _ w1 ⟨rfl, hb⟩
  have hz1 : w.heap.size + 1 < w1.heap.size := by have := hb.size; simp at this; omega
  have HB := Lib.hid ((((Below.refl _ w).alloc (Nat.le_refl _) (.cells #[.int .i64 a, .int .i64 p, .int .i64 q] 54)).alloc (by simp) (.cells #[.int .i64 0, .int .i64 0] 24)).trans (hb.mono (by simp; omega)))
  obtain ⟨c0, c1, f0, f1⟩ := (At2.new (w.alloc (.cells #[.int .i64 a, .int .i64 p, .int .i64 q] 54)) (.int .i64 0) (.int .i64 0) 24).below hb (by simp)
  simp only [World.size_alloc] at c0 c1 f0 f1
  clear hb
  go_wp2_with fail
  exact bodyPost_ret (v := .tuple #[.agg #[.int .i64 r1, .int .i64 r2], .int .i64 r3]) (by simp [results, Try.results37, go_sem, c0, c1]) rfl ⟨rfl, (by repeat' (first | (with_reducible exact HB.out) | (with_reducible refine Below.setCell ?_ ?_ _) | (with_reducible refine Below.alloc ?_ ?_ _) | (with_reducible refine Below.drew ?_) | (with_reducible refine below_drewN ?_ _) | (with_reducible exact Below.refl _ _) | omega | (simp; done) | (simp; omega)))⟩

/-! ### The line of a piece, and sums -/
set_option maxRecDepth 100000 in
set_option maxHeartbeats 400000 in
theorem lineof_any (f vn vd sn sd : Int) (w : World) (v0 : -1000000000 ≤ vn) (v1 : vn ≤ 1000000000) (e0 : 1 ≤ vd) (e1 : vd ≤ 100) (s0 : -100000 ≤ sn) (s1 : sn ≤ 100000) (g0 : 1 ≤ sd) (g1 : sd ≤ 100) (f0 : 0 ≤ f) (f1 : f ≤ 100000) :
    Calls Try.prog 34 #[.agg #[.int .i64 f, .int .i64 vn, .int .i64 vd, .int .i64 sn, .int .i64 sd]] w fun e w' => e = .returned (.agg #[.int .i64 (vn * sd - sn * vd * f), .int .i64 (sn * vd), .int .i64 (vd * sd)]) ∧ RowKit.Below w.heap.size w w' := by
  have h1 := mul_bd (a := sn) (b := vd) (A := 100000) (B := 100) (by omega) (by omega)
  have h2 := mul_bd (a := vn) (b := sd) (A := 1000000000) (B := 100) (by omega) (by omega)
  have h3 := mul_bd (a := sn * vd) (b := f) (A := 100000 * 100) (B := 100000) (by omega) (by omega)
  have h4 := mul_bd (a := vd) (b := sd) (A := 100) (B := 100) (by omega) (by omega)
  have a1 : -10000000 ≤ sn * vd := by omega
  have a2 : sn * vd ≤ 10000000 := by omega
  have a3 : -100000000000 ≤ vn * sd := by omega
  have a4 : vn * sd ≤ 100000000000 := by omega
  have a5 : -1000000000000 ≤ sn * vd * f := by omega
  have a6 : sn * vd * f ≤ 1000000000000 := by omega
  have a7 : -10000 ≤ vd * sd := by omega
  have a8 : vd * sd ≤ 10000 := by omega
  clear h1 h2 h3 h4
  go_enter Try.func34, Try.ntmps34
  go_wp2
  exact bodyPost_ret (v := .agg #[.int .i64 (vn * sd - sn * vd * f), .int .i64 (sn * vd), .int .i64 (vd * sd)]) (by simp [results, Try.results34, go_sem]) rfl ⟨rfl, (by repeat' (first | (with_reducible refine Below.setCell ?_ ?_ _) | (with_reducible refine Below.alloc ?_ ?_ _) | (with_reducible refine Below.drew ?_) | (with_reducible refine below_drewN ?_ _) | (with_reducible exact Below.refl _ _) | omega | (simp; done) | (simp; omega)))⟩

set_option maxRecDepth 100000 in
set_option maxHeartbeats 400000 in
theorem plus_any (b r d b' r' d' : Int) (w : World) (b0 : b.natAbs ≤ 10000000000000) (r0 : r.natAbs ≤ 10000000000000) (d0 : d.natAbs ≤ 10000) (b0' : b'.natAbs ≤ 10000000000000) (r0' : r'.natAbs ≤ 10000000000000) (d0' : d'.natAbs ≤ 10000) :
    Calls Try.prog 41 #[.agg #[.int .i64 b, .int .i64 r, .int .i64 d], .agg #[.int .i64 b', .int .i64 r', .int .i64 d']] w fun e w' => e = .returned (.agg #[.int .i64 (b * d' + b' * d), .int .i64 (r * d' + r' * d), .int .i64 (d * d')]) ∧ RowKit.Below w.heap.size w w' := by
  have h1 := mul_bd b0 d0'
  have h2 := mul_bd b0' d0
  have h3 := mul_bd r0 d0'
  have h4 := mul_bd r0' d0
  have h5 := mul_bd d0 d0'
  have a1 : -100000000000000000 ≤ b * d' := by omega
  have a2 : b * d' ≤ 100000000000000000 := by omega
  have a3 : -100000000000000000 ≤ b' * d := by omega
  have a4 : b' * d ≤ 100000000000000000 := by omega
  have a5 : -100000000000000000 ≤ r * d' := by omega
  have a6 : r * d' ≤ 100000000000000000 := by omega
  have a7 : -100000000000000000 ≤ r' * d := by omega
  have a8 : r' * d ≤ 100000000000000000 := by omega
  have a9 : -100000000 ≤ d * d' := by omega
  have a10 : d * d' ≤ 100000000 := by omega
  clear h1 h2 h3 h4 h5 b0 r0 d0 b0' r0' d0'
  go_enter Try.func41, Try.ntmps41
  go_wp2
  exact bodyPost_ret (v := .agg #[.int .i64 (b * d' + b' * d), .int .i64 (r * d' + r' * d), .int .i64 (d * d')]) (by simp [results, Try.results41, go_sem]) rfl ⟨rfl, (by repeat' (first | (with_reducible refine Below.setCell ?_ ?_ _) | (with_reducible refine Below.alloc ?_ ?_ _) | (with_reducible refine Below.drew ?_) | (with_reducible refine below_drewN ?_ _) | (with_reducible exact Below.refl _ _) | omega | (simp; done) | (simp; omega)))⟩

theorem at0_any (b r d : Int) (w : World) (d0 : 1 ≤ d) (d1 : d ≤ 1000000000) (n0 : -9223372036854775808 ≤ b) (n1 : b ≤ 9223372036854775807) :
    Calls Try.prog 36 #[.agg #[.int .i64 b, .int .i64 r, .int .i64 d], .int .i64 0] w fun e w' => e = .returned (.agg #[.int .i64 (qW b d), .int .i64 (qN b d), .int .i64 (qD b d)]) ∧ RowKit.Below w.heap.size w w' := by
  have h := at_any b r d 0 w d0 d1 (by simp) (by simp) (by simpa using n0) (by simpa using n1)
  simpa using h

/-- Two lines are the same. -/
def lnS (b r d b' r' d' : Int) : Bool := decide (fr r d = fr r' d') && decide (fr b d = fr b' d')
/-- The bounds of lines. -/
def Ln (b r d : Int) : Prop := b.natAbs ≤ 100000000000000000 ∧ r.natAbs ≤ 100000000000000000 ∧ 1 ≤ d ∧ d ≤ 1000000000


def Diff3 (a p q a' p' q' : Int) : Prop := (¬ a = a') ∨ (a = a' ∧ ¬ p = p') ∨ (a = a' ∧ p = p' ∧ ¬ q = q')
theorem diff3 {n d n' d' : Int} (hd : 0 < d) (hd' : 0 < d') (h : ¬ fr n d = fr n' d') : Diff3 (qW n d) (qN n d) (qD n d) (qW n' d') (qN n' d') (qD n' d') := by
  have hq := q_eq (n := n) (n' := n') hd hd'
  unfold Diff3
  by_cases h1 : qW n d = qW n' d'
  · by_cases h2 : qN n d = qN n' d'
    · exact .inr (.inr ⟨h1, h2, fun h3 => h (hq.1 ⟨h1, h2, h3⟩)⟩)
    · exact .inr (.inl ⟨h1, h2⟩)
  · exact .inl h1
abbrev Slp (b r d a p q : Int) : Prop := ∀ w, Calls Try.prog 70 #[.agg #[.int .i64 b, .int .i64 r, .int .i64 d]] w fun e w' => e = .returned (.agg #[.int .i64 a, .int .i64 p, .int .i64 q]) ∧ RowKit.Below w.heap.size w w'
abbrev At0 (b r d a p q : Int) : Prop := ∀ w, Calls Try.prog 36 #[.agg #[.int .i64 b, .int .i64 r, .int .i64 d], .int .i64 0] w fun e w' => e = .returned (.agg #[.int .i64 a, .int .i64 p, .int .i64 q]) ∧ RowKit.Below w.heap.size w w'

set_option maxRecDepth 100000 in
set_option maxHeartbeats 1000000 in
theorem same_no (b r d b' r' d' a p q a' p' q' : Int) (w : World) (K : Hid (Slp b r d a p q)) (K' : Hid (Slp b' r' d' a' p' q')) (hd : Diff3 a p q a' p' q') :
    Calls Try.prog 68 #[.agg #[.int .i64 b, .int .i64 r, .int .i64 d], .agg #[.int .i64 b', .int .i64 r', .int .i64 d']] w fun e w' => e = .returned (.bool false) ∧ RowKit.Below w.heap.size w w' := by
  go_enter Try.func68, Try.ntmps68
  go_wp2_with fail
  obtain ⟨W0, hW0⟩ : ∃ W0, W0 = (w.alloc (.cells #[.int .i64 b, .int .i64 r, .int .i64 d] 56)).alloc (.cells #[.int .i64 b', .int .i64 r', .int .i64 d'] 56) := ⟨_, rfl⟩
  rw [← hW0]
  obtain ⟨c0, c1, c2, _, _, _⟩ : At3 W0 w.heap.size (.int .i64 b) (.int .i64 r) (.int .i64 d) := by rw [hW0]; exact (At3.new w _ _ _ _).alloc (by simp) _
  obtain ⟨c0', c1', c2', _, _, _⟩ : At3 W0 (w.heap.size + 1) (.int .i64 b') (.int .i64 r') (.int .i64 d') := by
    rw [hW0]; have := At3.new (w.alloc (.cells #[.int .i64 b, .int .i64 r, .int .i64 d] 56)) (.int .i64 b') (.int .i64 r') (.int .i64 d') 56; rwa [World.size_alloc] at this
  have hz0 : w.heap.size + 1 < W0.heap.size := by rw [hW0]; simp
  have HB : RowKit.Below w.heap.size w W0 := by rw [hW0]; exact (by repeat' (first | (with_reducible refine Below.setCell ?_ ?_ _) | (with_reducible refine Below.alloc ?_ ?_ _) | (with_reducible refine Below.drew ?_) | (with_reducible refine below_drewN ?_ _) | (with_reducible exact Below.refl _ _) | omega | (simp; done) | (simp; omega)))
  have HB0 := Lib.hid HB
  clear hW0 HB
  have l0 := cell_bw (by show w.heap.size < _; omega) c0
  have l1 := cell_bw (by show w.heap.size < _; omega) c1
  have l2 := cell_bw (by show w.heap.size < _; omega) c2
  have l0' := cell_bw (by show w.heap.size + 1 < _; omega) c0'
  have l1' := cell_bw (by show w.heap.size + 1 < _; omega) c1'
  have l2' := cell_bw (by show w.heap.size + 1 < _; omega) c2'
  clear c0 c1 c2 c0' c1' c2'
  obtain hd | ⟨rfl, hd⟩ | ⟨rfl, rfl, hd⟩ := hd
  · refine wp_region_bw mixed (by kernel_rfl) ?_
    repeat (go_big_quiet_step ((first | (with_reducible refine Calls.bw_of (K.out _)) | (with_reducible refine Calls.bw_of (K'.out _)))))
    refine wpQuiet_nil ?_
    intro W HW
    replace HW := bw_out HW
    go_wp2
    go_ret
    exact ⟨rfl, HB0.out.trans (HW.mono HB0.out.size)⟩
  · refine wp_region_bw mixed (by kernel_rfl) ?_
    repeat (go_big_quiet_step ((first | (with_reducible refine Calls.bw_of (K.out _)) | (with_reducible refine Calls.bw_of (K'.out _)))))
    refine wpQuiet_nil ?_
    intro W HW
    replace HW := bw_out HW
    go_wp2
    go_ret
    exact ⟨rfl, HB0.out.trans (HW.mono HB0.out.size)⟩
  · refine wp_region_bw mixed (by kernel_rfl) ?_
    repeat (go_big_quiet_step ((first | (with_reducible refine Calls.bw_of (K.out _)) | (with_reducible refine Calls.bw_of (K'.out _)))))
    refine wpQuiet_nil ?_
    intro W HW
    replace HW := bw_out HW
    go_wp2
    go_ret
    exact ⟨rfl, HB0.out.trans (HW.mono HB0.out.size)⟩
set_option maxRecDepth 100000 in
set_option maxHeartbeats 1000000 in
theorem same_half (b r d b' r' d' a p q u x y u' x' y' : Int) (c : Bool) (w : World) (K : Hid (Slp b r d a p q)) (K' : Hid (Slp b' r' d' a p q)) (L : Hid (At0 b r d u x y)) (L' : Hid (At0 b' r' d' u' x' y')) (hd : (c = false ∧ Diff3 u x y u' x' y') ∨ (c = true ∧ u = u' ∧ x = x' ∧ y = y')) :
    Calls Try.prog 68 #[.agg #[.int .i64 b, .int .i64 r, .int .i64 d], .agg #[.int .i64 b', .int .i64 r', .int .i64 d']] w fun e w' => e = .returned (.bool c) ∧ RowKit.Below w.heap.size w w' := by
  go_enter Try.func68, Try.ntmps68
  go_wp2_with fail
  obtain ⟨W0, hW0⟩ : ∃ W0, W0 = (w.alloc (.cells #[.int .i64 b, .int .i64 r, .int .i64 d] 56)).alloc (.cells #[.int .i64 b', .int .i64 r', .int .i64 d'] 56) := ⟨_, rfl⟩
  rw [← hW0]
  obtain ⟨c0, c1, c2, _, _, _⟩ : At3 W0 w.heap.size (.int .i64 b) (.int .i64 r) (.int .i64 d) := by rw [hW0]; exact (At3.new w _ _ _ _).alloc (by simp) _
  obtain ⟨c0', c1', c2', _, _, _⟩ : At3 W0 (w.heap.size + 1) (.int .i64 b') (.int .i64 r') (.int .i64 d') := by
    rw [hW0]; have := At3.new (w.alloc (.cells #[.int .i64 b, .int .i64 r, .int .i64 d] 56)) (.int .i64 b') (.int .i64 r') (.int .i64 d') 56; rwa [World.size_alloc] at this
  have hz0 : w.heap.size + 1 < W0.heap.size := by rw [hW0]; simp
  have HB : RowKit.Below w.heap.size w W0 := by rw [hW0]; exact (by repeat' (first | (with_reducible refine Below.setCell ?_ ?_ _) | (with_reducible refine Below.alloc ?_ ?_ _) | (with_reducible refine Below.drew ?_) | (with_reducible refine below_drewN ?_ _) | (with_reducible exact Below.refl _ _) | omega | (simp; done) | (simp; omega)))
  have HB0 := Lib.hid HB
  clear hW0 HB
  have l0 := cell_bw (by show w.heap.size < _; omega) c0
  have l1 := cell_bw (by show w.heap.size < _; omega) c1
  have l2 := cell_bw (by show w.heap.size < _; omega) c2
  have l0' := cell_bw (by show w.heap.size + 1 < _; omega) c0'
  have l1' := cell_bw (by show w.heap.size + 1 < _; omega) c1'
  have l2' := cell_bw (by show w.heap.size + 1 < _; omega) c2'
  clear c0 c1 c2 c0' c1' c2'
  obtain ⟨rfl, hd | ⟨rfl, hd⟩ | ⟨rfl, rfl, hd⟩⟩ | ⟨rfl, rfl, rfl, rfl⟩ := hd
  · refine wp_region_bw mixed (by kernel_rfl) ?_
    repeat (go_big_quiet_step ((first | (with_reducible refine Calls.bw_of (K.out _)) | (with_reducible refine Calls.bw_of (K'.out _)) | (with_reducible refine Calls.bw_of (L.out _)) | (with_reducible refine Calls.bw_of (L'.out _)))))
    refine wpQuiet_nil ?_
    intro W HW
    replace HW := bw_out HW
    go_wp2
    go_ret
    exact ⟨rfl, HB0.out.trans (HW.mono HB0.out.size)⟩
  · refine wp_region_bw mixed (by kernel_rfl) ?_
    repeat (go_big_quiet_step ((first | (with_reducible refine Calls.bw_of (K.out _)) | (with_reducible refine Calls.bw_of (K'.out _)) | (with_reducible refine Calls.bw_of (L.out _)) | (with_reducible refine Calls.bw_of (L'.out _)))))
    refine wpQuiet_nil ?_
    intro W HW
    replace HW := bw_out HW
    go_wp2
    go_ret
    exact ⟨rfl, HB0.out.trans (HW.mono HB0.out.size)⟩
  · refine wp_region_bw mixed (by kernel_rfl) ?_
    repeat (go_big_quiet_step ((first | (with_reducible refine Calls.bw_of (K.out _)) | (with_reducible refine Calls.bw_of (K'.out _)) | (with_reducible refine Calls.bw_of (L.out _)) | (with_reducible refine Calls.bw_of (L'.out _)))))
    refine wpQuiet_nil ?_
    intro W HW
    replace HW := bw_out HW
    go_wp2
    go_ret
    exact ⟨rfl, HB0.out.trans (HW.mono HB0.out.size)⟩
  · refine wp_region_bw mixed (by kernel_rfl) ?_
    repeat (go_big_quiet_step ((first | (with_reducible refine Calls.bw_of (K.out _)) | (with_reducible refine Calls.bw_of (K'.out _)) | (with_reducible refine Calls.bw_of (L.out _)) | (with_reducible refine Calls.bw_of (L'.out _)))))
    refine wpQuiet_nil ?_
    intro W HW
    replace HW := bw_out HW
    go_wp2
    go_ret
    exact ⟨rfl, HB0.out.trans (HW.mono HB0.out.size)⟩
theorem same_any (b r d b' r' d' : Int) (w : World) (h : Ln b r d) (h' : Ln b' r' d') :
    Calls Try.prog 68 #[.agg #[.int .i64 b, .int .i64 r, .int .i64 d], .agg #[.int .i64 b', .int .i64 r', .int .i64 d']] w fun e w' => e = .returned (.bool (lnS b r d b' r' d')) ∧ RowKit.Below w.heap.size w w' := by
  obtain ⟨h1, h2, h3, h4⟩ := h
  obtain ⟨h1', h2', h3', h4'⟩ := h'
  have K : Hid (Slp b r d (qW r d) (qN r d) (qD r d)) := fun w => slope_any b r d w h3 h4 (by omega) (by omega)
  have K' : Hid (Slp b' r' d' (qW r' d') (qN r' d') (qD r' d')) := fun w => slope_any b' r' d' w h3' h4' (by omega) (by omega)
  have L : Hid (At0 b r d (qW b d) (qN b d) (qD b d)) := fun w => at0_any b r d w h3 h4 (by omega) (by omega)
  have L' : Hid (At0 b' r' d' (qW b' d') (qN b' d') (qD b' d')) := fun w => at0_any b' r' d' w h3' h4' (by omega) (by omega)
  unfold lnS
  by_cases hs : fr r d = fr r' d'
  · rw [decide_eq_true hs, Bool.true_and]
    have e := (q_eq (n := r) (d := d) (n' := r') (d' := d') (by omega) (by omega)).2 hs
    rw [← e.1, ← e.2.1, ← e.2.2] at K'
    by_cases hb : fr b d = fr b' d'
    · rw [decide_eq_true hb]
      exact same_half b r d b' r' d' _ _ _ _ _ _ _ _ _ true w K K' L L' (.inr ⟨rfl, (q_eq (by omega) (by omega)).2 hb⟩)
    · rw [decide_eq_false hb]
      exact same_half b r d b' r' d' _ _ _ _ _ _ _ _ _ false w K K' L L' (.inl ⟨rfl, diff3 (by omega) (by omega) hb⟩)
  · rw [decide_eq_false hs, Bool.false_and]
    exact same_no b r d b' r' d' _ _ _ _ _ _ w K K' (diff3 (by omega) (by omega) hs)
end Go.Proofs.Ytmjdolgcgbiajaa
