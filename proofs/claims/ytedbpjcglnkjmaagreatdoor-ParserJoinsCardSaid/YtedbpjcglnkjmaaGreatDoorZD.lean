/-
  Contracts of Valid and Mul (out of wip/piecewise by tools/gen_ps_mul.py).
  Contracts of the parser's reader: isAtEnd, peek, fail, refuse.
  Contracts of the parser's words: which are reserved, which are units and kinds of rules.
  Contracts of the parser's reader: passes, need, name, whole, unit.
  Contracts of the parser's reader: name, whole, unit.
-/
import Derived.Test.YtedbpjcglnkjmaaGreatDoorZB
import Derived.Test.YtedbpjcglnkjmaaGreatDoorZC
namespace Go.Proofs.YtedbpjcglnkjmaaGreatDoor
open Go.RowKit

/-- Is it a number? -/
def vld (n d : Int) : Bool := decide (-1000000000 ≤ n) && decide (n ≤ 1000000000) && decide (1 ≤ d) && decide (d ≤ 1000000000) && (gd (mag n) (mag d) == 1)
theorem vld_iff (n d : Int) : vld n d = true ↔ Q.Val n d := by
  unfold vld Q.Val gd mag
  simp only [Bool.and_eq_true, decide_eq_true_eq, beq_iff_eq, and_assoc]

set_option maxRecDepth 100000 in
set_option maxHeartbeats 400000 in
theorem valid_far (n d : Int) (w : World) (n0 : -9223372036854775808 ≤ n) (n1 : n ≤ 9223372036854775807) (d0 : -9223372036854775808 ≤ d) (d1 : d ≤ 9223372036854775807)
    (h : n < -1000000000 ∨ 1000000000 < n ∨ d < 1 ∨ 1000000000 < d) :
    Calls Tryz.prog 171 #[.agg #[.int .i64 n, .int .i64 d]] w fun e w' => e = .returned (.bool false) ∧ Below w.heap.size w w' := by
  have H := Lib.hid h
  clear h
  by_cases h1 : n < -1000000000
  · clear H
    go_enter Tryz.func171, Tryz.ntmps171
    go_wp2
    go_ret
    exact ⟨rfl, (by repeat' (first | exact Below.refl _ _ | refine below_drewN ?_ _ | refine Below.alloc ?_ (by first | (simp; done) | (simp; omega)) _))⟩
  by_cases h2 : 1000000000 < n
  · clear H
    have b1 : decide (n < -1000000000) = false := by simp; omega
    go_enter Tryz.func171, Tryz.ntmps171
    go_wp2
    go_ret
    exact ⟨rfl, (by repeat' (first | exact Below.refl _ _ | refine below_drewN ?_ _ | refine Below.alloc ?_ (by first | (simp; done) | (simp; omega)) _))⟩
  by_cases h3 : d < 1
  · clear H
    have b1 : decide (n < -1000000000) = false := by simp; omega
    have b2 : decide (1000000000 < n) = false := by simp; omega
    go_enter Tryz.func171, Tryz.ntmps171
    go_wp2
    go_ret
    exact ⟨rfl, (by repeat' (first | exact Below.refl _ _ | refine below_drewN ?_ _ | refine Below.alloc ?_ (by first | (simp; done) | (simp; omega)) _))⟩
  · have h4 : 1000000000 < d := by have := H.out; omega
    clear H
    have b1 : decide (n < -1000000000) = false := by simp; omega
    have b2 : decide (1000000000 < n) = false := by simp; omega
    have b3 : decide (d < 1) = false := by simp; omega
    go_enter Tryz.func171, Tryz.ntmps171
    go_wp2
    go_ret
    exact ⟨rfl, (by repeat' (first | exact Below.refl _ _ | refine below_drewN ?_ _ | refine Below.alloc ?_ (by first | (simp; done) | (simp; omega)) _))⟩

set_option maxRecDepth 100000 in
set_option maxHeartbeats 400000 in
theorem valid_near (n d : Int) (w : World) (n0 : -1000000000 ≤ n) (n1 : n ≤ 1000000000) (d0 : 1 ≤ d) (d1 : d ≤ 1000000000) :
    Calls Tryz.prog 171 #[.agg #[.int .i64 n, .int .i64 d]] w fun e w' => e = .returned (.bool ((gd (mag n) (mag d) : Int) == 1)) ∧ Below w.heap.size w w' := by
  have hX := mag_lt (n := n) (by omega) (by omega)
  have hY := mag_lt (n := d) (by omega) (by omega)
  have b1 : decide (n < -1000000000) = false := by simp; omega
  have b2 : decide (1000000000 < n) = false := by simp; omega
  have b3 : decide (d < 1) = false := by simp; omega
  have b4 : decide (1000000000 < d) = false := by simp; omega
  go_enter Tryz.func171, Tryz.ntmps171
  go_wp2
  go_quiet ((first | (go_at_call 137; exact Calls.quiet_of_same (size_any _ _ (by omega) (by omega))) | (go_at_call 138; exact Calls.quiet_of (divisor_any _ _ _ (by omega) (by omega)))))
  go_wp2
  go_ret
  exact ⟨rfl, (by repeat' (first | exact Below.refl _ _ | refine below_drewN ?_ _ | refine Below.alloc ?_ (by first | (simp; done) | (simp; omega)) _))⟩

theorem valid_any (n d : Int) (w : World) (n0 : -9223372036854775808 ≤ n) (n1 : n ≤ 9223372036854775807) (d0 : -9223372036854775808 ≤ d) (d1 : d ≤ 9223372036854775807) :
    Calls Tryz.prog 171 #[.agg #[.int .i64 n, .int .i64 d]] w fun e w' => e = .returned (.bool (vld n d)) ∧ Below w.heap.size w w' := by
  by_cases h : n < -1000000000 ∨ 1000000000 < n ∨ d < 1 ∨ 1000000000 < d
  · refine (valid_far n d w n0 n1 d0 d1 h).mono ?_
    rintro e w' ⟨rfl, hb⟩
    refine ⟨?_, hb⟩
    have : vld n d = false := by
      rw [Bool.eq_false_iff]; intro hv
      have := (vld_iff n d).1 hv
      unfold Q.Val at this; omega
    rw [this]
  · refine (valid_near n d w (by omega) (by omega) (by omega) (by omega)).mono ?_
    rintro e w' ⟨rfl, hb⟩
    refine ⟨?_, hb⟩
    have : vld n d = ((gd (mag n) (mag d) : Int) == 1) := by
      unfold vld
      rw [Bool.eq_iff_iff]
      simp only [Bool.and_eq_true, decide_eq_true_eq, beq_iff_eq]
      omega
    rw [this]

/-! What is computed of two fractions, in the walk's spelling. -/
theorem times_any (a b c d : Int) (w : World) :
    Calls Tryz.prog 168 #[.agg #[.int .i64 a, .int .i64 b], .agg #[.int .i64 c, .int .i64 d]] w fun e w' =>
      e = .returned (.agg #[.int .i64 (wrap64 (a * c)), .int .i64 (wrap64 (b * d))]) ∧ Below w.heap.size w w' := by
  go_enter Tryz.func168, Tryz.ntmps168
  go_wp2
  refine bodyPost_ret (v := .agg #[.int .i64 (wrap64 (a * c)), .int .i64 (wrap64 (b * d))]) (by simp [results, Tryz.results168, go_sem]) rfl ⟨rfl, ?_⟩
  repeat' (first | exact Below.refl _ _ | refine Below.setCell ?_ (by first | (simp; done) | (simp; omega)) _ | refine below_drewN ?_ _ | refine Below.alloc ?_ (by first | (simp; done) | (simp; omega)) _)

/-- The bounds on what is computed of two numbers: nothing wraps. -/
theorem mul_le {a b : Int} (a0 : -1000000000 ≤ a) (a1 : a ≤ 1000000000) (b0 : -1000000000 ≤ b) (b1 : b ≤ 1000000000) : -1000000000000000000 ≤ a * b ∧ a * b ≤ 1000000000000000000 := by
  have h : (a * b).natAbs ≤ 1000000000 * 1000000000 := by rw [Int.natAbs_mul]; exact Nat.mul_le_mul (by omega) (by omega)
  omega
theorem mul_wrap {a b : Int} (a0 : -1000000000 ≤ a) (a1 : a ≤ 1000000000) (b0 : -1000000000 ≤ b) (b1 : b ≤ 1000000000) : wrap64 (a * b) = a * b := by
  have := mul_le a0 a1 b0 b1
  exact IntWalk.wrap64_in _ ⟨by omega, by omega⟩

/-- A function of two fractions, at two numbers. -/
def Does (F : Nat) (a b c d n m : Int) : Prop := ∀ w : World, Calls Tryz.prog F #[.agg #[.int .i64 a, .int .i64 b], .agg #[.int .i64 c, .int .i64 d]] w fun e w' =>
  e = .returned (.agg #[.int .i64 n, .int .i64 m]) ∧ Below w.heap.size w w'

theorem times_does {a b c d : Int} (h : Q.Val a b) (k : Q.Val c d) : Does 168 a b c d (a * c) (b * d) := by
  obtain ⟨h1, h2, h3, h4, _⟩ := h
  obtain ⟨k1, k2, k3, k4, _⟩ := k
  intro w
  have e := times_any a b c d w
  rw [mul_wrap h1 h2 k1 k2, mul_wrap (a := b) (b := d) (by omega) h4 (by omega) k4] at e
  exact e
theorem At2.alloc {w : World} {b : Nat} {x y : Value} (h : At2 w b x y) (hb : b < w.heap.size) (o : Obj) : At2 (w.alloc o) b x y := h.below (B := w.heap.size) ((Below.refl _ _).alloc (Nat.le_refl _) _) hb

set_option maxRecDepth 100000 in
set_option maxHeartbeats 400000 in
theorem operate_ok (F : Nat) (a b c d n m : Int) (w : World) (h : vld a b = true) (k : vld c d = true) (hF : Does F a b c d n m)
    (hE : ∀ (args : Array Value) (w : World), (callFunc F args).run Tryz.prog w = .ok (.enter F args) w)
    (n0 : -9223372036854775808 ≤ n) (n1 : n ≤ 9223372036854775807) (d0 : -9223372036854775808 ≤ m) (d1 : m ≤ 9223372036854775807) :
    Calls Tryz.prog 167 #[.agg #[.int .i64 a, .int .i64 b], .agg #[.int .i64 c, .int .i64 d], .func (.func F) #[] #[]] w fun e w' =>
      e = .returned (.tuple #[.agg #[.int .i64 (mk n m).1, .int .i64 (mk n m).2.1], .int .i64 (mk n m).2.2]) ∧ Below w.heap.size w w' := by
  obtain ⟨a0, a1, b0, b1, _⟩ := (vld_iff a b).1 h
  obtain ⟨c0, c1, e0, e1, _⟩ := (vld_iff c d).1 k
  go_enter Tryz.func167, Tryz.ntmps167
  go_wp2_with fail
  refine (valid_any _ _ _ (by omega) (by omega) (by omega) (by omega)).mono ?_
  rintro e w1 ⟨rfl, hb1⟩
  have hz1 := hb1.size
  simp only [World.size_alloc] at hz1
  have A1 : At2 w1 w.heap.size (.int .i64 a) (.int .i64 b) := (((At2.new w _ _ _).alloc (by simp) _).alloc (by simp; omega) _).below hb1 (by simp; omega)
  have C1 : At2 w1 (w.heap.size + 1) (.int .i64 c) (.int .i64 d) := by
    have := ((At2.new (w.alloc (.cells #[.int .i64 a, .int .i64 b] 31)) (.int .i64 c) (.int .i64 d) 31).alloc (by simp) (.cells #[.int .i64 0, .int .i64 0] 31)).below hb1 (by simp)
    simpa using this
  have R1 : At2 w1 (w.heap.size + 1 + 1) (.int .i64 0) (.int .i64 0) := by
    have := (At2.new ((w.alloc (.cells #[.int .i64 a, .int .i64 b] 31)).alloc (.cells #[.int .i64 c, .int .i64 d] 31)) (.int .i64 0) (.int .i64 0) 31).below hb1 (by simp)
    simpa using this
  have HB1 : Below w.heap.size w w1 := ((((Below.refl _ _).alloc (Nat.le_refl _) _).alloc (by simp) _).alloc (by simp; omega) _).trans (hb1.mono (by simp; omega))
  clear hb1
  obtain ⟨p0, p1, p2, p3⟩ := A1
  obtain ⟨p4, p5, p6, p7⟩ := C1
  obtain ⟨p8, p9, p10, p11⟩ := R1
  go_wp2_with fail
  refine (valid_any _ _ _ (by omega) (by omega) (by omega) (by omega)).mono ?_
  rintro e w2 ⟨rfl, hb2⟩
  have hz2 := hb2.size
  have A2 := (At2.mk p0 p1 p2 p3).below hb2 (by omega)
  have C2 := (At2.mk p4 p5 p6 p7).below hb2 (by omega)
  have R2 := (At2.mk p8 p9 p10 p11).below hb2 (by omega)
  have HB2 : Below w.heap.size w w2 := HB1.trans (hb2.mono (by omega))
  clear p0 p1 p2 p3 p4 p5 p6 p7 p8 p9 p10 p11 hb2 HB1
  obtain ⟨p0, p1, p2, p3⟩ := A2
  obtain ⟨p4, p5, p6, p7⟩ := C2
  obtain ⟨p8, p9, p10, p11⟩ := R2
  go_wp2_with fail
  refine (hF _).mono ?_
  rintro e w3 ⟨rfl, hb3⟩
  have hz3 := hb3.size
  have R3 := (At2.mk p8 p9 p10 p11).below hb3 (by omega)
  have HB3 : Below w.heap.size w w3 := HB2.trans (hb3.mono (by omega))
  clear p0 p1 p2 p3 p4 p5 p6 p7 p8 p9 p10 p11 hb3 HB2
  obtain ⟨p8, p9, p10, p11⟩ := R3
  go_wp2_with fail
  refine (make_any _ _ _ (by omega) (by omega) (by omega) (by omega)).mono ?_
  rintro e w4 ⟨rfl, hb4⟩
  have hz4 := hb4.size
  simp only [World.size_alloc] at hz4
  have R4 := ((At2.mk p8 p9 p10 p11).alloc (by omega) _).below hb4 (by simp; omega)
  have HBX : Below w.heap.size w w4 := (HB3.alloc (by omega) _).trans (hb4.mono (by simp; omega))
  clear p8 p9 p10 p11 hb4 HB3
  obtain ⟨p8, p9, p10, p11⟩ := R4
  go_wp2
  refine bodyPost_ret (v := .tuple #[.agg #[.int .i64 (mk n m).1, .int .i64 (mk n m).2.1], .int .i64 (mk n m).2.2]) (by simp [results, Tryz.results167, go_sem, p8, p9]) rfl ⟨rfl, ?_⟩
  repeat' (first | exact HBX | refine Below.setCell ?_ (by first | (simp; done) | (simp; omega)) _ | refine below_drewN ?_ _ | refine Below.alloc ?_ (by first | (simp; done) | (simp; omega)) _)

set_option maxRecDepth 100000 in
set_option maxHeartbeats 400000 in
theorem operate_bad1 (F : Nat) (a b c d : Int) (w : World) (h : vld a b = false)
    (a0 : -9223372036854775808 ≤ a) (a1 : a ≤ 9223372036854775807) (b0 : -9223372036854775808 ≤ b) (b1 : b ≤ 9223372036854775807) :
    Calls Tryz.prog 167 #[.agg #[.int .i64 a, .int .i64 b], .agg #[.int .i64 c, .int .i64 d], .func (.func F) #[] #[]] w fun e w' =>
      e = .returned (.tuple #[.agg #[.int .i64 0, .int .i64 0], .int .i64 1]) ∧ Below w.heap.size w w' := by
  go_enter Tryz.func167, Tryz.ntmps167
  go_wp2_with fail
  refine (valid_any _ _ _ (by omega) (by omega) (by omega) (by omega)).mono ?_
  rintro e w1 ⟨rfl, hb1⟩
  have hz1 := hb1.size
  simp only [World.size_alloc] at hz1
  have R1 : At2 w1 (w.heap.size + 1 + 1) (.int .i64 0) (.int .i64 0) := by
    have := (At2.new ((w.alloc (.cells #[.int .i64 a, .int .i64 b] 31)).alloc (.cells #[.int .i64 c, .int .i64 d] 31)) (.int .i64 0) (.int .i64 0) 31).below hb1 (by simp)
    simpa using this
  have HBX : Below w.heap.size w w1 := ((((Below.refl _ _).alloc (Nat.le_refl _) _).alloc (by simp) _).alloc (by simp; omega) _).trans (hb1.mono (by simp; omega))
  clear hb1
  obtain ⟨p8, p9, p10, p11⟩ := R1
  go_wp2
  refine bodyPost_ret (v := .tuple #[.agg #[.int .i64 0, .int .i64 0], .int .i64 1]) (by simp [results, Tryz.results167, go_sem, p8, p9]) rfl ⟨rfl, ?_⟩
  repeat' (first | exact HBX | refine Below.setCell ?_ (by first | (simp; done) | (simp; omega)) _ | refine below_drewN ?_ _ | refine Below.alloc ?_ (by first | (simp; done) | (simp; omega)) _)

set_option maxRecDepth 100000 in
set_option maxHeartbeats 400000 in
theorem operate_bad2 (F : Nat) (a b c d : Int) (w : World) (h : vld a b = true) (k : vld c d = false)
    (a0 : -9223372036854775808 ≤ a) (a1 : a ≤ 9223372036854775807) (b0 : -9223372036854775808 ≤ b) (b1 : b ≤ 9223372036854775807)
    (c0 : -9223372036854775808 ≤ c) (c1 : c ≤ 9223372036854775807) (d0 : -9223372036854775808 ≤ d) (d1 : d ≤ 9223372036854775807) :
    Calls Tryz.prog 167 #[.agg #[.int .i64 a, .int .i64 b], .agg #[.int .i64 c, .int .i64 d], .func (.func F) #[] #[]] w fun e w' =>
      e = .returned (.tuple #[.agg #[.int .i64 0, .int .i64 0], .int .i64 1]) ∧ Below w.heap.size w w' := by
  go_enter Tryz.func167, Tryz.ntmps167
  go_wp2_with fail
  refine (valid_any _ _ _ (by omega) (by omega) (by omega) (by omega)).mono ?_
  rintro e w1 ⟨rfl, hb1⟩
  have hz1 := hb1.size
  simp only [World.size_alloc] at hz1
  have A1 : At2 w1 w.heap.size (.int .i64 a) (.int .i64 b) := (((At2.new w _ _ _).alloc (by simp) _).alloc (by simp; omega) _).below hb1 (by simp; omega)
  have C1 : At2 w1 (w.heap.size + 1) (.int .i64 c) (.int .i64 d) := by
    have := ((At2.new (w.alloc (.cells #[.int .i64 a, .int .i64 b] 31)) (.int .i64 c) (.int .i64 d) 31).alloc (by simp) (.cells #[.int .i64 0, .int .i64 0] 31)).below hb1 (by simp)
    simpa using this
  have R1 : At2 w1 (w.heap.size + 1 + 1) (.int .i64 0) (.int .i64 0) := by
    have := (At2.new ((w.alloc (.cells #[.int .i64 a, .int .i64 b] 31)).alloc (.cells #[.int .i64 c, .int .i64 d] 31)) (.int .i64 0) (.int .i64 0) 31).below hb1 (by simp)
    simpa using this
  have HB1 : Below w.heap.size w w1 := ((((Below.refl _ _).alloc (Nat.le_refl _) _).alloc (by simp) _).alloc (by simp; omega) _).trans (hb1.mono (by simp; omega))
  clear hb1
  obtain ⟨p0, p1, p2, p3⟩ := A1
  obtain ⟨p4, p5, p6, p7⟩ := C1
  obtain ⟨p8, p9, p10, p11⟩ := R1
  go_wp2_with fail
  refine (valid_any _ _ _ (by omega) (by omega) (by omega) (by omega)).mono ?_
  rintro e w2 ⟨rfl, hb2⟩
  have hz2 := hb2.size
  have R2 := (At2.mk p8 p9 p10 p11).below hb2 (by omega)
  have HBX : Below w.heap.size w w2 := HB1.trans (hb2.mono (by omega))
  clear p0 p1 p2 p3 p4 p5 p6 p7 p8 p9 p10 p11 hb2 HB1
  obtain ⟨p8, p9, p10, p11⟩ := R2
  go_wp2
  refine bodyPost_ret (v := .tuple #[.agg #[.int .i64 0, .int .i64 0], .int .i64 1]) (by simp [results, Tryz.results167, go_sem, p8, p9]) rfl ⟨rfl, ?_⟩
  repeat' (first | exact HBX | refine Below.setCell ?_ (by first | (simp; done) | (simp; omega)) _ | refine below_drewN ?_ _ | refine Below.alloc ?_ (by first | (simp; done) | (simp; omega)) _)

theorem times_bounds {a b c d : Int} (h : Q.Val a b) (k : Q.Val c d) : -9223372036854775808 ≤ a * c ∧ a * c ≤ 9223372036854775807 ∧ -9223372036854775808 ≤ b * d ∧ b * d ≤ 9223372036854775807 := by
  obtain ⟨h1, h2, h3, h4, _⟩ := h
  obtain ⟨k1, k2, k3, k4, _⟩ := k
  have x := mul_le h1 h2 k1 k2
  have z := mul_le (a := b) (b := d) (by omega) h4 (by omega) k4
  omega
/-- What Add, Sub, Mul and Div give. -/
def op2 (a b c d n m : Int) : Int × Int × Int := if vld a b = true ∧ vld c d = true then mk n m else (0, 0, 1)

theorem operate_any (F : Nat) (a b c d n m : Int) (w : World) (hF : Q.Val a b → Q.Val c d → Does F a b c d n m ∧ -9223372036854775808 ≤ n ∧ n ≤ 9223372036854775807 ∧ -9223372036854775808 ≤ m ∧ m ≤ 9223372036854775807)
    (hE : ∀ (args : Array Value) (w : World), (callFunc F args).run Tryz.prog w = .ok (.enter F args) w)
    (a0 : -9223372036854775808 ≤ a) (a1 : a ≤ 9223372036854775807) (b0 : -9223372036854775808 ≤ b) (b1 : b ≤ 9223372036854775807)
    (c0 : -9223372036854775808 ≤ c) (c1 : c ≤ 9223372036854775807) (d0 : -9223372036854775808 ≤ d) (d1 : d ≤ 9223372036854775807) :
    Calls Tryz.prog 167 #[.agg #[.int .i64 a, .int .i64 b], .agg #[.int .i64 c, .int .i64 d], .func (.func F) #[] #[]] w fun e w' =>
      e = .returned (.tuple #[.agg #[.int .i64 (op2 a b c d n m).1, .int .i64 (op2 a b c d n m).2.1], .int .i64 (op2 a b c d n m).2.2]) ∧ Below w.heap.size w w' := by
  unfold op2
  cases h : vld a b
  · rw [if_neg (fun x => by cases x.1)]
    exact operate_bad1 F a b c d w h a0 a1 b0 b1
  · cases k : vld c d
    · rw [if_neg (fun x => by cases x.2)]
      exact operate_bad2 F a b c d w h k a0 a1 b0 b1 c0 c1 d0 d1
    · rw [if_pos ⟨rfl, rfl⟩]
      obtain ⟨h1, h2, h3, h4, h5⟩ := hF ((vld_iff _ _).1 h) ((vld_iff _ _).1 k)
      exact operate_ok F a b c d n m w h k h1 hE h2 h3 h4 h5

theorem enter_times (args : Array Value) (w : World) : (callFunc 168 args).run Tryz.prog w = .ok (.enter 168 args) w := by kernel_rfl
set_option maxRecDepth 100000 in
set_option maxHeartbeats 400000 in
theorem mul_any (a b c d : Int) (w : World)
    (a0 : -9223372036854775808 ≤ a) (a1 : a ≤ 9223372036854775807) (b0 : -9223372036854775808 ≤ b) (b1 : b ≤ 9223372036854775807)
    (c0 : -9223372036854775808 ≤ c) (c1 : c ≤ 9223372036854775807) (d0 : -9223372036854775808 ≤ d) (d1 : d ≤ 9223372036854775807) :
    Calls Tryz.prog 161 #[.agg #[.int .i64 a, .int .i64 b], .agg #[.int .i64 c, .int .i64 d]] w fun e w' =>
      e = .returned (.tuple #[.agg #[.int .i64 (op2 a b c d (a * c) (b * d)).1, .int .i64 (op2 a b c d (a * c) (b * d)).2.1], .int .i64 (op2 a b c d (a * c) (b * d)).2.2]) ∧ Below w.heap.size w w' := by
  have hF : ∀ w, Calls Tryz.prog 167 #[.agg #[.int .i64 a, .int .i64 b], .agg #[.int .i64 c, .int .i64 d], .func (.func 168) #[] #[]] w fun e w' =>
      e = .returned (.tuple #[.agg #[.int .i64 (op2 a b c d (a * c) (b * d)).1, .int .i64 (op2 a b c d (a * c) (b * d)).2.1], .int .i64 (op2 a b c d (a * c) (b * d)).2.2]) ∧ Below w.heap.size w w' := fun w =>
    operate_any _ a b c d _ _ w (fun h k => ⟨times_does h k, times_bounds h k⟩) enter_times a0 a1 b0 b1 c0 c1 d0 d1
  generalize op2 a b c d (a * c) (b * d) = r at hF ⊢
  have HF := Lib.hid hF
  clear hF
  go_enter Tryz.func161, Tryz.ntmps161
  go_wp2_with fail
  refine (HF.out _).mono ?_
  rintro e w1 ⟨rfl, hb1⟩
  have hz1 := hb1.size
  simp only [World.size_alloc] at hz1
  have R1 : At2 w1 (w.heap.size + 1 + 1) (.int .i64 0) (.int .i64 0) := by
    have := (At2.new ((w.alloc (.cells #[.int .i64 a, .int .i64 b] 31)).alloc (.cells #[.int .i64 c, .int .i64 d] 31)) (.int .i64 0) (.int .i64 0) 31).below hb1 (by simp)
    simpa using this
  have HBX : Below w.heap.size w w1 := ((((Below.refl _ _).alloc (Nat.le_refl _) _).alloc (by simp) _).alloc (by simp; omega) _).trans (hb1.mono (by simp; omega))
  clear hb1
  obtain ⟨p8, p9, p10, p11⟩ := R1
  go_wp2
  refine bodyPost_ret (v := .tuple #[.agg #[.int .i64 r.1, .int .i64 r.2.1], .int .i64 r.2.2]) (by simp [results, Tryz.results161, go_sem, p8, p9]) rfl ⟨rfl, ?_⟩
  repeat' (first | exact HBX | refine Below.setCell ?_ (by first | (simp; done) | (simp; omega)) _ | refine below_drewN ?_ _ | refine Below.alloc ?_ (by first | (simp; done) | (simp; omega)) _)

end Go.Proofs.YtedbpjcglnkjmaaGreatDoor
namespace Go.Proofs.YtedbpjcglnkjmaaGreatDoor
open Go.RowKit Lx Pa

set_option maxRecDepth 100000 in
set_option maxHeartbeats 400000 in
theorem atEnd_any {b cap qb En mb k : Nat} {p : Option Addr} {ts : List Tok} (w : World) (h : Rd w b p cap qb ts En mb k) : Calls Tryz.prog 43 #[.pointer (some ⟨b, 0, none⟩)] w fun e w' => e = .returned (.bool (decide (k = ts.length))) ∧ RowKit.Below w.heap.size w w' := by
  obtain ⟨c0, c1, -, -, -, hS, -, -, -, hk, -⟩ := h
  have hm := hS.max
  clear hS
  have HE : Hid (((k : Int) == (ts.length : Int)) = decide (k = ts.length)) := by
    show _ = _
    by_cases e : k = ts.length
    · rw [decide_eq_true e, e]; simp
    · rw [decide_eq_false e]; simp; omega
  go_enter Tryz.func43, Tryz.ntmps43
  go_wp2_with fail
  go_quiet (fail)
  go_wp2_with fail
  go_ret
  exact ⟨ret_bool HE.out, below_drewN (Below.refl _ _) _⟩
set_option maxRecDepth 100000 in
set_option maxHeartbeats 2000000 in
theorem peek_any {b cap qb En mb k : Nat} {p : Option Addr} {ts : List Tok} (w : World) (h : Rd w b p cap qb ts En mb k) : Calls Tryz.prog 64 #[.pointer (some ⟨b, 0, none⟩)] w fun e w' => e = .returned (tokV (pk ts En k)) ∧ RowKit.Below w.heap.size w w' := by
  have hmx := h.tk.max
  have hb := h.lt
  have KE := Lib.hid (fun w h => atEnd_any (b := b) (cap := cap) (qb := qb) (En := En) (mb := mb) (k := k) (p := p) (ts := ts) w h)
  obtain ⟨W1, hW1⟩ : ∃ W1, W1 = w.alloc (.cells #[.int .i64 0, .int .i64 0, .string ⟨#[]⟩, .int .i64 0, .int .i64 0] 88) := ⟨_, rfl⟩
  have B1 := Lib.hid ((Below.refl w.heap.size w).alloc (Nat.le_refl _) (.cells #[.int .i64 0, .int .i64 0, .string ⟨#[]⟩, .int .i64 0, .int .i64 0] 88))
  have X1 := Lib.hid (B5.new w (.int .i64 0) (.int .i64 0) (.string ⟨#[]⟩) (.int .i64 0) (.int .i64 0) 88)
  rw [← hW1] at B1 X1
  have R1 := Lib.hid (h.bel B1.out)
  by_cases hk : k < ts.length
  · have hd : decide (k = ts.length) = false := decide_eq_false (by omega)
    rw [hd] at KE
    rw [pk_in hk]
    have hz : (k : Int) < (ts.length : Int) := by omega
    have hq : w.heap.size ≠ qb := by have := h.tk.lt (by omega); omega
    have hq2 : w.heap.size ≠ b := by omega
    have hpt := h.tk.ptr (by omega)
    subst hpt
    have HC := Lib.hid (fun v (h : Rd v b (some ⟨qb, 0, none⟩) cap qb ts En mb k) => h.tk.cells k hk)
    generalize ts[k] = t at HC ⊢
    obtain ⟨tk, ta, tt, tn, td⟩ := t
    clear hd h
    go_enter Tryz.func64, Tryz.ntmps64
    go_wp2_with fail
    rw [← hW1]
    clear hW1
    refine (KE.out _ R1.out).mono ?_
    rintro _ v ⟨rfl, hb⟩
    have BV := Lib.hid (B1.out.trans (hb.mono B1.out.size))
    have RV := Lib.hid (R1.out.bel hb)
    have XV := Lib.hid (X1.out.bel hb)
    clear hb R1 X1 B1 KE
    obtain ⟨c0, c1, -, -, -, -, -, -, -, -, -⟩ := RV.out
    obtain ⟨a0, a1, a2, a3, a4⟩ := HC.out _ RV.out
    obtain ⟨x0, x1, x2, x3, x4, g0, g1, g2, g3, g4⟩ := XV.out
    go_wp2_with fail
    clear RV HC
    have hv := World.block_lt_of_cell? _ _ c0
    rw [Nat.zero_add] at a0 a1 a2 a3 a4
    generalize ts.length = n at *
    have hS : (v.drew.cell? ⟨b, 0, none⟩ = some (.slice (some ⟨qb, 0, none⟩) n cap) ∧ v.drew.cell? ⟨b, 1, none⟩ = some (.int .i64 k)) ∧ v.drew.cell? ⟨qb, k * 5, none⟩ = some (.int .i64 tk) ∧ v.drew.cell? ⟨qb, k * 5 + 1, none⟩ = some (.int .i64 ta) ∧ v.drew.cell? ⟨qb, k * 5 + 2, none⟩ = some (.string (bs tt)) ∧ v.drew.cell? ⟨qb, k * 5 + 3, none⟩ = some (.int .i64 tn) ∧ v.drew.cell? ⟨qb, k * 5 + 4, none⟩ = some (.int .i64 td) := ⟨⟨c0, c1⟩, a0, a1, a2, a3, a4⟩
    refine wp_region_held (S := (fun w' : World => (w'.cell? ⟨b, 0, none⟩ = some (.slice (some ⟨qb, 0, none⟩) n cap) ∧ w'.cell? ⟨b, 1, none⟩ = some (.int .i64 k)) ∧ w'.cell? ⟨qb, k * 5, none⟩ = some (.int .i64 tk) ∧ w'.cell? ⟨qb, k * 5 + 1, none⟩ = some (.int .i64 ta) ∧ w'.cell? ⟨qb, k * 5 + 2, none⟩ = some (.string (bs tt)) ∧ w'.cell? ⟨qb, k * 5 + 3, none⟩ = some (.int .i64 tn) ∧ w'.cell? ⟨qb, k * 5 + 4, none⟩ = some (.int .i64 td))) mixed ?_
    change wpAnyH _ _ _ _ _ _ _ _ v.drew
    refine tk0 (v := ?_) (by kernel_rfl) (by kernel_rfl) (by kernel_rfl) (fun _ _ _ h => h) (Or.inl ⟨by rfl, ?_⟩) hS ?_
    rotate_left
    · (intro w hSw; (try dsimp only at hSw); go_simp; try with_reducible rfl)
    simp only [Act.put, List.setIfInBounds_toArray, List.set_cons_zero, List.set_cons_succ]
    refine tk1 (v := ?_) (by kernel_rfl) (by kernel_rfl) (by kernel_rfl) (fun _ _ _ h => h) (Or.inl ⟨by rfl, ?_⟩) hS ?_
    rotate_left
    · (intro w hSw; (try dsimp only at hSw); go_simp; try with_reducible rfl)
    simp only [Act.put, List.setIfInBounds_toArray, List.set_cons_zero, List.set_cons_succ]
    refine tk2 (v := ?_) (by kernel_rfl) (by kernel_rfl) (by kernel_rfl) (fun _ _ _ h => h) (Or.inl ⟨by rfl, ?_⟩) hS ?_
    rotate_left
    · (intro w hSw; (try dsimp only at hSw); go_simp; try with_reducible rfl)
    simp only [Act.put, List.setIfInBounds_toArray, List.set_cons_zero, List.set_cons_succ]
    refine tk3 (v := ?_) (by kernel_rfl) (by kernel_rfl) (by kernel_rfl) (fun _ _ _ h => h) (Or.inl ⟨by rfl, ?_⟩) hS ?_
    rotate_left
    · (intro w hSw; (try dsimp only at hSw); go_simp; try with_reducible rfl)
    simp only [Act.put, List.setIfInBounds_toArray, List.set_cons_zero, List.set_cons_succ]
    refine tk4 (v := ?_) (by kernel_rfl) (by kernel_rfl) (by kernel_rfl) (fun _ _ _ h => h) (Or.inl ⟨by rfl, ?_⟩) hS ?_
    rotate_left
    · (intro w hSw; (try dsimp only at hSw); go_simp; try with_reducible rfl)
    simp only [Act.put, List.setIfInBounds_toArray, List.set_cons_zero, List.set_cons_succ]
    refine tk5 (v := ?_) (by kernel_rfl) (by kernel_rfl) (by kernel_rfl) (fun _ _ _ h => h) (Or.inl ⟨by rfl, ?_⟩) hS ?_
    rotate_left
    · (intro w hSw; (try dsimp only at hSw); go_simp; try with_reducible rfl)
    simp only [Act.put, List.setIfInBounds_toArray, List.set_cons_zero, List.set_cons_succ]
    refine tk6 (v := ?_) (by kernel_rfl) (by kernel_rfl) (by kernel_rfl) (fun _ _ _ h => h) (Or.inl ⟨by rfl, ?_⟩) hS ?_
    rotate_left
    · (intro w hSw; (try dsimp only at hSw); go_simp; try with_reducible rfl)
    simp only [Act.put, List.setIfInBounds_toArray, List.set_cons_zero, List.set_cons_succ]
    refine tk7 (v := ?_) (by kernel_rfl) (by kernel_rfl) (by kernel_rfl) (fun _ _ _ h => h) (Or.inl ⟨by rfl, ?_⟩) hS ?_
    rotate_left
    · (intro w hSw; (try dsimp only at hSw); go_simp; try with_reducible rfl)
    simp only [Act.put, List.setIfInBounds_toArray, List.set_cons_zero, List.set_cons_succ]
    refine tk8 (v := ?_) (by kernel_rfl) (by kernel_rfl) (by kernel_rfl) (fun _ _ _ h => h) (Or.inl ⟨by rfl, ?_⟩) hS ?_
    rotate_left
    · (intro w hSw; (try dsimp only at hSw); go_simp; try with_reducible rfl)
    simp only [Act.put, List.setIfInBounds_toArray, List.set_cons_zero, List.set_cons_succ]
    refine tk9 (v := ?_) (by kernel_rfl) (by kernel_rfl) (by kernel_rfl) (fun _ _ _ h => h) (Or.inl ⟨by rfl, ?_⟩) hS ?_
    rotate_left
    · (intro w hSw; (try dsimp only at hSw); go_simp; try with_reducible rfl)
    simp only [Act.put, List.setIfInBounds_toArray, List.set_cons_zero, List.set_cons_succ]
    refine wpAnyH_ready (rs := [10]) (by kernel_rfl) (by simp) (st10 (fun K hK => ?_) AllReadyH.nil)
    go_simp
    refine hK.out _ _ ?_ (fun hHeld => ?_)
    · exact (by refine ⟨⟨?_, ?_⟩, ?_, ?_, ?_, ?_, ?_⟩ <;> simp [go_sem, c0, c1, a0, a1, a2, a3, a4])
    clear hK K
    try simp only [Act.put, List.setIfInBounds_toArray, List.set_cons_zero, List.set_cons_succ]
    refine wpAnyH_done (by kernel_rfl) ?_ _
    go_wp2_with fail
    exact bodyPost_ret (v := tokV ⟨tk, ta, tt, tn, td⟩) (by simp [results, Tryz.results64, go_sem, tokV, x0, x1, x2, x3, x4]) rfl ⟨rfl, (by repeat' (first | (with_reducible exact BV.out) | (with_reducible refine Below.setCell ?_ ?_ _) | (with_reducible refine Below.alloc ?_ ?_ _) | (with_reducible refine Below.drew ?_) | (with_reducible refine below_drewN ?_ _) | (with_reducible exact Below.refl _ _) | omega | (simp; done) | (simp; omega)))⟩
  · have hd : decide (k = ts.length) = true := decide_eq_true (by have := h.kl; omega)
    rw [hd] at KE
    rw [pk_end (by omega)]
    clear hd h
    go_enter Tryz.func64, Tryz.ntmps64
    go_wp2_with fail
    rw [← hW1]
    clear hW1
    refine (KE.out _ R1.out).mono ?_
    rintro _ v ⟨rfl, hb⟩
    have BV := Lib.hid (B1.out.trans (hb.mono B1.out.size))
    have RV := Lib.hid (R1.out.bel hb)
    have XV := Lib.hid (X1.out.bel hb)
    clear hb R1 X1 B1 KE
    have c2 := RV.out.c2
    obtain ⟨x0, x1, x2, x3, x4, g0, g1, g2, g3, g4⟩ := XV.out
    clear RV XV
    go_wp2_with fail
    exact bodyPost_ret (v := tokV ⟨0, En, [], 0, 0⟩) (by simp [results, Tryz.results64, go_sem, tokV, x0, x1, x2, x3, x4, bs]) rfl ⟨rfl, (by repeat' (first | (with_reducible exact BV.out) | (with_reducible refine Below.setCell ?_ ?_ _) | (with_reducible refine Below.alloc ?_ ?_ _) | (with_reducible refine Below.drew ?_) | (with_reducible refine below_drewN ?_ _) | (with_reducible exact Below.refl _ _) | omega | (simp; done) | (simp; omega)))⟩
set_option maxRecDepth 100000 in
set_option maxHeartbeats 400000 in
theorem fail_p (E a : Int) (w : World) : Calls Tryz.prog 41 #[.int .i64 E, .int .i64 a] w fun e w' => e = .panicked (failP E a) ∧ w' = w := by
  go_enter Tryz.func41, Tryz.ntmps41
  go_wp2
  exact bodyPost_panic rfl ⟨rfl, rfl⟩
/-- The fields of a token. -/
theorem fld_at (k a n d : Int) (t : ByteArray) (w : World) : (Instr.field 88 (.agg #[.int .i64 k, .int .i64 a, .string t, .int .i64 n, .int .i64 d]) 1).run Tryz.prog w = .ok (.int .i64 a) w := by kernel_rfl
theorem fld_text (k a n d : Int) (t : ByteArray) (w : World) : (Instr.field 88 (.agg #[.int .i64 k, .int .i64 a, .string t, .int .i64 n, .int .i64 d]) 2).run Tryz.prog w = .ok (.string t) w := by kernel_rfl
set_option maxRecDepth 100000 in
set_option maxHeartbeats 400000 in
theorem refuse_any {b cap qb En mb k : Nat} {p : Option Addr} {ts : List Tok} (w : World) (h : Rd w b p cap qb ts En mb k) : Calls Tryz.prog 58 #[.pointer (some ⟨b, 0, none⟩)] w fun e w' => e = .panicked (failP 10 (offs ts En (ts.length - k))) ∧ RowKit.Below w.heap.size w w' := by
  have KP := Lib.hid (peek_any w h)
  rw [← pk_offs (En := En) h.kl]
  clear h
  generalize pk ts En k = t at *
  obtain ⟨tk, ta, tt, tn, td⟩ := t
  unfold tokV at KP
  have hf := fld_at
  go_enter Tryz.func58, Tryz.ntmps58
  go_wp2_with fail
  refine KP.out.mono ?_
  rintro _ v ⟨rfl, hb⟩
  have HB := Lib.hid hb
  clear hb
  go_wp2_with fail
  refine (fail_p _ _ _).mono ?_
  rintro _ _ ⟨rfl, rfl⟩
  go_wp2_with fail
  exact bodyPost_panic rfl ⟨rfl, HB.out⟩
end Go.Proofs.YtedbpjcglnkjmaaGreatDoor
namespace Go.Proofs.YtedbpjcglnkjmaaGreatDoor
open Go.RowKit Lx Pa

/-- Which of some words a string is. -/
def idx (l : List (List UInt8)) (x : List UInt8) : Option Nat := l.findIdx? (· == x)
theorem which_pk {ts : List Tok} {En k : Nat} (hk : TokOk ts) : ∀ (l : List (List UInt8)) (i : Nat), [] ∉ l → whichI l (ts.drop k) i = (idx l (pk ts En k).t).map (· + i)
  | [], i, _ => rfl
  | s :: l, i, hl => by
    rw [whichI, pk_isW (En := En) hk (fun e => hl (by simp [e])), which_pk hk l (i + 1) (fun e => hl (by simp [e]))]
    unfold idx
    rw [List.findIdx?_cons]
    by_cases e : (pk ts En k).t = s
    · subst e; simp
    · have e1 : ((pk ts En k).t == s) = false := by simpa using e
      have e2 : (s == (pk ts En k).t) = false := by simpa using Ne.symm e
      rw [e1, e2]
      simp only [Bool.false_eq_true, if_false, Option.map_map]
      congr 1
      funext x
      show x + (i + 1) = x + 1 + i
      omega
theorem bs_beq' (a b : List UInt8) : ((bs a).toList == (bs b).toList) = (a == b) := by rw [bs_list, bs_list]
/-- The number of a kind of rules, or 0. -/
def kindN (x : List UInt8) : Int := ((idx kinds x).map fun i => (i : Int) + 1).getD 0
set_option maxRecDepth 100000 in
set_option maxHeartbeats 4000000 in
theorem kindOf_any (x : List UInt8) (w : World) : Calls Tryz.prog 65 #[.string (bs x)] w fun e w' => e = .returned (.int .i64 (kindN x)) ∧ w' = w := by
  go_enter Tryz.func65, Tryz.ntmps65
  go_wp2_with fail
  all_goals
    go_ret
    refine ⟨ret_i64 ?_, rfl⟩
    simp_all only [bs_list, beq_iff_eq, beq_eq_false_iff_ne, ne_eq]
    first | rfl | simp_all [kindN, idx, kinds, List.findIdx?_cons, Ne.symm]
set_option maxRecDepth 100000 in
set_option maxHeartbeats 4000000 in
theorem reserved_any (x : List UInt8) (w : World) : Calls Tryz.prog 102 #[.string (bs x)] w fun e w' => e = .returned (.bool (reserved.contains x)) ∧ w' = w := by
  go_enter Tryz.func102, Tryz.ntmps102
  go_wp2_with fail
  all_goals
    go_ret
    refine ⟨ret_bool ?_, rfl⟩
    simp_all only [bs_list, beq_iff_eq, beq_eq_false_iff_ne, ne_eq]
    first | rfl | simp_all [reserved, kAbout, kAnd, kArea, kDays, kElse, kFlag, kFrom, kGive, kIf, kKnown, kMax, kMin, kMoney, kNot, kNumber, kOr, kThen, kTo, kTrue, kUntil, kWhen]
/-- A unit with a name, and whether there is one. -/
def uV (u : Option Nat) : Value := match u with
  | some u => .agg #[.bool (uF u), .int .i64 (uM u), .int .i64 (uA u), .int .i64 (uD u)]
  | none => .agg #[.bool false, .int .i64 0, .int .i64 0, .int .i64 0]
set_option maxRecDepth 100000 in
set_option maxHeartbeats 4000000 in
theorem unitOf_any (x : List UInt8) (w : World) : Calls Tryz.prog 103 #[.string (bs x)] w fun e w' => e = .returned (.tuple #[uV (idx units x), .bool (idx units x).isSome]) ∧ RowKit.Below w.heap.size w w' := by
  have HB := Lib.hid (Below.refl w.heap.size w)
  go_enter Tryz.func103, Tryz.ntmps103
  go_wp2_with fail
  all_goals
    simp_all only [bs_list, beq_iff_eq, beq_eq_false_iff_ne, ne_eq]
    refine bodyPost_ret (v := .tuple #[uV (idx units _), .bool (idx units _).isSome]) ?_ rfl ⟨rfl, (by repeat' (first | (with_reducible exact HB.out) | (with_reducible refine Below.setCell ?_ ?_ _) | (with_reducible refine Below.alloc ?_ ?_ _) | (with_reducible refine Below.drew ?_) | (with_reducible refine below_drewN ?_ _) | (with_reducible exact Below.refl _ _) | omega | (simp; done) | (simp; omega)))⟩
    first
      | (simp [results, Tryz.results103, go_sem, uV, idx, units, kFlag, kNumber, kMoney, kArea, kDays, uF, uM, uA, uD, List.findIdx?_cons]; done)
      | simp_all [results, Tryz.results103, go_sem, uV, idx, units, kFlag, kNumber, kMoney, kArea, kDays, List.findIdx?_cons, Ne.symm]
end Go.Proofs.YtedbpjcglnkjmaaGreatDoor
namespace Go.Proofs.YtedbpjcglnkjmaaGreatDoor
open Go.RowKit Lx Pa

/-- What a method of the reader's that reads leaves: a value, or a panic. -/
def PostO {α : Type} (w0 : World) (b : Nat) (p : Option Addr) (cap qb : Nat) (ts : List Tok) (En mb : Nat) (val : α → Value → World → Prop) (o : Out α) (e : Ending) (w' : World) : Prop :=
  match o with
  | .ok a r => ∃ v k', e = .returned v ∧ val a v w' ∧ Kept b w0 w' ∧ Rd w' b p cap qb ts En mb k' ∧ r = ts.drop k'
  | .er E q m => ∃ k', e = .panicked (failP E (offs ts En q)) ∧ Kept b w0 w' ∧ Rd w' b p cap qb ts En mb k' ∧ m = ts.length - k'
section
variable {α : Type} {w w' w0 : World} {b cap qb En mb k k' : Nat} {p : Option Addr} {ts : List Tok} {val : α → Value → World → Prop}
theorem PostO.ok {o : Out α} {a : α} {v : Value} (ho : o = .ok a (ts.drop k')) (hv : val a v w') (h : Sx w0 w' b p cap qb ts En mb k') : PostO w0 b p cap qb ts En mb val o (.returned v) w' := by
  subst ho; exact ⟨v, k', rfl, hv, h.kp, h.rd, rfl⟩
theorem PostO.er {o : Out α} {E : Int} {q m : Nat} {a : Int} (ho : o = .er E q m) (ha : a = offs ts En q) (hm : m = ts.length - k') (h : Sx w0 w' b p cap qb ts En mb k') : PostO w0 b p cap qb ts En mb val o (.panicked (failP E a)) w' := by
  subst ho; subst ha; exact ⟨k', rfl, h.kp, h.rd, hm⟩
theorem PostO.bad {a : Int} (ha : a = offs ts En (ts.length - k)) (h : Sx w0 w' b p cap qb ts En mb k) : PostO w0 b p cap qb ts En mb val (bad (ts.drop k)) (.panicked (failP 10 a)) w' := by
  refine PostO.er (E := 10) (q := ts.length - k) (m := ts.length - k) ?_ ha rfl h
  unfold Pa.bad; rw [List.length_drop]
theorem pk_lt (h : (pk ts En k).t ≠ []) : k < ts.length := by
  rcases Nat.lt_or_ge k ts.length with z | z
  · exact z
  · rw [pk_end z] at h; exact absurd rfl h
theorem pk_lt' (h : (pk ts En k).k ≠ 0) : k < ts.length := by
  rcases Nat.lt_or_ge k ts.length with z | z
  · exact z
  · rw [pk_end z] at h; exact absurd rfl h
end
/-- One more than a place. -/
theorem succ_in {k n : Nat} (h : k ≤ n) (hm : n ≤ 1000000) : IntKind.i64.wrap ((k : Int) + 1) = ((k + 1 : Nat) : Int) := by rw [IntWalk.i64_in _ (by omega)]; rfl
section
variable {b cap qb En mb k : Nat} {p : Option Addr} {ts : List Tok}
set_option maxRecDepth 100000 in
set_option maxHeartbeats 800000 in
theorem passes_any (s : List UInt8) (hs : s ≠ []) (w : World) (h : Rd w b p cap qb ts En mb k) : Calls Tryz.prog 68 #[.pointer (some ⟨b, 0, none⟩), .string (bs s)] w fun e w' => e = .returned (.bool (isW s (ts.drop k))) ∧ Kept b w w' ∧ Rd w' b p cap qb ts En mb (if isW s (ts.drop k) = true then k + 1 else k) := by
  have KP := Lib.hid (peek_any w h)
  have S0 := Lib.hid (Sx.start h)
  rw [pk_isW (En := En) h.ok hs]
  have hk1 := succ_in h.kl h.tk.max
  have hf := fld_text
  have HL : Hid ((pk ts En k).t = s → k < ts.length) := fun e => pk_lt (En := En) (by rw [e]; exact hs)
  clear h
  generalize pk ts En k = t at *
  obtain ⟨tk, ta, tt, tn, td⟩ := t
  unfold tokV at KP
  by_cases hx : tt = s
  · have e1 : ((bs tt).toList == (bs s).toList) = true := by rw [hx]; simp
    have e2 : (tt == s) = true := by rw [hx]; simp
    have hl := HL.out hx
    rw [e2, if_pos rfl]
    clear e2 HL
    go_enter Tryz.func68, Tryz.ntmps68
    go_wp2_with fail
    refine KP.out.mono ?_
    rintro _ v ⟨rfl, hb⟩
    have S1 := Lib.hid (S0.out.bel hb)
    clear hb KP S0
    obtain ⟨-, c1, -, -, f1, -, -, -, -, -, -⟩ := S1.out.rd
    go_wp2_with fail
    go_ret
    exact ⟨rfl, (S1.out.next hl).kp, (S1.out.next hl).rd⟩
  · have e1 : ((bs tt).toList == (bs s).toList) = false := by rw [bs_beq']; simpa using hx
    have e2 : (tt == s) = false := by simpa using hx
    rw [e2, if_neg (by simp)]
    clear e2 HL
    go_enter Tryz.func68, Tryz.ntmps68
    go_wp2_with fail
    refine KP.out.mono ?_
    rintro _ v ⟨rfl, hb⟩
    have S1 := Lib.hid (S0.out.bel hb)
    clear hb KP S0
    go_wp2_with fail
    go_ret
    exact ⟨rfl, S1.out.kp, S1.out.rd⟩
def vU (_ : Unit) (v : Value) (_ : World) : Prop := v = .tuple #[]
def vS (x : List UInt8) (v : Value) (_ : World) : Prop := v = .string (bs x)
def vI (x : Int) (v : Value) (_ : World) : Prop := v = .int .i64 x
def vN (u : Nat) (v : Value) (_ : World) : Prop := v = uV (some u)
set_option maxRecDepth 100000 in
set_option maxHeartbeats 800000 in
theorem need_any (s : List UInt8) (hs : s ≠ []) (w : World) (h : Rd w b p cap qb ts En mb k) : Calls Tryz.prog 78 #[.pointer (some ⟨b, 0, none⟩), .string (bs s)] w fun e w' => PostO w b p cap qb ts En mb vU (need s (ts.drop k)) e w' := by
  have KP := Lib.hid (passes_any s hs w h)
  have S0 := Lib.hid (Sx.start h)
  clear h
  unfold need
  cases hw : isW s (ts.drop k)
  · rw [hw] at KP
    rw [if_neg (by simp)] at KP ⊢
    clear hw
    go_enter Tryz.func78, Tryz.ntmps78
    go_wp2_with fail
    refine KP.out.mono ?_
    rintro _ v ⟨rfl, h1, h2⟩
    have S1 := Lib.hid (S0.out.call h1 h2)
    clear h1 h2 KP S0
    go_wp2_with fail
    refine (refuse_any _ S1.out.rd).mono ?_
    rintro _ v2 ⟨rfl, hb⟩
    have S2 := Lib.hid (S1.out.bel hb)
    go_wp2_with fail
    exact bodyPost_panic rfl (PostO.bad rfl S2.out)
  · rw [hw] at KP
    rw [if_pos rfl] at KP ⊢
    rw [List.tail_drop]
    clear hw
    go_enter Tryz.func78, Tryz.ntmps78
    go_wp2_with fail
    refine KP.out.mono ?_
    rintro _ v ⟨rfl, h1, h2⟩
    have S1 := Lib.hid (S0.out.call h1 h2)
    clear h1 h2 KP S0
    go_wp2_with fail
    go_end0
    exact PostO.ok rfl rfl S1.out
end
end Go.Proofs.YtedbpjcglnkjmaaGreatDoor
namespace Go.Proofs.YtedbpjcglnkjmaaGreatDoor
open Go.RowKit Lx Pa

section
variable {b cap qb En mb k : Nat} {p : Option Addr} {ts : List Tok}
theorem nameO_pk (hk : TokOk ts) : nameO (ts.drop k) = if decide ((pk ts En k).k = 1) && !(reserved.contains (pk ts En k).t) then .ok (pk ts En k).t (ts.drop (k + 1)) else bad (ts.drop k) := by
  rw [← pk_isA hk]
  rcases Nat.lt_or_ge k ts.length with z | z
  · rw [pk_cons (En := En) z]; rfl
  · rw [List.drop_eq_nil_of_le z]; rfl
theorem wholeO_pk : wholeO (ts.drop k) = if (pk ts En k).k = 2 then (if (pk ts En k).d = 1 then .ok (pk ts En k).n (ts.drop (k + 1)) else .er 3 (ts.length - k) (ts.length - k)) else bad (ts.drop k) := by
  rcases Nat.lt_or_ge k ts.length with z | z
  · have e : ts.length - k = (ts.drop (k + 1)).length + 1 := by rw [List.length_drop]; omega
    rw [e, pk_cons (En := En) z]; rfl
  · rw [List.drop_eq_nil_of_le z, pk_end z]; rfl
theorem unitO_pk (hk : TokOk ts) : unitO (ts.drop k) = match idx units (pk ts En k).t with
    | none => bad (ts.drop k)
    | some u => .ok u (ts.drop (k + 1)) := by
  unfold unitO which
  rw [which_pk (En := En) hk units 0 (by decide), List.tail_drop]
  cases idx units (pk ts En k).t <;> rfl
theorem idx_lt {l : List (List UInt8)} {x : List UInt8} {u : Nat} (h : idx l x = some u) : ∃ h : u < l.length, l[u] = x := by
  obtain ⟨h1, h2, -⟩ := List.findIdx?_eq_some_iff_getElem.1 h
  exact ⟨h1, by simpa using h2⟩
/-- A box of four cells. -/
structure B4 (w : World) (b : Nat) (x0 x1 x2 x3 : Value) : Prop where
  c0 : w.cell? ⟨b, 0, none⟩ = some x0
  c1 : w.cell? ⟨b, 1, none⟩ = some x1
  c2 : w.cell? ⟨b, 2, none⟩ = some x2
  c3 : w.cell? ⟨b, 3, none⟩ = some x3
  f0 : w.frozen? ⟨b, 0, none⟩ = false
  f1 : w.frozen? ⟨b, 1, none⟩ = false
  f2 : w.frozen? ⟨b, 2, none⟩ = false
  f3 : w.frozen? ⟨b, 3, none⟩ = false
theorem B4.new (w : World) (x0 x1 x2 x3 : Value) (T : Nat) : B4 (w.alloc (.cells #[x0, x1, x2, x3] T)) w.heap.size x0 x1 x2 x3 := ⟨by simp, by simp, by simp, by simp, by simp, by simp, by simp, by simp⟩
theorem B4.of {w w1 : World} {b : Nat} {x0 x1 x2 x3 : Value} (h : B4 w b x0 x1 x2 x3) (hb : w1.heap[b]? = w.heap[b]?) : B4 w1 b x0 x1 x2 x3 := by
  have c : ∀ o, w1.cell? ⟨b, o, none⟩ = w.cell? ⟨b, o, none⟩ := fun o => World.cell?_of_block (w := w) (a := ⟨b, o, none⟩) hb
  have f : ∀ o, w1.frozen? ⟨b, o, none⟩ = w.frozen? ⟨b, o, none⟩ := fun o => World.frozen?_of_block (w := w) (a := ⟨b, o, none⟩) hb
  exact ⟨(c 0).trans h.c0, (c 1).trans h.c1, (c 2).trans h.c2, (c 3).trans h.c3, (f 0).trans h.f0, (f 1).trans h.f1, (f 2).trans h.f2, (f 3).trans h.f3⟩
theorem B4.bel {w w1 : World} {b : Nat} {x0 x1 x2 x3 : Value} (h : B4 w b x0 x1 x2 x3) (hB : RowKit.Below w.heap.size w w1) : B4 w1 b x0 x1 x2 x3 := h.of (hB.block b (World.block_lt_of_cell? _ _ h.c0))
/-- The box of a token. -/
def tBox (k a n d : Int) (t : ByteArray) : Obj := .cells #[.int .i64 k, .int .i64 a, .string t, .int .i64 n, .int .i64 d] 88
set_option maxRecDepth 100000 in
set_option maxHeartbeats 1200000 in
theorem name_any (w : World) (h : Rd w b p cap qb ts En mb k) : Calls Tryz.prog 85 #[.pointer (some ⟨b, 0, none⟩)] w fun e w' => PostO w b p cap qb ts En mb vS (nameO (ts.drop k)) e w' := by
  have KP := Lib.hid (peek_any w h)
  have S0 := Lib.hid (Sx.start h)
  have KR := Lib.hid reserved_any
  have KF := Lib.hid (fun w h => refuse_any (b := b) (cap := cap) (qb := qb) (En := En) (mb := mb) (k := k) (p := p) (ts := ts) w h)
  rw [nameO_pk (En := En) h.ok]
  have hk1 := succ_in h.kl h.tk.max
  have HL : Hid ((pk ts En k).k = 1 → k < ts.length) := fun e => pk_lt' (En := En) (by rw [e]; decide)
  clear h
  generalize pk ts En k = t at *
  obtain ⟨tk, ta, tt, tn, td⟩ := t
  unfold tokV at KP
  by_cases hx : tk = 1
  · have hl := HL.out hx
    subst hx
    cases hr : reserved.contains tt
    · have KQ := Lib.hid (fun w => reserved_any tt w)
      rw [hr] at KQ
      rw [if_pos (by rfl)]
      clear HL hr KR KF
      go_enter Tryz.func85, Tryz.ntmps85
      go_wp2_with fail
      refine KP.out.mono ?_
      rintro _ v ⟨rfl, hb⟩
      have NB : v.heap.size ≠ b := by have h1 := (S0.out.bel hb).kp.size; have h2 := S0.out.bl; omega
      have S1 := Lib.hid ((S0.out.bel hb).alloc (tBox 1 ta tn td (bs tt)))
      have X := Lib.hid (B5.new v (.int .i64 1) (.int .i64 ta) (.string (bs tt)) (.int .i64 tn) (.int .i64 td) 88)
      clear hb KP S0
      unfold tBox at S1
      obtain ⟨x0, x1, x2, x3, x4, -, -, -, -, -⟩ := X.out
      go_wp2_with fail
      generalize v.alloc (.cells #[.int .i64 1, .int .i64 ta, .string (bs tt), .int .i64 tn, .int .i64 td] 88) = v1 at *
      refine (KQ.out _).mono ?_
      rintro _ _ ⟨rfl, rfl⟩
      obtain ⟨-, c1, -, -, f1, -, -, -, -, -, -⟩ := S1.out.rd
      go_wp2_with fail
      go_ret
      exact PostO.ok rfl rfl (S1.out.next hl)
    · have KQ := Lib.hid (fun w => reserved_any tt w)
      rw [hr] at KQ
      rw [if_neg (by simp)]
      clear HL hr KR
      go_enter Tryz.func85, Tryz.ntmps85
      go_wp2_with fail
      refine KP.out.mono ?_
      rintro _ v ⟨rfl, hb⟩
      have NB : v.heap.size ≠ b := by have h1 := (S0.out.bel hb).kp.size; have h2 := S0.out.bl; omega
      have S1 := Lib.hid ((S0.out.bel hb).alloc (tBox 1 ta tn td (bs tt)))
      have X := Lib.hid (B5.new v (.int .i64 1) (.int .i64 ta) (.string (bs tt)) (.int .i64 tn) (.int .i64 td) 88)
      clear hb KP S0
      unfold tBox at S1
      obtain ⟨x0, x1, x2, x3, x4, -, -, -, -, -⟩ := X.out
      go_wp2_with fail
      generalize v.alloc (.cells #[.int .i64 1, .int .i64 ta, .string (bs tt), .int .i64 tn, .int .i64 td] 88) = v1 at *
      refine (KQ.out _).mono ?_
      rintro _ _ ⟨rfl, rfl⟩
      go_wp2_with fail
      refine (KF.out _ S1.out.rd).mono ?_
      rintro _ _ ⟨rfl, hb2⟩
      have S2 := Lib.hid (S1.out.bel hb2)
      go_wp2_with fail
      exact bodyPost_panic rfl (PostO.bad rfl S2.out)
  · have e1 : (tk == 1) = false := by simpa using hx
    rw [if_neg (by simp [hx])]
    clear HL KR
    go_enter Tryz.func85, Tryz.ntmps85
    go_wp2_with fail
    refine KP.out.mono ?_
    rintro _ v ⟨rfl, hb⟩
    have NB : v.heap.size ≠ b := by have h1 := (S0.out.bel hb).kp.size; have h2 := S0.out.bl; omega
    have S1 := Lib.hid ((S0.out.bel hb).alloc (tBox tk ta tn td (bs tt)))
    have X := Lib.hid (B5.new v (.int .i64 tk) (.int .i64 ta) (.string (bs tt)) (.int .i64 tn) (.int .i64 td) 88)
    clear hb KP S0
    unfold tBox at S1
    obtain ⟨x0, x1, x2, x3, x4, -, -, -, -, -⟩ := X.out
    go_wp2_with fail
    generalize v.alloc (.cells #[.int .i64 tk, .int .i64 ta, .string (bs tt), .int .i64 tn, .int .i64 td] 88) = v1 at *
    refine (KF.out _ S1.out.rd).mono ?_
    rintro _ _ ⟨rfl, hb2⟩
    have S2 := Lib.hid (S1.out.bel hb2)
    go_wp2_with fail
    exact bodyPost_panic rfl (PostO.bad rfl S2.out)
set_option maxRecDepth 100000 in
set_option maxHeartbeats 1200000 in
theorem whole_any (w : World) (h : Rd w b p cap qb ts En mb k) : Calls Tryz.prog 87 #[.pointer (some ⟨b, 0, none⟩)] w fun e w' => PostO w b p cap qb ts En mb vI (wholeO (ts.drop k)) e w' := by
  have KP := Lib.hid (peek_any w h)
  have S0 := Lib.hid (Sx.start h)
  have KF := Lib.hid (fun w h => refuse_any (b := b) (cap := cap) (qb := qb) (En := En) (mb := mb) (k := k) (p := p) (ts := ts) w h)
  have HO : Hid ((pk ts En k).a = offs ts En (ts.length - k)) := pk_offs h.kl
  rw [wholeO_pk (En := En)]
  have hk1 := succ_in h.kl h.tk.max
  have HL : Hid ((pk ts En k).k = 2 → k < ts.length) := fun e => pk_lt' (En := En) (by rw [e]; decide)
  clear h
  generalize pk ts En k = t at *
  obtain ⟨tk, ta, tt, tn, td⟩ := t
  unfold tokV at KP
  by_cases hx : tk = 2
  · have hl := HL.out hx
    subst hx
    rw [if_pos rfl]
    by_cases hd : td = 1
    · subst hd
      rw [if_pos rfl]
      clear HL KF
      go_enter Tryz.func87, Tryz.ntmps87
      go_wp2_with fail
      refine KP.out.mono ?_
      rintro _ v ⟨rfl, hb⟩
      have NB : v.heap.size ≠ b := by have h1 := (S0.out.bel hb).kp.size; have h2 := S0.out.bl; omega
      have S1 := Lib.hid ((S0.out.bel hb).alloc (tBox 2 ta tn 1 (bs tt)))
      have X := Lib.hid (B5.new v (.int .i64 2) (.int .i64 ta) (.string (bs tt)) (.int .i64 tn) (.int .i64 1) 88)
      clear hb KP S0
      unfold tBox at S1
      obtain ⟨x0, x1, x2, x3, x4, -, -, -, -, -⟩ := X.out
      obtain ⟨-, c1, -, -, f1, -, -, -, -, -, -⟩ := S1.out.rd
      go_wp2_with fail
      go_ret
      exact PostO.ok rfl rfl (S1.out.next hl)
    · have e1 : (td == 1) = false := by simpa using hd
      rw [if_neg hd]
      clear HL KF
      go_enter Tryz.func87, Tryz.ntmps87
      go_wp2_with fail
      refine KP.out.mono ?_
      rintro _ v ⟨rfl, hb⟩
      have NB : v.heap.size ≠ b := by have h1 := (S0.out.bel hb).kp.size; have h2 := S0.out.bl; omega
      have S1 := Lib.hid ((S0.out.bel hb).alloc (tBox 2 ta tn td (bs tt)))
      have X := Lib.hid (B5.new v (.int .i64 2) (.int .i64 ta) (.string (bs tt)) (.int .i64 tn) (.int .i64 td) 88)
      clear hb KP S0
      unfold tBox at S1
      obtain ⟨x0, x1, x2, x3, x4, -, -, -, -, -⟩ := X.out
      go_wp2_with fail
      generalize v.alloc (.cells #[.int .i64 2, .int .i64 ta, .string (bs tt), .int .i64 tn, .int .i64 td] 88) = v1 at *
      refine (fail_p _ _ _).mono ?_
      rintro _ _ ⟨rfl, rfl⟩
      go_wp2_with fail
      exact bodyPost_panic rfl (PostO.er rfl HO.out rfl S1.out)
  · have e1 : (tk == 2) = false := by simpa using hx
    rw [if_neg hx]
    clear HL
    go_enter Tryz.func87, Tryz.ntmps87
    go_wp2_with fail
    refine KP.out.mono ?_
    rintro _ v ⟨rfl, hb⟩
    have NB : v.heap.size ≠ b := by have h1 := (S0.out.bel hb).kp.size; have h2 := S0.out.bl; omega
    have S1 := Lib.hid ((S0.out.bel hb).alloc (tBox tk ta tn td (bs tt)))
    have X := Lib.hid (B5.new v (.int .i64 tk) (.int .i64 ta) (.string (bs tt)) (.int .i64 tn) (.int .i64 td) 88)
    clear hb KP S0
    unfold tBox at S1
    obtain ⟨x0, x1, x2, x3, x4, -, -, -, -, -⟩ := X.out
    go_wp2_with fail
    generalize v.alloc (.cells #[.int .i64 tk, .int .i64 ta, .string (bs tt), .int .i64 tn, .int .i64 td] 88) = v1 at *
    refine (KF.out _ S1.out.rd).mono ?_
    rintro _ _ ⟨rfl, hb2⟩
    have S2 := Lib.hid (S1.out.bel hb2)
    go_wp2_with fail
    exact bodyPost_panic rfl (PostO.bad rfl S2.out)
set_option maxRecDepth 100000 in
set_option maxHeartbeats 1200000 in
theorem unit_any (w : World) (h : Rd w b p cap qb ts En mb k) : Calls Tryz.prog 86 #[.pointer (some ⟨b, 0, none⟩)] w fun e w' => PostO w b p cap qb ts En mb vN (unitO (ts.drop k)) e w' := by
  have hf := fld_text
  have KP := Lib.hid (fun w h => peek_any (b := b) (cap := cap) (qb := qb) (En := En) (mb := mb) (k := k) (p := p) (ts := ts) w h)
  have S0 := Lib.hid ((Sx.start h).alloc (.cells #[.bool false, .int .i64 0, .int .i64 0, .int .i64 0] 33))
  have Z0 := Lib.hid (B4.new w (.bool false) (.int .i64 0) (.int .i64 0) (.int .i64 0) 33)
  have KF := Lib.hid (fun w h => refuse_any (b := b) (cap := cap) (qb := qb) (En := En) (mb := mb) (k := k) (p := p) (ts := ts) w h)
  rw [unitO_pk (En := En) h.ok]
  have hk1 := succ_in h.kl h.tk.max
  have HL : Hid ((pk ts En k).t ≠ [] → k < ts.length) := fun e => pk_lt (En := En) e
  clear h
  generalize pk ts En k = t at *
  obtain ⟨tk, ta, tt, tn, td⟩ := t
  have KU := Lib.hid (fun w => unitOf_any tt w)
  unfold tokV at KP
  cases hu : idx units tt with
  | none =>
    rw [hu] at KU
    clear HL hu Z0
    go_enter Tryz.func86, Tryz.ntmps86
    go_wp2_with fail
    refine (KP.out _ S0.out.rd).mono ?_
    rintro _ v ⟨rfl, hb⟩
    have S1 := Lib.hid (S0.out.bel hb)
    clear hb S0
    go_wp2_with fail
    refine (KU.out _).mono ?_
    rintro _ v2 ⟨rfl, hb⟩
    have S2 := Lib.hid ((S1.out.bel hb).alloc (.cells #[.bool false, .int .i64 0, .int .i64 0, .int .i64 0] 33))
    clear hb S1
    unfold uV
    go_wp2_with fail
    refine (KF.out _ S2.out.rd).mono ?_
    rintro _ _ ⟨rfl, hb⟩
    have S3 := Lib.hid (S2.out.bel hb)
    go_wp2_with fail
    exact bodyPost_panic rfl (PostO.bad rfl S3.out)
  | some u =>
    rw [hu] at KU
    have hl := HL.out (fun e => by subst e; cases hu)
    clear HL hu KF
    go_enter Tryz.func86, Tryz.ntmps86
    go_wp2_with fail
    refine (KP.out _ S0.out.rd).mono ?_
    rintro _ v ⟨rfl, hb⟩
    have S1 := Lib.hid (S0.out.bel hb)
    replace Z0 := Lib.hid (Z0.out.bel hb)
    clear hb S0
    go_wp2_with fail
    refine (KU.out _).mono ?_
    rintro _ v2 ⟨rfl, hb⟩
    have S2 := Lib.hid ((S1.out.bel hb).alloc (.cells #[.bool (uF u), .int .i64 (uM u), .int .i64 (uA u), .int .i64 (uD u)] 33))
    replace Z0 := Lib.hid ((Z0.out.bel hb).bel ((Below.refl _ _).alloc (Nat.le_refl _) (.cells #[.bool (uF u), .int .i64 (uM u), .int .i64 (uA u), .int .i64 (uD u)] 33)))
    have U0 := Lib.hid (B4.new v2 (.bool (uF u)) (.int .i64 (uM u)) (.int .i64 (uA u)) (.int .i64 (uD u)) 33)
    have NB : v2.heap.size ≠ b := by have h1 := (S1.out.bel hb).kp.size; have h2 := S1.out.bl; omega
    have NB2 : w.heap.size ≠ b := by have h2 := S1.out.bl; omega
    clear hb S1
    unfold uV
    obtain ⟨-, c1, -, -, f1, -, -, -, -, -, -⟩ := S2.out.rd
    obtain ⟨u0, u1, u2, u3, -, -, -, -⟩ := U0.out
    obtain ⟨z0, z1, z2, z3, g0, g1, g2, g3⟩ := Z0.out
    go_wp2_with fail
    exact bodyPost_ret (v := uV (some u)) (by simp [results, Tryz.results86, go_sem, uV, z0, z1, z2, z3]) rfl (PostO.ok rfl rfl (((((S2.out.next hl).other (Nat.le_refl _) 0 _).other (Nat.le_refl _) 1 _).other (Nat.le_refl _) 2 _).other (Nat.le_refl _) 3 _))
end
end Go.Proofs.YtedbpjcglnkjmaaGreatDoor
