/-
  Contracts of Make at all integers, of operate, and of Add, Sub, Mul and Div.
-/
import Derived.Test.YtmjdolgcgbiajaaPRatC
namespace Go.Proofs.Ytmjdolgcgbiajaa
open Go.RowKit

theorem make_any (n d : Int) (w : World) (n0 : -9223372036854775808 ≤ n) (n1 : n ≤ 9223372036854775807) (d0 : -9223372036854775808 ≤ d) (d1 : d ≤ 9223372036854775807) :
    Calls Try.prog 61 #[.int .i64 n, .int .i64 d] w fun e w' =>
      e = .returned (.tuple #[.agg #[.int .i64 (mk n d).1, .int .i64 (mk n d).2.1], .int .i64 (mk n d).2.2]) ∧ Below w.heap.size w w' := by
  by_cases h : d = 0
  · subst h
    exact make_zero n w
  · obtain ⟨g, x, y, hg, eg, _, _, _, _, ex, ey⟩ := Q.parts n d h
    have hz : (d == 0) = false := by simp; exact h
    have hh : Halved n d x y := ⟨n0, n1, d0, d1, by rw [eg] at hg; exact hg, ex, ey⟩
    unfold mk
    rw [if_neg h]
    unfold Q.red
    rw [ex, ey]
    by_cases hx : x > 1000000000 ∨ y > 1000000000
    · rw [if_pos hx]
      exact make_no n d x y w hz hh hx
    · rw [if_neg hx]
      by_cases hs : n < 0 ↔ d < 0
      · rw [if_pos hs]
        exact make_pos n d x y w hz hh (by omega) (by omega) hs
      · rw [if_neg hs]
        exact make_neg n d x y w hz hh (by omega) (by omega) hs

/-- Block b begins with two cells that may be written. -/
structure At2 (w : World) (b : Nat) (x y : Value) : Prop where
  c0 : w.cell? ⟨b, 0, none⟩ = some x
  c1 : w.cell? ⟨b, 1, none⟩ = some y
  f0 : w.frozen? ⟨b, 0, none⟩ = false
  f1 : w.frozen? ⟨b, 1, none⟩ = false
theorem At2.new (w : World) (x y : Value) (T : Nat) : At2 (w.alloc (.cells #[x, y] T)) w.heap.size x y := ⟨by simp, by simp, by simp, by simp⟩
theorem At2.below {w w1 : World} {b B : Nat} {x y : Value} (h : At2 w b x y) (hB : Below B w w1) (hb : b < B) : At2 w1 b x y :=
  ⟨(hB.cell (p := ⟨b, 0, none⟩) hb).trans h.c0, (hB.cell (p := ⟨b, 1, none⟩) hb).trans h.c1, (hB.frozen (p := ⟨b, 0, none⟩) hb).trans h.f0, (hB.frozen (p := ⟨b, 1, none⟩) hb).trans h.f1⟩
theorem At2.alloc {w : World} {b : Nat} {x y : Value} (h : At2 w b x y) (hb : b < w.heap.size) (o : Obj) : At2 (w.alloc o) b x y := h.below (B := w.heap.size) ((Below.refl _ _).alloc (Nat.le_refl _) _) hb

set_option maxRecDepth 100000 in
set_option maxHeartbeats 400000 in
theorem operate_ok (F : Nat) (a b c d n m : Int) (w : World) (h : vld a b = true) (k : vld c d = true) (hF : Does F a b c d n m)
    (hE : ∀ (args : Array Value) (w : World), (callFunc F args).run Try.prog w = .ok (.enter F args) w)
    (n0 : -9223372036854775808 ≤ n) (n1 : n ≤ 9223372036854775807) (d0 : -9223372036854775808 ≤ m) (d1 : m ≤ 9223372036854775807) :
    Calls Try.prog 77 #[.agg #[.int .i64 a, .int .i64 b], .agg #[.int .i64 c, .int .i64 d], .func (.func F) #[] #[]] w fun e w' =>
      e = .returned (.tuple #[.agg #[.int .i64 (mk n m).1, .int .i64 (mk n m).2.1], .int .i64 (mk n m).2.2]) ∧ Below w.heap.size w w' := by
  obtain ⟨a0, a1, b0, b1, _⟩ := (vld_iff a b).1 h
  obtain ⟨c0, c1, e0, e1, _⟩ := (vld_iff c d).1 k
  go_enter Try.func77, Try.ntmps77
  go_wp2_with fail
  refine (valid_any _ _ _ (by omega) (by omega) (by omega) (by omega)).mono ?_
  rintro e w1 ⟨rfl, hb1⟩
  have hz1 := hb1.size
  simp only [World.size_alloc] at hz1
  have A1 : At2 w1 w.heap.size (.int .i64 a) (.int .i64 b) := (((At2.new w _ _ _).alloc (by simp) _).alloc (by simp; omega) _).below hb1 (by simp; omega)
  have C1 : At2 w1 (w.heap.size + 1) (.int .i64 c) (.int .i64 d) := by
    have := ((At2.new (w.alloc (.cells #[.int .i64 a, .int .i64 b] 24)) (.int .i64 c) (.int .i64 d) 24).alloc (by simp) (.cells #[.int .i64 0, .int .i64 0] 24)).below hb1 (by simp)
    simpa using this
  have R1 : At2 w1 (w.heap.size + 1 + 1) (.int .i64 0) (.int .i64 0) := by
    have := (At2.new ((w.alloc (.cells #[.int .i64 a, .int .i64 b] 24)).alloc (.cells #[.int .i64 c, .int .i64 d] 24)) (.int .i64 0) (.int .i64 0) 24).below hb1 (by simp)
    simpa using this
  have HB1 : Below w.heap.size w w1 := ((((Below.refl _ _).alloc (Nat.le_refl _) _).alloc (by simp) _).alloc (by simp; omega) _).trans (hb1.mono (by simp; omega))
  clear hb1
  obtain ⟨p0, p1, p2, p3⟩ := A1
  obtain ⟨p4, p5, p6, p7⟩ := C1
  obtain ⟨p8, p9, p10, p11⟩ := R1
  go_wp2_with fail
  refine (valid_any _ _ _ (by omega) (by omega) (by omega) (by omega)).mono ?_
  rintro e w2 ⟨rfl, hb2⟩
  have hz2 := hb2.size
  have A2 := (At2.mk p0 p1 p2 p3).below hb2 (by omega)
  have C2 := (At2.mk p4 p5 p6 p7).below hb2 (by omega)
  have R2 := (At2.mk p8 p9 p10 p11).below hb2 (by omega)
  have HB2 : Below w.heap.size w w2 := HB1.trans (hb2.mono (by omega))
  clear p0 p1 p2 p3 p4 p5 p6 p7 p8 p9 p10 p11 hb2 HB1
  obtain ⟨p0, p1, p2, p3⟩ := A2
  obtain ⟨p4, p5, p6, p7⟩ := C2
  obtain ⟨p8, p9, p10, p11⟩ := R2
  go_wp2_with fail
  refine (hF _).mono ?_
  rintro e w3 ⟨rfl, hb3⟩
  have hz3 := hb3.size
  have R3 := (At2.mk p8 p9 p10 p11).below hb3 (by omega)
  have HB3 : Below w.heap.size w w3 := HB2.trans (hb3.mono (by omega))
  clear p0 p1 p2 p3 p4 p5 p6 p7 p8 p9 p10 p11 hb3 HB2
  obtain ⟨p8, p9, p10, p11⟩ := R3
  go_wp2_with fail
  refine (make_any _ _ _ (by omega) (by omega) (by omega) (by omega)).mono ?_
  rintro e w4 ⟨rfl, hb4⟩
  have hz4 := hb4.size
  simp only [World.size_alloc] at hz4
  have R4 := ((At2.mk p8 p9 p10 p11).alloc (by omega) _).below hb4 (by simp; omega)
  have HBX : Below w.heap.size w w4 := (HB3.alloc (by omega) _).trans (hb4.mono (by simp; omega))
  clear p8 p9 p10 p11 hb4 HB3
  obtain ⟨p8, p9, p10, p11⟩ := R4
  go_wp2
  refine bodyPost_ret (v := .tuple #[.agg #[.int .i64 (mk n m).1, .int .i64 (mk n m).2.1], .int .i64 (mk n m).2.2]) (by simp [results, Try.results77, go_sem, p8, p9]) rfl ⟨rfl, ?_⟩
  repeat' (first | exact HBX | refine Below.setCell ?_ (by first | (simp; done) | (simp; omega)) _ | refine below_drewN ?_ _ | refine Below.alloc ?_ (by first | (simp; done) | (simp; omega)) _)

set_option maxRecDepth 100000 in
set_option maxHeartbeats 400000 in
theorem operate_bad1 (F : Nat) (a b c d : Int) (w : World) (h : vld a b = false)
    (a0 : -9223372036854775808 ≤ a) (a1 : a ≤ 9223372036854775807) (b0 : -9223372036854775808 ≤ b) (b1 : b ≤ 9223372036854775807) :
    Calls Try.prog 77 #[.agg #[.int .i64 a, .int .i64 b], .agg #[.int .i64 c, .int .i64 d], .func (.func F) #[] #[]] w fun e w' =>
      e = .returned (.tuple #[.agg #[.int .i64 0, .int .i64 0], .int .i64 1]) ∧ Below w.heap.size w w' := by
  go_enter Try.func77, Try.ntmps77
  go_wp2_with fail
  refine (valid_any _ _ _ (by omega) (by omega) (by omega) (by omega)).mono ?_
  rintro e w1 ⟨rfl, hb1⟩
  have hz1 := hb1.size
  simp only [World.size_alloc] at hz1
  have R1 : At2 w1 (w.heap.size + 1 + 1) (.int .i64 0) (.int .i64 0) := by
    have := (At2.new ((w.alloc (.cells #[.int .i64 a, .int .i64 b] 24)).alloc (.cells #[.int .i64 c, .int .i64 d] 24)) (.int .i64 0) (.int .i64 0) 24).below hb1 (by simp)
    simpa using this
  have HBX : Below w.heap.size w w1 := ((((Below.refl _ _).alloc (Nat.le_refl _) _).alloc (by simp) _).alloc (by simp; omega) _).trans (hb1.mono (by simp; omega))
  clear hb1
  obtain ⟨p8, p9, p10, p11⟩ := R1
  go_wp2
  refine bodyPost_ret (v := .tuple #[.agg #[.int .i64 0, .int .i64 0], .int .i64 1]) (by simp [results, Try.results77, go_sem, p8, p9]) rfl ⟨rfl, ?_⟩
  repeat' (first | exact HBX | refine Below.setCell ?_ (by first | (simp; done) | (simp; omega)) _ | refine below_drewN ?_ _ | refine Below.alloc ?_ (by first | (simp; done) | (simp; omega)) _)

set_option maxRecDepth 100000 in
set_option maxHeartbeats 400000 in
theorem operate_bad2 (F : Nat) (a b c d : Int) (w : World) (h : vld a b = true) (k : vld c d = false)
    (a0 : -9223372036854775808 ≤ a) (a1 : a ≤ 9223372036854775807) (b0 : -9223372036854775808 ≤ b) (b1 : b ≤ 9223372036854775807)
    (c0 : -9223372036854775808 ≤ c) (c1 : c ≤ 9223372036854775807) (d0 : -9223372036854775808 ≤ d) (d1 : d ≤ 9223372036854775807) :
    Calls Try.prog 77 #[.agg #[.int .i64 a, .int .i64 b], .agg #[.int .i64 c, .int .i64 d], .func (.func F) #[] #[]] w fun e w' =>
      e = .returned (.tuple #[.agg #[.int .i64 0, .int .i64 0], .int .i64 1]) ∧ Below w.heap.size w w' := by
  go_enter Try.func77, Try.ntmps77
  go_wp2_with fail
  refine (valid_any _ _ _ (by omega) (by omega) (by omega) (by omega)).mono ?_
  rintro e w1 ⟨rfl, hb1⟩
  have hz1 := hb1.size
  simp only [World.size_alloc] at hz1
  have A1 : At2 w1 w.heap.size (.int .i64 a) (.int .i64 b) := (((At2.new w _ _ _).alloc (by simp) _).alloc (by simp; omega) _).below hb1 (by simp; omega)
  have C1 : At2 w1 (w.heap.size + 1) (.int .i64 c) (.int .i64 d) := by
    have := ((At2.new (w.alloc (.cells #[.int .i64 a, .int .i64 b] 24)) (.int .i64 c) (.int .i64 d) 24).alloc (by simp) (.cells #[.int .i64 0, .int .i64 0] 24)).below hb1 (by simp)
    simpa using this
  have R1 : At2 w1 (w.heap.size + 1 + 1) (.int .i64 0) (.int .i64 0) := by
    have := (At2.new ((w.alloc (.cells #[.int .i64 a, .int .i64 b] 24)).alloc (.cells #[.int .i64 c, .int .i64 d] 24)) (.int .i64 0) (.int .i64 0) 24).below hb1 (by simp)
    simpa using this
  have HB1 : Below w.heap.size w w1 := ((((Below.refl _ _).alloc (Nat.le_refl _) _).alloc (by simp) _).alloc (by simp; omega) _).trans (hb1.mono (by simp; omega))
  clear hb1
  obtain ⟨p0, p1, p2, p3⟩ := A1
  obtain ⟨p4, p5, p6, p7⟩ := C1
  obtain ⟨p8, p9, p10, p11⟩ := R1
  go_wp2_with fail
  refine (valid_any _ _ _ (by omega) (by omega) (by omega) (by omega)).mono ?_
  rintro e w2 ⟨rfl, hb2⟩
  have hz2 := hb2.size
  have R2 := (At2.mk p8 p9 p10 p11).below hb2 (by omega)
  have HBX : Below w.heap.size w w2 := HB1.trans (hb2.mono (by omega))
  clear p0 p1 p2 p3 p4 p5 p6 p7 p8 p9 p10 p11 hb2 HB1
  obtain ⟨p8, p9, p10, p11⟩ := R2
  go_wp2
  refine bodyPost_ret (v := .tuple #[.agg #[.int .i64 0, .int .i64 0], .int .i64 1]) (by simp [results, Try.results77, go_sem, p8, p9]) rfl ⟨rfl, ?_⟩
  repeat' (first | exact HBX | refine Below.setCell ?_ (by first | (simp; done) | (simp; omega)) _ | refine below_drewN ?_ _ | refine Below.alloc ?_ (by first | (simp; done) | (simp; omega)) _)

theorem times_bounds {a b c d : Int} (h : Q.Val a b) (k : Q.Val c d) : -9223372036854775808 ≤ a * c ∧ a * c ≤ 9223372036854775807 ∧ -9223372036854775808 ≤ b * d ∧ b * d ≤ 9223372036854775807 := by
  obtain ⟨h1, h2, h3, h4, _⟩ := h
  obtain ⟨k1, k2, k3, k4, _⟩ := k
  have x := mul_le h1 h2 k1 k2
  have z := mul_le (a := b) (b := d) (by omega) h4 (by omega) k4
  omega
/-- What Add, Sub, Mul and Div give. -/
def op2 (a b c d n m : Int) : Int × Int × Int := if vld a b = true ∧ vld c d = true then mk n m else (0, 0, 1)

theorem operate_any (F : Nat) (a b c d n m : Int) (w : World) (hF : Q.Val a b → Q.Val c d → Does F a b c d n m ∧ -9223372036854775808 ≤ n ∧ n ≤ 9223372036854775807 ∧ -9223372036854775808 ≤ m ∧ m ≤ 9223372036854775807)
    (hE : ∀ (args : Array Value) (w : World), (callFunc F args).run Try.prog w = .ok (.enter F args) w)
    (a0 : -9223372036854775808 ≤ a) (a1 : a ≤ 9223372036854775807) (b0 : -9223372036854775808 ≤ b) (b1 : b ≤ 9223372036854775807)
    (c0 : -9223372036854775808 ≤ c) (c1 : c ≤ 9223372036854775807) (d0 : -9223372036854775808 ≤ d) (d1 : d ≤ 9223372036854775807) :
    Calls Try.prog 77 #[.agg #[.int .i64 a, .int .i64 b], .agg #[.int .i64 c, .int .i64 d], .func (.func F) #[] #[]] w fun e w' =>
      e = .returned (.tuple #[.agg #[.int .i64 (op2 a b c d n m).1, .int .i64 (op2 a b c d n m).2.1], .int .i64 (op2 a b c d n m).2.2]) ∧ Below w.heap.size w w' := by
  unfold op2
  cases h : vld a b
  · rw [if_neg (fun x => by cases x.1)]
    exact operate_bad1 F a b c d w h a0 a1 b0 b1
  · cases k : vld c d
    · rw [if_neg (fun x => by cases x.2)]
      exact operate_bad2 F a b c d w h k a0 a1 b0 b1 c0 c1 d0 d1
    · rw [if_pos ⟨rfl, rfl⟩]
      obtain ⟨h1, h2, h3, h4, h5⟩ := hF ((vld_iff _ _).1 h) ((vld_iff _ _).1 k)
      exact operate_ok F a b c d n m w h k h1 hE h2 h3 h4 h5

theorem enter_times (args : Array Value) (w : World) : (callFunc 78 args).run Try.prog w = .ok (.enter 78 args) w := by kernel_rfl
set_option maxRecDepth 100000 in
set_option maxHeartbeats 400000 in
theorem mul_any (a b c d : Int) (w : World)
    (a0 : -9223372036854775808 ≤ a) (a1 : a ≤ 9223372036854775807) (b0 : -9223372036854775808 ≤ b) (b1 : b ≤ 9223372036854775807)
    (c0 : -9223372036854775808 ≤ c) (c1 : c ≤ 9223372036854775807) (d0 : -9223372036854775808 ≤ d) (d1 : d ≤ 9223372036854775807) :
    Calls Try.prog 69 #[.agg #[.int .i64 a, .int .i64 b], .agg #[.int .i64 c, .int .i64 d]] w fun e w' =>
      e = .returned (.tuple #[.agg #[.int .i64 (op2 a b c d (a * c) (b * d)).1, .int .i64 (op2 a b c d (a * c) (b * d)).2.1], .int .i64 (op2 a b c d (a * c) (b * d)).2.2]) ∧ Below w.heap.size w w' := by
  have hF : ∀ w, Calls Try.prog 77 #[.agg #[.int .i64 a, .int .i64 b], .agg #[.int .i64 c, .int .i64 d], .func (.func 78) #[] #[]] w fun e w' =>
      e = .returned (.tuple #[.agg #[.int .i64 (op2 a b c d (a * c) (b * d)).1, .int .i64 (op2 a b c d (a * c) (b * d)).2.1], .int .i64 (op2 a b c d (a * c) (b * d)).2.2]) ∧ Below w.heap.size w w' := fun w =>
    operate_any _ a b c d _ _ w (fun h k => ⟨times_does h k, times_bounds h k⟩) enter_times a0 a1 b0 b1 c0 c1 d0 d1
  generalize op2 a b c d (a * c) (b * d) = r at hF ⊢
  have HF := Lib.hid hF
  clear hF
  go_enter Try.func69, Try.ntmps69
  go_wp2_with fail
  refine (HF.out _).mono ?_
  rintro e w1 ⟨rfl, hb1⟩
  have hz1 := hb1.size
  simp only [World.size_alloc] at hz1
  have R1 : At2 w1 (w.heap.size + 1 + 1) (.int .i64 0) (.int .i64 0) := by
    have := (At2.new ((w.alloc (.cells #[.int .i64 a, .int .i64 b] 24)).alloc (.cells #[.int .i64 c, .int .i64 d] 24)) (.int .i64 0) (.int .i64 0) 24).below hb1 (by simp)
    simpa using this
  have HBX : Below w.heap.size w w1 := ((((Below.refl _ _).alloc (Nat.le_refl _) _).alloc (by simp) _).alloc (by simp; omega) _).trans (hb1.mono (by simp; omega))
  clear hb1
  obtain ⟨p8, p9, p10, p11⟩ := R1
  go_wp2
  refine bodyPost_ret (v := .tuple #[.agg #[.int .i64 r.1, .int .i64 r.2.1], .int .i64 r.2.2]) (by simp [results, Try.results69, go_sem, p8, p9]) rfl ⟨rfl, ?_⟩
  repeat' (first | exact HBX | refine Below.setCell ?_ (by first | (simp; done) | (simp; omega)) _ | refine below_drewN ?_ _ | refine Below.alloc ?_ (by first | (simp; done) | (simp; omega)) _)

end Go.Proofs.Ytmjdolgcgbiajaa
