/-
  Contracts of the reference implementation: Valid, Both, the four operations, Compare and Floor.
-/
import Derived.Test.YtohnmffokichkaaDoorRef1
import Derived.Test.YtohnmffokichkaaDoorWalks5
import Derived.Test.YtohnmffokichkaaDoorWalksS
namespace Go.Proofs.YtohnmffokichkaaDoor
open Go.RowKit

theorem mk_val {n d p q : Int} (hd : d ≠ 0) (h : mk n d = (p, q, 0)) : Q.Val p q := by
  unfold mk at h
  rw [if_neg hd] at h
  cases e : Q.red n d with
  | none => rw [e] at h; cases h
  | some r =>
    obtain ⟨p', q'⟩ := r
    rw [e] at h
    simp only [Prod.mk.injEq] at h
    obtain ⟨rfl, rfl, _⟩ := h
    exact (Q.red_val hd e).1
theorem mk_err {n d p q e : Int} (hd : d ≠ 0) (h : mk n d = (p, q, e)) (he : e ≠ 0) : p = 0 ∧ q = 0 ∧ e = 3 := by
  unfold mk at h
  rw [if_neg hd] at h
  cases e' : Q.red n d with
  | none => rw [e'] at h; simp only [Prod.mk.injEq] at h; exact ⟨h.1.symm, h.2.1.symm, h.2.2.symm⟩
  | some r => rw [e'] at h; simp only [Prod.mk.injEq] at h; exact absurd h.2.2.symm he
theorem mk_self {n d : Int} (h : Q.Val n d) : mk n d = (n, d, 0) := by
  unfold mk
  rw [if_neg (by have := h.2.2.1; omega), Q.red_of (by have := h.2.2.1; omega) h rfl]

set_option maxRecDepth 100000 in
set_option maxHeartbeats 400000 in
theorem rvalid_low (n d : Int) (w : World) (h : d < 1) :
    Calls Tryd.prog 11 #[.agg #[.int .i64 n, .int .i64 d]] w fun e w' => e = .returned (.bool false) ∧ Below w.heap.size w w' := by
  go_enter Tryd.func11, Tryd.ntmps11
  go_wp2
  go_ret
  exact ⟨rfl, (by repeat' (first | exact Below.refl _ _ | refine Below.setCell ?_ (by first | omega | (simp; done) | (simp; omega)) _ | refine below_drewN ?_ _ | refine Below.alloc ?_ (by first | omega | (simp; done) | (simp; omega)) _))⟩

set_option maxRecDepth 100000 in
set_option maxHeartbeats 400000 in
theorem rvalid_err (n d : Int) (w : World) (n0 : -9223372036854775808 ≤ n) (n1 : n ≤ 9223372036854775807) (d0 : -9223372036854775808 ≤ d) (d1 : d ≤ 9223372036854775807) (h : 1 ≤ d) (hm : mk n d = (0, 0, 3)) :
    Calls Tryd.prog 11 #[.agg #[.int .i64 n, .int .i64 d]] w fun e w' => e = .returned (.bool false) ∧ Below w.heap.size w w' := by
  have k := rmake_any n d (w.alloc (.cells #[.int .i64 n, .int .i64 d] 23)) n0 n1 d0 d1
  rw [hm] at k
  have K := Lib.hid k
  have f0 : decide (d < 1) = false := by simp; omega
  clear k hm
  go_enter Tryd.func11, Tryd.ntmps11
  go_wp2_with fail
  refine K.out.mono ?_
  rintro e w1 ⟨rfl, hb1⟩
  have hz1 := hb1.size
  simp only [World.size_alloc] at hz1
  have A1 : At2 w1 w.heap.size (.int .i64 n) (.int .i64 d) := (At2.new w _ _ _).below hb1 (by simp)
  have HBX : Below w.heap.size w w1 := ((Below.refl _ _).alloc (Nat.le_refl _) _).trans (hb1.mono (by simp))
  clear hb1
  obtain ⟨p0, p1, p2, p3⟩ := A1
  have pl : w.heap.size < w1.heap.size := by omega
  go_wp2
  go_ret
  exact ⟨rfl, (by repeat' (first | exact HBX | refine Below.setCell ?_ (by first | omega | (simp; done) | (simp; omega)) _ | refine below_drewN ?_ _ | refine Below.alloc ?_ (by first | omega | (simp; done) | (simp; omega)) _))⟩

set_option maxRecDepth 100000 in
set_option maxHeartbeats 400000 in
theorem rvalid_p (n d : Int) (w : World) (n0 : -9223372036854775808 ≤ n) (n1 : n ≤ 9223372036854775807) (d0 : -9223372036854775808 ≤ d) (d1 : d ≤ 9223372036854775807) (h : 1 ≤ d) (p q : Int) (hm : mk n d = (p, q, 0)) (hp : ¬ p = n) :
    Calls Tryd.prog 11 #[.agg #[.int .i64 n, .int .i64 d]] w fun e w' => e = .returned (.bool false) ∧ Below w.heap.size w w' := by
  have k := rmake_any n d (w.alloc (.cells #[.int .i64 n, .int .i64 d] 23)) n0 n1 d0 d1
  rw [hm] at k
  have K := Lib.hid k
  have f0 : decide (d < 1) = false := by simp; omega
  clear k hm
  go_enter Tryd.func11, Tryd.ntmps11
  go_wp2_with fail
  refine K.out.mono ?_
  rintro e w1 ⟨rfl, hb1⟩
  have hz1 := hb1.size
  simp only [World.size_alloc] at hz1
  have A1 : At2 w1 w.heap.size (.int .i64 n) (.int .i64 d) := (At2.new w _ _ _).below hb1 (by simp)
  have HBX : Below w.heap.size w w1 := ((Below.refl _ _).alloc (Nat.le_refl _) _).trans (hb1.mono (by simp))
  clear hb1
  obtain ⟨p0, p1, p2, p3⟩ := A1
  have pl : w.heap.size < w1.heap.size := by omega
  go_wp2
  go_ret
  exact ⟨rfl, (by repeat' (first | exact HBX | refine Below.setCell ?_ (by first | omega | (simp; done) | (simp; omega)) _ | refine below_drewN ?_ _ | refine Below.alloc ?_ (by first | omega | (simp; done) | (simp; omega)) _))⟩

set_option maxRecDepth 100000 in
set_option maxHeartbeats 400000 in
theorem rvalid_q (n d : Int) (w : World) (n0 : -9223372036854775808 ≤ n) (n1 : n ≤ 9223372036854775807) (d0 : -9223372036854775808 ≤ d) (d1 : d ≤ 9223372036854775807) (h : 1 ≤ d) (q : Int) (hm : mk n d = (n, q, 0)) (hp : ¬ q = d) :
    Calls Tryd.prog 11 #[.agg #[.int .i64 n, .int .i64 d]] w fun e w' => e = .returned (.bool false) ∧ Below w.heap.size w w' := by
  have k := rmake_any n d (w.alloc (.cells #[.int .i64 n, .int .i64 d] 23)) n0 n1 d0 d1
  rw [hm] at k
  have K := Lib.hid k
  have f0 : decide (d < 1) = false := by simp; omega
  clear k hm
  go_enter Tryd.func11, Tryd.ntmps11
  go_wp2_with fail
  refine K.out.mono ?_
  rintro e w1 ⟨rfl, hb1⟩
  have hz1 := hb1.size
  simp only [World.size_alloc] at hz1
  have A1 : At2 w1 w.heap.size (.int .i64 n) (.int .i64 d) := (At2.new w _ _ _).below hb1 (by simp)
  have HBX : Below w.heap.size w w1 := ((Below.refl _ _).alloc (Nat.le_refl _) _).trans (hb1.mono (by simp))
  clear hb1
  obtain ⟨p0, p1, p2, p3⟩ := A1
  have pl : w.heap.size < w1.heap.size := by omega
  go_wp2
  go_ret
  exact ⟨rfl, (by repeat' (first | exact HBX | refine Below.setCell ?_ (by first | omega | (simp; done) | (simp; omega)) _ | refine below_drewN ?_ _ | refine Below.alloc ?_ (by first | omega | (simp; done) | (simp; omega)) _))⟩

set_option maxRecDepth 100000 in
set_option maxHeartbeats 400000 in
theorem rvalid_y (n d : Int) (w : World) (n0 : -9223372036854775808 ≤ n) (n1 : n ≤ 9223372036854775807) (d0 : -9223372036854775808 ≤ d) (d1 : d ≤ 9223372036854775807) (h : 1 ≤ d) (hm : mk n d = (n, d, 0)) :
    Calls Tryd.prog 11 #[.agg #[.int .i64 n, .int .i64 d]] w fun e w' => e = .returned (.bool true) ∧ Below w.heap.size w w' := by
  have k := rmake_any n d (w.alloc (.cells #[.int .i64 n, .int .i64 d] 23)) n0 n1 d0 d1
  rw [hm] at k
  have K := Lib.hid k
  have f0 : decide (d < 1) = false := by simp; omega
  clear k hm
  go_enter Tryd.func11, Tryd.ntmps11
  go_wp2_with fail
  refine K.out.mono ?_
  rintro e w1 ⟨rfl, hb1⟩
  have hz1 := hb1.size
  simp only [World.size_alloc] at hz1
  have A1 : At2 w1 w.heap.size (.int .i64 n) (.int .i64 d) := (At2.new w _ _ _).below hb1 (by simp)
  have HBX : Below w.heap.size w w1 := ((Below.refl _ _).alloc (Nat.le_refl _) _).trans (hb1.mono (by simp))
  clear hb1
  obtain ⟨p0, p1, p2, p3⟩ := A1
  have pl : w.heap.size < w1.heap.size := by omega
  go_wp2
  go_ret
  exact ⟨rfl, (by repeat' (first | exact HBX | refine Below.setCell ?_ (by first | omega | (simp; done) | (simp; omega)) _ | refine below_drewN ?_ _ | refine Below.alloc ?_ (by first | omega | (simp; done) | (simp; omega)) _))⟩

theorem rvalid_any (n d : Int) (w : World) (n0 : -9223372036854775808 ≤ n) (n1 : n ≤ 9223372036854775807) (d0 : -9223372036854775808 ≤ d) (d1 : d ≤ 9223372036854775807) :
    Calls Tryd.prog 11 #[.agg #[.int .i64 n, .int .i64 d]] w fun e w' => e = .returned (.bool (vld n d)) ∧ Below w.heap.size w w' := by
  by_cases h : d < 1
  · have e : vld n d = false := by
      rw [Bool.eq_false_iff]; intro hv
      have := ((vld_iff n d).1 hv).2.2.1; omega
    rw [e]
    exact rvalid_low n d w h
  obtain ⟨p, q, e, hm⟩ : ∃ p q e, mk n d = (p, q, e) := ⟨_, _, _, rfl⟩
  cases hv : vld n d
  · by_cases he : e = 0
    · subst he
      have vp := mk_val (by omega) hm
      by_cases hp : p = n
      · subst hp
        have hq : ¬ q = d := fun x => by subst x; rw [(vld_iff p q).2 vp] at hv; cases hv
        exact rvalid_q p d w n0 n1 d0 d1 (by omega) q hm hq
      · exact rvalid_p n d w n0 n1 d0 d1 (by omega) p q hm hp
    · obtain ⟨rfl, rfl, rfl⟩ := mk_err (by omega) hm he
      exact rvalid_err n d w n0 n1 d0 d1 (by omega) hm
  · exact rvalid_y n d w n0 n1 d0 d1 (by omega) (mk_self ((vld_iff n d).1 hv))

set_option maxRecDepth 100000 in
set_option maxHeartbeats 400000 in
theorem both_no (a b c d : Int) (w : World) (h : vld a b = false)
    (a0 : -9223372036854775808 ≤ a) (a1 : a ≤ 9223372036854775807) (b0 : -9223372036854775808 ≤ b) (b1 : b ≤ 9223372036854775807) :
    Calls Tryd.prog 40 #[.agg #[.int .i64 a, .int .i64 b], .agg #[.int .i64 c, .int .i64 d]] w fun e w' => e = .returned (.bool false) ∧ Below w.heap.size w w' := by
  go_enter Tryd.func40, Tryd.ntmps40
  go_wp2_with fail
  refine (rvalid_any a b _ a0 a1 b0 b1).mono ?_
  rintro e w1 ⟨rfl, hb1⟩
  have HBX : Below w.heap.size w w1 := (((Below.refl _ _).alloc (Nat.le_refl _) _).alloc (by simp) _).trans (hb1.mono (by simp; omega))
  clear hb1
  go_wp2
  go_ret
  exact ⟨rfl, HBX⟩

set_option maxRecDepth 100000 in
set_option maxHeartbeats 400000 in
theorem both_yes (a b c d : Int) (v : Bool) (w : World) (h : vld a b = true) (k : vld c d = v)
    (a0 : -9223372036854775808 ≤ a) (a1 : a ≤ 9223372036854775807) (b0 : -9223372036854775808 ≤ b) (b1 : b ≤ 9223372036854775807)
    (c0 : -9223372036854775808 ≤ c) (c1 : c ≤ 9223372036854775807) (d0 : -9223372036854775808 ≤ d) (d1 : d ≤ 9223372036854775807) :
    Calls Tryd.prog 40 #[.agg #[.int .i64 a, .int .i64 b], .agg #[.int .i64 c, .int .i64 d]] w fun e w' => e = .returned (.bool v) ∧ Below w.heap.size w w' := by
  go_enter Tryd.func40, Tryd.ntmps40
  go_wp2_with fail
  refine (rvalid_any a b _ a0 a1 b0 b1).mono ?_
  rintro e w1 ⟨rfl, hb1⟩
  have hz1 := hb1.size
  simp only [World.size_alloc] at hz1
  have C1 : At2 w1 (w.heap.size + 1) (.int .i64 c) (.int .i64 d) := by
    have := (At2.new (w.alloc (.cells #[.int .i64 a, .int .i64 b] 23)) (.int .i64 c) (.int .i64 d) 23).below hb1 (by simp)
    simpa using this
  have HB1 : Below w.heap.size w w1 := (((Below.refl _ _).alloc (Nat.le_refl _) _).alloc (by simp) _).trans (hb1.mono (by simp; omega))
  clear hb1
  obtain ⟨p4, p5, p6, p7⟩ := C1
  go_wp2_with fail
  refine (rvalid_any c d _ c0 c1 d0 d1).mono ?_
  rintro e w2 ⟨rfl, hb2⟩
  have HBX : Below w.heap.size w w2 := HB1.trans (hb2.mono (by omega))
  clear hb2 HB1 p4 p5 p6 p7
  go_wp2
  go_ret
  exact ⟨rfl, HBX⟩

theorem both_any (a b c d : Int) (w : World)
    (a0 : -9223372036854775808 ≤ a) (a1 : a ≤ 9223372036854775807) (b0 : -9223372036854775808 ≤ b) (b1 : b ≤ 9223372036854775807)
    (c0 : -9223372036854775808 ≤ c) (c1 : c ≤ 9223372036854775807) (d0 : -9223372036854775808 ≤ d) (d1 : d ≤ 9223372036854775807) :
    Calls Tryd.prog 40 #[.agg #[.int .i64 a, .int .i64 b], .agg #[.int .i64 c, .int .i64 d]] w fun e w' => e = .returned (.bool (vld a b && vld c d)) ∧ Below w.heap.size w w' := by
  cases h : vld a b
  · exact both_no a b c d w h a0 a1 b0 b1
  · exact both_yes a b c d _ w h rfl a0 a1 b0 b1 c0 c1 d0 d1

set_option maxRecDepth 100000 in
set_option maxHeartbeats 400000 in
theorem radd_no (a b c d : Int) (w : World) (h : (vld a b && vld c d) = false)
    (a0 : -9223372036854775808 ≤ a) (a1 : a ≤ 9223372036854775807) (b0 : -9223372036854775808 ≤ b) (b1 : b ≤ 9223372036854775807)
    (c0 : -9223372036854775808 ≤ c) (c1 : c ≤ 9223372036854775807) (d0 : -9223372036854775808 ≤ d) (d1 : d ≤ 9223372036854775807) :
    Calls Tryd.prog 15 #[.agg #[.int .i64 a, .int .i64 b], .agg #[.int .i64 c, .int .i64 d]] w fun e w' => e = .returned (.tuple #[.agg #[.int .i64 0, .int .i64 0], .int .i64 1]) ∧ Below w.heap.size w w' := by
  go_enter Tryd.func15, Tryd.ntmps15
  go_wp2_with fail
  refine (both_any a b c d _ a0 a1 b0 b1 c0 c1 d0 d1).mono ?_
  rw [h]
  rintro e w1 ⟨rfl, hb1⟩
  have hz1 := hb1.size
  simp only [World.size_alloc] at hz1
  have R1 : At2 w1 (w.heap.size + 1 + 1) (.int .i64 0) (.int .i64 0) := by
    have := (At2.new ((w.alloc (.cells #[.int .i64 a, .int .i64 b] 23)).alloc (.cells #[.int .i64 c, .int .i64 d] 23)) (.int .i64 0) (.int .i64 0) 23).below hb1 (by simp)
    simpa using this
  have HB1 : Below w.heap.size w w1 := ((((Below.refl _ _).alloc (Nat.le_refl _) _).alloc (by simp) _).alloc (by simp; omega) _).trans (hb1.mono (by simp; omega))
  clear hb1
  obtain ⟨p8, p9, p10, p11⟩ := R1
  go_wp2
  exact bodyPost_ret (v := .tuple #[.agg #[.int .i64 0, .int .i64 0], .int .i64 1]) (by simp [results, Tryd.results15, go_sem, p8, p9]) rfl ⟨rfl, (by repeat' (first | exact HB1 | refine Below.setCell ?_ (by first | omega | (simp; done) | (simp; omega)) _ | refine below_drewN ?_ _ | refine Below.alloc ?_ (by first | omega | (simp; done) | (simp; omega)) _))⟩

set_option maxRecDepth 100000 in
set_option maxHeartbeats 400000 in
theorem radd_yes (a b c d p q er : Int) (w : World) (h : (vld a b && vld c d) = true) (hm : mk (a * d + c * b) (b * d) = (p, q, er))
    (a0 : -9223372036854775808 ≤ a) (a1 : a ≤ 9223372036854775807) (b0 : -9223372036854775808 ≤ b) (b1 : b ≤ 9223372036854775807)
    (c0 : -9223372036854775808 ≤ c) (c1 : c ≤ 9223372036854775807) (d0 : -9223372036854775808 ≤ d) (d1 : d ≤ 9223372036854775807) :
    Calls Tryd.prog 15 #[.agg #[.int .i64 a, .int .i64 b], .agg #[.int .i64 c, .int .i64 d]] w fun e w' => e = .returned (.tuple #[.agg #[.int .i64 p, .int .i64 q], .int .i64 er]) ∧ Below w.heap.size w w' := by
  have HV := Lib.hid h
  obtain ⟨hv1, hv2⟩ := Bool.and_eq_true_iff.1 h
  obtain ⟨v1, v2, v3, v4, _⟩ := (vld_iff a b).1 hv1
  obtain ⟨u1, u2, u3, u4, _⟩ := (vld_iff c d).1 hv2
  have bb := plus_bounds ((vld_iff a b).1 hv1) ((vld_iff c d).1 hv2)
  have km : ∀ w, Calls Tryd.prog 13 #[.int .i64 (a * d + c * b), .int .i64 (b * d)] w fun e w' => e = .returned (.tuple #[.agg #[.int .i64 p, .int .i64 q], .int .i64 er]) ∧ Below w.heap.size w w' := fun w => by
    have k := rmake_any (a * d + c * b) (b * d) w bb.1 bb.2.1 bb.2.2.1 bb.2.2.2
    rw [hm] at k; exact k
  have KM := Lib.hid km
  have x1 := mul_le v1 v2 (b := d) (by omega) u4
  have x2 := mul_le u1 u2 (b := b) (by omega) v4
  have x3 := mul_le v1 v2 u1 u2
  have x4 := mul_le (a := b) (b := d) (by omega) v4 (by omega) u4
  have x5 := mul_le (a := b) (by omega) v4 u1 u2
  clear h hv1 hv2 hm km
  go_enter Tryd.func15, Tryd.ntmps15
  go_wp2_with fail
  refine (both_any a b c d _ a0 a1 b0 b1 c0 c1 d0 d1).mono ?_
  rw [HV.out]
  rintro e w1 ⟨rfl, hb1⟩
  have hz1 := hb1.size
  simp only [World.size_alloc] at hz1
  have A1 : At2 w1 w.heap.size (.int .i64 a) (.int .i64 b) := (((At2.new w _ _ _).alloc (by simp) _).alloc (by simp; omega) _).below hb1 (by simp; omega)
  have C1 : At2 w1 (w.heap.size + 1) (.int .i64 c) (.int .i64 d) := by
    have := ((At2.new (w.alloc (.cells #[.int .i64 a, .int .i64 b] 23)) (.int .i64 c) (.int .i64 d) 23).alloc (by simp) (.cells #[.int .i64 0, .int .i64 0] 23)).below hb1 (by simp)
    simpa using this
  have R1 : At2 w1 (w.heap.size + 1 + 1) (.int .i64 0) (.int .i64 0) := by
    have := (At2.new ((w.alloc (.cells #[.int .i64 a, .int .i64 b] 23)).alloc (.cells #[.int .i64 c, .int .i64 d] 23)) (.int .i64 0) (.int .i64 0) 23).below hb1 (by simp)
    simpa using this
  have HB1 : Below w.heap.size w w1 := ((((Below.refl _ _).alloc (Nat.le_refl _) _).alloc (by simp) _).alloc (by simp; omega) _).trans (hb1.mono (by simp; omega))
  clear hb1
  obtain ⟨p0, p1, p2, p3⟩ := A1
  obtain ⟨p4, p5, p6, p7⟩ := C1
  obtain ⟨p8, p9, p10, p11⟩ := R1
  go_wp2_with fail
  refine (KM.out _).mono ?_
  rintro e w2 ⟨rfl, hb2⟩
  have hz2 := hb2.size
  have R2 := (At2.mk p8 p9 p10 p11).below hb2 (by omega)
  have HB2 : Below w.heap.size w w2 := HB1.trans (hb2.mono (by omega))
  clear p0 p1 p2 p3 p4 p5 p6 p7 p8 p9 p10 p11 hb2 HB1
  obtain ⟨p8, p9, p10, p11⟩ := R2
  have pl : w.heap.size + 1 + 1 < w2.heap.size := by omega
  go_wp2
  exact bodyPost_ret (v := .tuple #[.agg #[.int .i64 p, .int .i64 q], .int .i64 er]) (by simp [results, Tryd.results15, go_sem, p8, p9, pl]) rfl ⟨rfl, (by repeat' (first | exact HB2 | refine Below.setCell ?_ (by first | omega | (simp; done) | (simp; omega)) _ | refine below_drewN ?_ _ | refine Below.alloc ?_ (by first | omega | (simp; done) | (simp; omega)) _))⟩

theorem radd_any (a b c d : Int) (w : World)
    (a0 : -9223372036854775808 ≤ a) (a1 : a ≤ 9223372036854775807) (b0 : -9223372036854775808 ≤ b) (b1 : b ≤ 9223372036854775807)
    (c0 : -9223372036854775808 ≤ c) (c1 : c ≤ 9223372036854775807) (d0 : -9223372036854775808 ≤ d) (d1 : d ≤ 9223372036854775807) :
    Calls Tryd.prog 15 #[.agg #[.int .i64 a, .int .i64 b], .agg #[.int .i64 c, .int .i64 d]] w fun e w' => e = .returned (.tuple #[.agg #[.int .i64 (op2 a b c d (a * d + c * b) (b * d)).1, .int .i64 (op2 a b c d (a * d + c * b) (b * d)).2.1], .int .i64 (op2 a b c d (a * d + c * b) (b * d)).2.2]) ∧ Below w.heap.size w w' := by
  unfold op2
  cases h : (vld a b && vld c d)
  · rw [if_neg (fun x => by rw [x.1, x.2] at h; cases h)]
    exact radd_no a b c d w h a0 a1 b0 b1 c0 c1 d0 d1
  · rw [if_pos (Bool.and_eq_true_iff.1 h)]
    exact radd_yes a b c d _ _ _ w h rfl a0 a1 b0 b1 c0 c1 d0 d1

set_option maxRecDepth 100000 in
set_option maxHeartbeats 400000 in
theorem rsub_no (a b c d : Int) (w : World) (h : (vld a b && vld c d) = false)
    (a0 : -9223372036854775808 ≤ a) (a1 : a ≤ 9223372036854775807) (b0 : -9223372036854775808 ≤ b) (b1 : b ≤ 9223372036854775807)
    (c0 : -9223372036854775808 ≤ c) (c1 : c ≤ 9223372036854775807) (d0 : -9223372036854775808 ≤ d) (d1 : d ≤ 9223372036854775807) :
    Calls Tryd.prog 17 #[.agg #[.int .i64 a, .int .i64 b], .agg #[.int .i64 c, .int .i64 d]] w fun e w' => e = .returned (.tuple #[.agg #[.int .i64 0, .int .i64 0], .int .i64 1]) ∧ Below w.heap.size w w' := by
  go_enter Tryd.func17, Tryd.ntmps17
  go_wp2_with fail
  refine (both_any a b c d _ a0 a1 b0 b1 c0 c1 d0 d1).mono ?_
  rw [h]
  rintro e w1 ⟨rfl, hb1⟩
  have hz1 := hb1.size
  simp only [World.size_alloc] at hz1
  have R1 : At2 w1 (w.heap.size + 1 + 1) (.int .i64 0) (.int .i64 0) := by
    have := (At2.new ((w.alloc (.cells #[.int .i64 a, .int .i64 b] 23)).alloc (.cells #[.int .i64 c, .int .i64 d] 23)) (.int .i64 0) (.int .i64 0) 23).below hb1 (by simp)
    simpa using this
  have HB1 : Below w.heap.size w w1 := ((((Below.refl _ _).alloc (Nat.le_refl _) _).alloc (by simp) _).alloc (by simp; omega) _).trans (hb1.mono (by simp; omega))
  clear hb1
  obtain ⟨p8, p9, p10, p11⟩ := R1
  go_wp2
  exact bodyPost_ret (v := .tuple #[.agg #[.int .i64 0, .int .i64 0], .int .i64 1]) (by simp [results, Tryd.results17, go_sem, p8, p9]) rfl ⟨rfl, (by repeat' (first | exact HB1 | refine Below.setCell ?_ (by first | omega | (simp; done) | (simp; omega)) _ | refine below_drewN ?_ _ | refine Below.alloc ?_ (by first | omega | (simp; done) | (simp; omega)) _))⟩

set_option maxRecDepth 100000 in
set_option maxHeartbeats 400000 in
theorem rsub_yes (a b c d p q er : Int) (w : World) (h : (vld a b && vld c d) = true) (hm : mk (a * d - c * b) (b * d) = (p, q, er))
    (a0 : -9223372036854775808 ≤ a) (a1 : a ≤ 9223372036854775807) (b0 : -9223372036854775808 ≤ b) (b1 : b ≤ 9223372036854775807)
    (c0 : -9223372036854775808 ≤ c) (c1 : c ≤ 9223372036854775807) (d0 : -9223372036854775808 ≤ d) (d1 : d ≤ 9223372036854775807) :
    Calls Tryd.prog 17 #[.agg #[.int .i64 a, .int .i64 b], .agg #[.int .i64 c, .int .i64 d]] w fun e w' => e = .returned (.tuple #[.agg #[.int .i64 p, .int .i64 q], .int .i64 er]) ∧ Below w.heap.size w w' := by
  have HV := Lib.hid h
  obtain ⟨hv1, hv2⟩ := Bool.and_eq_true_iff.1 h
  obtain ⟨v1, v2, v3, v4, _⟩ := (vld_iff a b).1 hv1
  obtain ⟨u1, u2, u3, u4, _⟩ := (vld_iff c d).1 hv2
  have bb := minus_bounds ((vld_iff a b).1 hv1) ((vld_iff c d).1 hv2)
  have km : ∀ w, Calls Tryd.prog 13 #[.int .i64 (a * d - c * b), .int .i64 (b * d)] w fun e w' => e = .returned (.tuple #[.agg #[.int .i64 p, .int .i64 q], .int .i64 er]) ∧ Below w.heap.size w w' := fun w => by
    have k := rmake_any (a * d - c * b) (b * d) w bb.1 bb.2.1 bb.2.2.1 bb.2.2.2
    rw [hm] at k; exact k
  have KM := Lib.hid km
  have x1 := mul_le v1 v2 (b := d) (by omega) u4
  have x2 := mul_le u1 u2 (b := b) (by omega) v4
  have x3 := mul_le v1 v2 u1 u2
  have x4 := mul_le (a := b) (b := d) (by omega) v4 (by omega) u4
  have x5 := mul_le (a := b) (by omega) v4 u1 u2
  clear h hv1 hv2 hm km
  go_enter Tryd.func17, Tryd.ntmps17
  go_wp2_with fail
  refine (both_any a b c d _ a0 a1 b0 b1 c0 c1 d0 d1).mono ?_
  rw [HV.out]
  rintro e w1 ⟨rfl, hb1⟩
  have hz1 := hb1.size
  simp only [World.size_alloc] at hz1
  have A1 : At2 w1 w.heap.size (.int .i64 a) (.int .i64 b) := (((At2.new w _ _ _).alloc (by simp) _).alloc (by simp; omega) _).below hb1 (by simp; omega)
  have C1 : At2 w1 (w.heap.size + 1) (.int .i64 c) (.int .i64 d) := by
    have := ((At2.new (w.alloc (.cells #[.int .i64 a, .int .i64 b] 23)) (.int .i64 c) (.int .i64 d) 23).alloc (by simp) (.cells #[.int .i64 0, .int .i64 0] 23)).below hb1 (by simp)
    simpa using this
  have R1 : At2 w1 (w.heap.size + 1 + 1) (.int .i64 0) (.int .i64 0) := by
    have := (At2.new ((w.alloc (.cells #[.int .i64 a, .int .i64 b] 23)).alloc (.cells #[.int .i64 c, .int .i64 d] 23)) (.int .i64 0) (.int .i64 0) 23).below hb1 (by simp)
    simpa using this
  have HB1 : Below w.heap.size w w1 := ((((Below.refl _ _).alloc (Nat.le_refl _) _).alloc (by simp) _).alloc (by simp; omega) _).trans (hb1.mono (by simp; omega))
  clear hb1
  obtain ⟨p0, p1, p2, p3⟩ := A1
  obtain ⟨p4, p5, p6, p7⟩ := C1
  obtain ⟨p8, p9, p10, p11⟩ := R1
  go_wp2_with fail
  refine (KM.out _).mono ?_
  rintro e w2 ⟨rfl, hb2⟩
  have hz2 := hb2.size
  have R2 := (At2.mk p8 p9 p10 p11).below hb2 (by omega)
  have HB2 : Below w.heap.size w w2 := HB1.trans (hb2.mono (by omega))
  clear p0 p1 p2 p3 p4 p5 p6 p7 p8 p9 p10 p11 hb2 HB1
  obtain ⟨p8, p9, p10, p11⟩ := R2
  have pl : w.heap.size + 1 + 1 < w2.heap.size := by omega
  go_wp2
  exact bodyPost_ret (v := .tuple #[.agg #[.int .i64 p, .int .i64 q], .int .i64 er]) (by simp [results, Tryd.results17, go_sem, p8, p9, pl]) rfl ⟨rfl, (by repeat' (first | exact HB2 | refine Below.setCell ?_ (by first | omega | (simp; done) | (simp; omega)) _ | refine below_drewN ?_ _ | refine Below.alloc ?_ (by first | omega | (simp; done) | (simp; omega)) _))⟩

theorem rsub_any (a b c d : Int) (w : World)
    (a0 : -9223372036854775808 ≤ a) (a1 : a ≤ 9223372036854775807) (b0 : -9223372036854775808 ≤ b) (b1 : b ≤ 9223372036854775807)
    (c0 : -9223372036854775808 ≤ c) (c1 : c ≤ 9223372036854775807) (d0 : -9223372036854775808 ≤ d) (d1 : d ≤ 9223372036854775807) :
    Calls Tryd.prog 17 #[.agg #[.int .i64 a, .int .i64 b], .agg #[.int .i64 c, .int .i64 d]] w fun e w' => e = .returned (.tuple #[.agg #[.int .i64 (op2 a b c d (a * d - c * b) (b * d)).1, .int .i64 (op2 a b c d (a * d - c * b) (b * d)).2.1], .int .i64 (op2 a b c d (a * d - c * b) (b * d)).2.2]) ∧ Below w.heap.size w w' := by
  unfold op2
  cases h : (vld a b && vld c d)
  · rw [if_neg (fun x => by rw [x.1, x.2] at h; cases h)]
    exact rsub_no a b c d w h a0 a1 b0 b1 c0 c1 d0 d1
  · rw [if_pos (Bool.and_eq_true_iff.1 h)]
    exact rsub_yes a b c d _ _ _ w h rfl a0 a1 b0 b1 c0 c1 d0 d1

set_option maxRecDepth 100000 in
set_option maxHeartbeats 400000 in
theorem rmul_no (a b c d : Int) (w : World) (h : (vld a b && vld c d) = false)
    (a0 : -9223372036854775808 ≤ a) (a1 : a ≤ 9223372036854775807) (b0 : -9223372036854775808 ≤ b) (b1 : b ≤ 9223372036854775807)
    (c0 : -9223372036854775808 ≤ c) (c1 : c ≤ 9223372036854775807) (d0 : -9223372036854775808 ≤ d) (d1 : d ≤ 9223372036854775807) :
    Calls Tryd.prog 19 #[.agg #[.int .i64 a, .int .i64 b], .agg #[.int .i64 c, .int .i64 d]] w fun e w' => e = .returned (.tuple #[.agg #[.int .i64 0, .int .i64 0], .int .i64 1]) ∧ Below w.heap.size w w' := by
  go_enter Tryd.func19, Tryd.ntmps19
  go_wp2_with fail
  refine (both_any a b c d _ a0 a1 b0 b1 c0 c1 d0 d1).mono ?_
  rw [h]
  rintro e w1 ⟨rfl, hb1⟩
  have hz1 := hb1.size
  simp only [World.size_alloc] at hz1
  have R1 : At2 w1 (w.heap.size + 1 + 1) (.int .i64 0) (.int .i64 0) := by
    have := (At2.new ((w.alloc (.cells #[.int .i64 a, .int .i64 b] 23)).alloc (.cells #[.int .i64 c, .int .i64 d] 23)) (.int .i64 0) (.int .i64 0) 23).below hb1 (by simp)
    simpa using this
  have HB1 : Below w.heap.size w w1 := ((((Below.refl _ _).alloc (Nat.le_refl _) _).alloc (by simp) _).alloc (by simp; omega) _).trans (hb1.mono (by simp; omega))
  clear hb1
  obtain ⟨p8, p9, p10, p11⟩ := R1
  go_wp2
  exact bodyPost_ret (v := .tuple #[.agg #[.int .i64 0, .int .i64 0], .int .i64 1]) (by simp [results, Tryd.results19, go_sem, p8, p9]) rfl ⟨rfl, (by repeat' (first | exact HB1 | refine Below.setCell ?_ (by first | omega | (simp; done) | (simp; omega)) _ | refine below_drewN ?_ _ | refine Below.alloc ?_ (by first | omega | (simp; done) | (simp; omega)) _))⟩

set_option maxRecDepth 100000 in
set_option maxHeartbeats 400000 in
theorem rmul_yes (a b c d p q er : Int) (w : World) (h : (vld a b && vld c d) = true) (hm : mk (a * c) (b * d) = (p, q, er))
    (a0 : -9223372036854775808 ≤ a) (a1 : a ≤ 9223372036854775807) (b0 : -9223372036854775808 ≤ b) (b1 : b ≤ 9223372036854775807)
    (c0 : -9223372036854775808 ≤ c) (c1 : c ≤ 9223372036854775807) (d0 : -9223372036854775808 ≤ d) (d1 : d ≤ 9223372036854775807) :
    Calls Tryd.prog 19 #[.agg #[.int .i64 a, .int .i64 b], .agg #[.int .i64 c, .int .i64 d]] w fun e w' => e = .returned (.tuple #[.agg #[.int .i64 p, .int .i64 q], .int .i64 er]) ∧ Below w.heap.size w w' := by
  have HV := Lib.hid h
  obtain ⟨hv1, hv2⟩ := Bool.and_eq_true_iff.1 h
  obtain ⟨v1, v2, v3, v4, _⟩ := (vld_iff a b).1 hv1
  obtain ⟨u1, u2, u3, u4, _⟩ := (vld_iff c d).1 hv2
  have bb := times_bounds ((vld_iff a b).1 hv1) ((vld_iff c d).1 hv2)
  have km : ∀ w, Calls Tryd.prog 13 #[.int .i64 (a * c), .int .i64 (b * d)] w fun e w' => e = .returned (.tuple #[.agg #[.int .i64 p, .int .i64 q], .int .i64 er]) ∧ Below w.heap.size w w' := fun w => by
    have k := rmake_any (a * c) (b * d) w bb.1 bb.2.1 bb.2.2.1 bb.2.2.2
    rw [hm] at k; exact k
  have KM := Lib.hid km
  have x1 := mul_le v1 v2 (b := d) (by omega) u4
  have x2 := mul_le u1 u2 (b := b) (by omega) v4
  have x3 := mul_le v1 v2 u1 u2
  have x4 := mul_le (a := b) (b := d) (by omega) v4 (by omega) u4
  have x5 := mul_le (a := b) (by omega) v4 u1 u2
  clear h hv1 hv2 hm km
  go_enter Tryd.func19, Tryd.ntmps19
  go_wp2_with fail
  refine (both_any a b c d _ a0 a1 b0 b1 c0 c1 d0 d1).mono ?_
  rw [HV.out]
  rintro e w1 ⟨rfl, hb1⟩
  have hz1 := hb1.size
  simp only [World.size_alloc] at hz1
  have A1 : At2 w1 w.heap.size (.int .i64 a) (.int .i64 b) := (((At2.new w _ _ _).alloc (by simp) _).alloc (by simp; omega) _).below hb1 (by simp; omega)
  have C1 : At2 w1 (w.heap.size + 1) (.int .i64 c) (.int .i64 d) := by
    have := ((At2.new (w.alloc (.cells #[.int .i64 a, .int .i64 b] 23)) (.int .i64 c) (.int .i64 d) 23).alloc (by simp) (.cells #[.int .i64 0, .int .i64 0] 23)).below hb1 (by simp)
    simpa using this
  have R1 : At2 w1 (w.heap.size + 1 + 1) (.int .i64 0) (.int .i64 0) := by
    have := (At2.new ((w.alloc (.cells #[.int .i64 a, .int .i64 b] 23)).alloc (.cells #[.int .i64 c, .int .i64 d] 23)) (.int .i64 0) (.int .i64 0) 23).below hb1 (by simp)
    simpa using this
  have HB1 : Below w.heap.size w w1 := ((((Below.refl _ _).alloc (Nat.le_refl _) _).alloc (by simp) _).alloc (by simp; omega) _).trans (hb1.mono (by simp; omega))
  clear hb1
  obtain ⟨p0, p1, p2, p3⟩ := A1
  obtain ⟨p4, p5, p6, p7⟩ := C1
  obtain ⟨p8, p9, p10, p11⟩ := R1
  go_wp2_with fail
  refine (KM.out _).mono ?_
  rintro e w2 ⟨rfl, hb2⟩
  have hz2 := hb2.size
  have R2 := (At2.mk p8 p9 p10 p11).below hb2 (by omega)
  have HB2 : Below w.heap.size w w2 := HB1.trans (hb2.mono (by omega))
  clear p0 p1 p2 p3 p4 p5 p6 p7 p8 p9 p10 p11 hb2 HB1
  obtain ⟨p8, p9, p10, p11⟩ := R2
  have pl : w.heap.size + 1 + 1 < w2.heap.size := by omega
  go_wp2
  exact bodyPost_ret (v := .tuple #[.agg #[.int .i64 p, .int .i64 q], .int .i64 er]) (by simp [results, Tryd.results19, go_sem, p8, p9, pl]) rfl ⟨rfl, (by repeat' (first | exact HB2 | refine Below.setCell ?_ (by first | omega | (simp; done) | (simp; omega)) _ | refine below_drewN ?_ _ | refine Below.alloc ?_ (by first | omega | (simp; done) | (simp; omega)) _))⟩

theorem rmul_any (a b c d : Int) (w : World)
    (a0 : -9223372036854775808 ≤ a) (a1 : a ≤ 9223372036854775807) (b0 : -9223372036854775808 ≤ b) (b1 : b ≤ 9223372036854775807)
    (c0 : -9223372036854775808 ≤ c) (c1 : c ≤ 9223372036854775807) (d0 : -9223372036854775808 ≤ d) (d1 : d ≤ 9223372036854775807) :
    Calls Tryd.prog 19 #[.agg #[.int .i64 a, .int .i64 b], .agg #[.int .i64 c, .int .i64 d]] w fun e w' => e = .returned (.tuple #[.agg #[.int .i64 (op2 a b c d (a * c) (b * d)).1, .int .i64 (op2 a b c d (a * c) (b * d)).2.1], .int .i64 (op2 a b c d (a * c) (b * d)).2.2]) ∧ Below w.heap.size w w' := by
  unfold op2
  cases h : (vld a b && vld c d)
  · rw [if_neg (fun x => by rw [x.1, x.2] at h; cases h)]
    exact rmul_no a b c d w h a0 a1 b0 b1 c0 c1 d0 d1
  · rw [if_pos (Bool.and_eq_true_iff.1 h)]
    exact rmul_yes a b c d _ _ _ w h rfl a0 a1 b0 b1 c0 c1 d0 d1

set_option maxRecDepth 100000 in
set_option maxHeartbeats 400000 in
theorem rdiv_no (a b c d : Int) (w : World) (h : (vld a b && vld c d) = false)
    (a0 : -9223372036854775808 ≤ a) (a1 : a ≤ 9223372036854775807) (b0 : -9223372036854775808 ≤ b) (b1 : b ≤ 9223372036854775807)
    (c0 : -9223372036854775808 ≤ c) (c1 : c ≤ 9223372036854775807) (d0 : -9223372036854775808 ≤ d) (d1 : d ≤ 9223372036854775807) :
    Calls Tryd.prog 21 #[.agg #[.int .i64 a, .int .i64 b], .agg #[.int .i64 c, .int .i64 d]] w fun e w' => e = .returned (.tuple #[.agg #[.int .i64 0, .int .i64 0], .int .i64 1]) ∧ Below w.heap.size w w' := by
  go_enter Tryd.func21, Tryd.ntmps21
  go_wp2_with fail
  refine (both_any a b c d _ a0 a1 b0 b1 c0 c1 d0 d1).mono ?_
  rw [h]
  rintro e w1 ⟨rfl, hb1⟩
  have hz1 := hb1.size
  simp only [World.size_alloc] at hz1
  have R1 : At2 w1 (w.heap.size + 1 + 1) (.int .i64 0) (.int .i64 0) := by
    have := (At2.new ((w.alloc (.cells #[.int .i64 a, .int .i64 b] 23)).alloc (.cells #[.int .i64 c, .int .i64 d] 23)) (.int .i64 0) (.int .i64 0) 23).below hb1 (by simp)
    simpa using this
  have HB1 : Below w.heap.size w w1 := ((((Below.refl _ _).alloc (Nat.le_refl _) _).alloc (by simp) _).alloc (by simp; omega) _).trans (hb1.mono (by simp; omega))
  clear hb1
  obtain ⟨p8, p9, p10, p11⟩ := R1
  go_wp2
  exact bodyPost_ret (v := .tuple #[.agg #[.int .i64 0, .int .i64 0], .int .i64 1]) (by simp [results, Tryd.results21, go_sem, p8, p9]) rfl ⟨rfl, (by repeat' (first | exact HB1 | refine Below.setCell ?_ (by first | omega | (simp; done) | (simp; omega)) _ | refine below_drewN ?_ _ | refine Below.alloc ?_ (by first | omega | (simp; done) | (simp; omega)) _))⟩

set_option maxRecDepth 100000 in
set_option maxHeartbeats 400000 in
theorem rdiv_yes (a b c d p q er : Int) (w : World) (h : (vld a b && vld c d) = true) (hm : mk (a * d) (b * c) = (p, q, er))
    (a0 : -9223372036854775808 ≤ a) (a1 : a ≤ 9223372036854775807) (b0 : -9223372036854775808 ≤ b) (b1 : b ≤ 9223372036854775807)
    (c0 : -9223372036854775808 ≤ c) (c1 : c ≤ 9223372036854775807) (d0 : -9223372036854775808 ≤ d) (d1 : d ≤ 9223372036854775807) :
    Calls Tryd.prog 21 #[.agg #[.int .i64 a, .int .i64 b], .agg #[.int .i64 c, .int .i64 d]] w fun e w' => e = .returned (.tuple #[.agg #[.int .i64 p, .int .i64 q], .int .i64 er]) ∧ Below w.heap.size w w' := by
  have HV := Lib.hid h
  obtain ⟨hv1, hv2⟩ := Bool.and_eq_true_iff.1 h
  obtain ⟨v1, v2, v3, v4, _⟩ := (vld_iff a b).1 hv1
  obtain ⟨u1, u2, u3, u4, _⟩ := (vld_iff c d).1 hv2
  have bb := over_bounds ((vld_iff a b).1 hv1) ((vld_iff c d).1 hv2)
  have km : ∀ w, Calls Tryd.prog 13 #[.int .i64 (a * d), .int .i64 (b * c)] w fun e w' => e = .returned (.tuple #[.agg #[.int .i64 p, .int .i64 q], .int .i64 er]) ∧ Below w.heap.size w w' := fun w => by
    have k := rmake_any (a * d) (b * c) w bb.1 bb.2.1 bb.2.2.1 bb.2.2.2
    rw [hm] at k; exact k
  have KM := Lib.hid km
  have x1 := mul_le v1 v2 (b := d) (by omega) u4
  have x2 := mul_le u1 u2 (b := b) (by omega) v4
  have x3 := mul_le v1 v2 u1 u2
  have x4 := mul_le (a := b) (b := d) (by omega) v4 (by omega) u4
  have x5 := mul_le (a := b) (by omega) v4 u1 u2
  clear h hv1 hv2 hm km
  go_enter Tryd.func21, Tryd.ntmps21
  go_wp2_with fail
  refine (both_any a b c d _ a0 a1 b0 b1 c0 c1 d0 d1).mono ?_
  rw [HV.out]
  rintro e w1 ⟨rfl, hb1⟩
  have hz1 := hb1.size
  simp only [World.size_alloc] at hz1
  have A1 : At2 w1 w.heap.size (.int .i64 a) (.int .i64 b) := (((At2.new w _ _ _).alloc (by simp) _).alloc (by simp; omega) _).below hb1 (by simp; omega)
  have C1 : At2 w1 (w.heap.size + 1) (.int .i64 c) (.int .i64 d) := by
    have := ((At2.new (w.alloc (.cells #[.int .i64 a, .int .i64 b] 23)) (.int .i64 c) (.int .i64 d) 23).alloc (by simp) (.cells #[.int .i64 0, .int .i64 0] 23)).below hb1 (by simp)
    simpa using this
  have R1 : At2 w1 (w.heap.size + 1 + 1) (.int .i64 0) (.int .i64 0) := by
    have := (At2.new ((w.alloc (.cells #[.int .i64 a, .int .i64 b] 23)).alloc (.cells #[.int .i64 c, .int .i64 d] 23)) (.int .i64 0) (.int .i64 0) 23).below hb1 (by simp)
    simpa using this
  have HB1 : Below w.heap.size w w1 := ((((Below.refl _ _).alloc (Nat.le_refl _) _).alloc (by simp) _).alloc (by simp; omega) _).trans (hb1.mono (by simp; omega))
  clear hb1
  obtain ⟨p0, p1, p2, p3⟩ := A1
  obtain ⟨p4, p5, p6, p7⟩ := C1
  obtain ⟨p8, p9, p10, p11⟩ := R1
  go_wp2_with fail
  refine (KM.out _).mono ?_
  rintro e w2 ⟨rfl, hb2⟩
  have hz2 := hb2.size
  have R2 := (At2.mk p8 p9 p10 p11).below hb2 (by omega)
  have HB2 : Below w.heap.size w w2 := HB1.trans (hb2.mono (by omega))
  clear p0 p1 p2 p3 p4 p5 p6 p7 p8 p9 p10 p11 hb2 HB1
  obtain ⟨p8, p9, p10, p11⟩ := R2
  have pl : w.heap.size + 1 + 1 < w2.heap.size := by omega
  go_wp2
  exact bodyPost_ret (v := .tuple #[.agg #[.int .i64 p, .int .i64 q], .int .i64 er]) (by simp [results, Tryd.results21, go_sem, p8, p9, pl]) rfl ⟨rfl, (by repeat' (first | exact HB2 | refine Below.setCell ?_ (by first | omega | (simp; done) | (simp; omega)) _ | refine below_drewN ?_ _ | refine Below.alloc ?_ (by first | omega | (simp; done) | (simp; omega)) _))⟩

theorem rdiv_any (a b c d : Int) (w : World)
    (a0 : -9223372036854775808 ≤ a) (a1 : a ≤ 9223372036854775807) (b0 : -9223372036854775808 ≤ b) (b1 : b ≤ 9223372036854775807)
    (c0 : -9223372036854775808 ≤ c) (c1 : c ≤ 9223372036854775807) (d0 : -9223372036854775808 ≤ d) (d1 : d ≤ 9223372036854775807) :
    Calls Tryd.prog 21 #[.agg #[.int .i64 a, .int .i64 b], .agg #[.int .i64 c, .int .i64 d]] w fun e w' => e = .returned (.tuple #[.agg #[.int .i64 (op2 a b c d (a * d) (b * c)).1, .int .i64 (op2 a b c d (a * d) (b * c)).2.1], .int .i64 (op2 a b c d (a * d) (b * c)).2.2]) ∧ Below w.heap.size w w' := by
  unfold op2
  cases h : (vld a b && vld c d)
  · rw [if_neg (fun x => by rw [x.1, x.2] at h; cases h)]
    exact rdiv_no a b c d w h a0 a1 b0 b1 c0 c1 d0 d1
  · rw [if_pos (Bool.and_eq_true_iff.1 h)]
    exact rdiv_yes a b c d _ _ _ w h rfl a0 a1 b0 b1 c0 c1 d0 d1

end Go.Proofs.YtohnmffokichkaaDoor
