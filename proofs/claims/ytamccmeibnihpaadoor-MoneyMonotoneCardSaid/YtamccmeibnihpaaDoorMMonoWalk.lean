/-
  The walk of the law on order.
-/
import Derived.Test.YtamccmeibnihpaaDoorMHead
import Derived.Test.YtamccmeibnihpaaDoorMRndMath
import Derived.Test.YtamccmeibnihpaaDoorMRef1
namespace Go.Proofs.YtamccmeibnihpaaDoor
open Go.RowKit

/-- By a number that is not negative a greater amount is not scaled to less. -/
theorem sclR_mono (a b n d x e y f : Int) (hv : vld n d = true) (hn : 0 ≤ n) (hab : a ≤ b) (h1 : sclR a n d = (x, e)) (h2 : sclR b n d = (y, f)) (he : e = 0) (hf : f = 0) : x ≤ y := by
  have hd := ((vld_iff n d).1 hv).2.2.1
  unfold sclR at h1 h2
  split at h1
  · split at h2
    · have hm : a * n ≤ b * n := Int.mul_le_mul_of_nonneg_right hab hn
      have hr := rnd_mono (a * n) (b * n) d hd hm
      rcases wth_cases (rnd (a * n) d) with ⟨k1, _⟩ | ⟨k1, _⟩ <;> rcases wth_cases (rnd (b * n) d) with ⟨k2, _⟩ | ⟨k2, _⟩ <;> rw [k1] at h1 <;> rw [k2] at h2 <;> simp only [Prod.mk.injEq] at h1 h2 <;> omega
    · simp only [Prod.mk.injEq] at h2; omega
  · simp only [Prod.mk.injEq] at h1; omega

theorem scl (c n d x e : Int) (h : sclR c n d = (x, e)) (n0 : -9223372036854775808 ≤ n) (n1 : n ≤ 9223372036854775807) (d0 : -9223372036854775808 ≤ d) (d1 : d ≤ 9223372036854775807) (w : World) :
    Calls Tryd.prog 13 #[.int .i64 c, .agg #[.int .i64 n, .int .i64 d]] w fun e' w' => e' = .returned (.tuple #[.int .i64 x, .int .i64 e]) ∧ Below w.heap.size w w' := by
  have k := scale_any c n d w n0 n1 d0 d1
  rw [h] at k
  exact k

set_option maxRecDepth 100000 in
set_option maxHeartbeats 4000000 in
theorem mono_law (a b n d : Int) (w : World) (hE : Tab w) (_a0 : -9223372036854775808 ≤ a) (_a1 : a ≤ 9223372036854775807) (_b0 : -9223372036854775808 ≤ b) (_b1 : b ≤ 9223372036854775807) (n0 : -9223372036854775808 ≤ n) (n1 : n ≤ 9223372036854775807) (d0 : -9223372036854775808 ≤ d) (d1 : d ≤ 9223372036854775807) :
    Calls Tryd.prog 5 #[.int .i64 a, .int .i64 b, .agg #[.int .i64 n, .int .i64 d]] w fun e w' => e = .returned (.bool true) ∧ Below w.heap.size w w' := by
  have HE := Lib.hid hE
  have KV := Lib.hid (fun w : World => rvalid_any n d w n0 n1 d0 d1)
  clear hE
  cases hv : vld n d with
  | false =>
    rw [hv] at KV
    clear hv
    go_enter Tryd.func5, Tryd.ntmps5
    go_wp2_with fail
    refine (head_any _ (HE.out.below ((Below.refl _ _).alloc (Nat.le_refl _) _))).mono ?_
    rintro _ w1 ⟨rfl, hb1⟩
    have A1 := (At2.new w (.int .i64 n) (.int .i64 d) 29).below hb1 (by simp)
    have HB1 : Aside (Below w.heap.size w w1) := ((Below.refl _ _).alloc (Nat.le_refl _) _).trans (hb1.mono (by simp))
    clear hb1
    obtain ⟨p0, p1, p2, p3⟩ := A1
    go_wp2_with fail
    refine (KV.out _).mono ?_
    rintro _ w2 ⟨rfl, hb2⟩
    have HB2 : Aside (Below w.heap.size w w2) := HB1.out.trans (hb2.mono HB1.out.size)
    clear hb2 HB1 p0 p1 p2 p3
    go_wp2
    go_ret
    exact ⟨rfl, HB2.out⟩
  | true =>
    rw [hv] at KV
    by_cases hn : n < 0
    · clear hv
      have t0 : decide (n < 0) = true := decide_eq_true hn
      go_enter Tryd.func5, Tryd.ntmps5
      go_wp2_with fail
      refine (head_any _ (HE.out.below ((Below.refl _ _).alloc (Nat.le_refl _) _))).mono ?_
      rintro _ w1 ⟨rfl, hb1⟩
      have A1 := (At2.new w (.int .i64 n) (.int .i64 d) 29).below hb1 (by simp)
      have HB1 : Aside (Below w.heap.size w w1) := ((Below.refl _ _).alloc (Nat.le_refl _) _).trans (hb1.mono (by simp))
      have hz1 := hb1.size
      simp only [World.size_alloc] at hz1
      clear hb1
      obtain ⟨p0, p1, p2, p3⟩ := A1
      go_wp2_with fail
      refine (KV.out _).mono ?_
      rintro _ w2 ⟨rfl, hb2⟩
      have A2 := (At2.mk p0 p1 p2 p3).below hb2 (by omega)
      have HB2 : Aside (Below w.heap.size w w2) := HB1.out.trans (hb2.mono HB1.out.size)
      clear hb2 HB1 p0 p1 p2 p3
      obtain ⟨p0, p1, p2, p3⟩ := A2
      go_wp2
      go_ret
      exact ⟨rfl, HB2.out⟩
    · obtain ⟨x, e, h1⟩ : ∃ x e, sclR (min a b) n d = (x, e) := ⟨_, _, rfl⟩
      obtain ⟨y, f, h2⟩ : ∃ x e, sclR (max a b) n d = (x, e) := ⟨_, _, rfl⟩
      have hm := sclR_mono (min a b) (max a b) n d x e y f hv (by omega) (by omega) h1 h2
      have K1 := Lib.hid (fun w => scl (min a b) n d x e h1 n0 n1 d0 d1 w)
      have K2 := Lib.hid (fun w => scl (max a b) n d y f h2 n0 n1 d0 d1 w)
      have t0 : decide (n < 0) = false := decide_eq_false hn
      have HN : Hid (0 ≤ n) := (show 0 ≤ n by omega)
      clear h1 h2 hv hn
      go_enter Tryd.func5, Tryd.ntmps5
      go_wp2_with fail
      refine (head_any _ (HE.out.below ((Below.refl _ _).alloc (Nat.le_refl _) _))).mono ?_
      rintro _ w1 ⟨rfl, hb1⟩
      have A1 := (At2.new w (.int .i64 n) (.int .i64 d) 29).below hb1 (by simp)
      have HB1 : Aside (Below w.heap.size w w1) := ((Below.refl _ _).alloc (Nat.le_refl _) _).trans (hb1.mono (by simp))
      have hz1 := hb1.size
      simp only [World.size_alloc] at hz1
      clear hb1
      obtain ⟨p0, p1, p2, p3⟩ := A1
      go_wp2_with fail
      refine (KV.out _).mono ?_
      rintro _ w2 ⟨rfl, hb2⟩
      have hz2 := hb2.size
      have A2 := (At2.mk p0 p1 p2 p3).below hb2 (by omega)
      have HB2 : Aside (Below w.heap.size w w2) := HB1.out.trans (hb2.mono HB1.out.size)
      clear hb2 HB1 p0 p1 p2 p3
      obtain ⟨p0, p1, p2, p3⟩ := A2
      go_wp2_with fail
      refine (K1.out _).mono ?_
      rintro _ w3 ⟨rfl, hb3⟩
      have hz3 := hb3.size
      have A3 := (At2.mk p0 p1 p2 p3).below hb3 (by omega)
      have HB3 : Aside (Below w.heap.size w w3) := HB2.out.trans (hb3.mono HB2.out.size)
      clear hb3 HB2 p0 p1 p2 p3
      obtain ⟨p0, p1, p2, p3⟩ := A3
      go_wp2_with fail
      refine (K2.out _).mono ?_
      rintro _ w4 ⟨rfl, hb4⟩
      have HB4 : Aside (Below w.heap.size w w4) := HB3.out.trans (hb4.mono HB3.out.size)
      clear hb4 HB3 p0 p1 p2 p3
      by_cases he : e = 0
      · subst he
        by_cases hf : f = 0
        · subst hf
          have hxy := hm rfl rfl
          have t1 : decide (x ≤ y) = true := decide_eq_true hxy
          clear hm
          go_wp2
          go_ret
          exact ⟨rfl, HB4.out⟩
        · have t1 : (f != 0) = true := by simp; exact hf
          clear hm hf
          go_wp2
          go_ret
          exact ⟨rfl, HB4.out⟩
      · have t1 : (e != 0) = true := by simp; exact he
        clear hm he
        go_wp2
        go_ret
        exact ⟨rfl, HB4.out⟩
end Go.Proofs.YtamccmeibnihpaaDoor
