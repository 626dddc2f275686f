/-
  The walk of the law on rounding.
-/
import Derived.Test.YtamccmeibnihpaaDoorMMonoWalk
namespace Go.Proofs.YtamccmeibnihpaaDoor
open Go.RowKit

theorem scl_near (c n d a : Int) (hc : amt c = true) (hv : vld n d = true) (h : sclR c n d = (a, 0)) : amt a = true ∧ 2 * (a * d - c * n) ≤ d ∧ -(2 * (a * d - c * n)) ≤ d := by
  have hd := ((vld_iff n d).1 hv).2.2.1
  unfold sclR at h
  rw [if_pos ⟨hc, hv⟩] at h
  rcases wth_cases (rnd (c * n) d) with ⟨k1, k2⟩ | ⟨k1, k2⟩
  · rw [k1] at h
    simp only [Prod.mk.injEq] at h
    rw [← h.1]
    exact ⟨k2, rnd_near (c * n) d hd⟩
  · rw [k1] at h
    simp only [Prod.mk.injEq] at h
    omega

theorem scl_err (c n d a e : Int) (hc : amt c = true) (hv : vld n d = true) (h : sclR c n d = (a, e)) (he : ¬ e = 0) : a = 0 ∧ e = 3 := by
  unfold sclR at h
  rw [if_pos ⟨hc, hv⟩] at h
  rcases wth_cases (rnd (c * n) d) with ⟨k1, k2⟩ | ⟨k1, k2⟩ <;> rw [k1] at h <;> simp only [Prod.mk.injEq] at h <;> omega

theorem scl_range (c n d a e : Int) (h : sclR c n d = (a, e)) : -1000000000 ≤ a ∧ a ≤ 1000000000 := by
  unfold sclR at h
  split at h
  · rcases wth_cases (rnd (c * n) d) with ⟨k1, k2⟩ | ⟨k1, k2⟩ <;> rw [k1] at h <;> simp only [Prod.mk.injEq] at h
    · have := (amt_iff _).1 k2; omega
    · omega
  · simp only [Prod.mk.injEq] at h; omega

set_option maxRecDepth 100000 in
set_option maxHeartbeats 4000000 in
theorem rounds_law (c n d : Int) (w : World) (hE : Tab w) (_c0 : -9223372036854775808 ≤ c) (_c1 : c ≤ 9223372036854775807) (n0 : -9223372036854775808 ≤ n) (n1 : n ≤ 9223372036854775807) (d0 : -9223372036854775808 ≤ d) (d1 : d ≤ 9223372036854775807) :
    Calls Tryd.prog 4 #[.int .i64 c, .agg #[.int .i64 n, .int .i64 d]] w fun e w' => e = .returned (.bool true) ∧ Below w.heap.size w w' := by
  have HE := Lib.hid hE
  have KV := Lib.hid (fun w : World => rvalid_any n d w n0 n1 d0 d1)
  have KA := Lib.hid (fun w : World => ramount_any c w)
  clear hE
  cases hc : amt c with
  | false =>
    rw [hc] at KA
    clear hc
    go_enter Tryd.func4, Tryd.ntmps4
    go_wp2_with fail
    refine (head_any _ (HE.out.below ((Below.refl _ _).alloc (Nat.le_refl _) _))).mono ?_
    rintro _ w1 ⟨rfl, hb1⟩
    have HB1 : Aside (Below w.heap.size w w1) := ((Below.refl _ _).alloc (Nat.le_refl _) _).trans (hb1.mono (by simp))
    clear hb1
    go_wp2_with fail
    refine (KA.out _).mono ?_
    rintro _ w2 ⟨rfl, hw⟩
    have HB2 : Aside (Below w.heap.size w w2) := by rw [← hw]; exact HB1.out
    clear hw HB1
    go_wp2
    go_ret
    exact ⟨rfl, HB2.out⟩
  | true =>
    rw [hc] at KA
    cases hv : vld n d with
    | false =>
      rw [hv] at KV
      clear hv hc
      go_enter Tryd.func4, Tryd.ntmps4
      go_wp2_with fail
      refine (head_any _ (HE.out.below ((Below.refl _ _).alloc (Nat.le_refl _) _))).mono ?_
      rintro _ w1 ⟨rfl, hb1⟩
      have A1 := (At2.new w (.int .i64 n) (.int .i64 d) 29).below hb1 (by simp)
      have HB1 : Aside (Below w.heap.size w w1) := ((Below.refl _ _).alloc (Nat.le_refl _) _).trans (hb1.mono (by simp))
      clear hb1
      obtain ⟨p0, p1, p2, p3⟩ := A1
      go_wp2_with fail
      refine (KA.out _).mono ?_
      rintro _ w2 ⟨rfl, rfl⟩
      go_wp2_with fail
      refine (KV.out _).mono ?_
      rintro _ w2 ⟨rfl, hb2⟩
      have HB2 : Aside (Below w.heap.size w w2) := HB1.out.trans (hb2.mono HB1.out.size)
      clear hb2 HB1 p0 p1 p2 p3
      go_wp2
      go_ret
      exact ⟨rfl, HB2.out⟩
    | true =>
      rw [hv] at KV
      have hcb := (amt_iff c).1 hc
      obtain ⟨v0, v1, v2, v3, _⟩ := (vld_iff n d).1 hv
      obtain ⟨a, f, h1⟩ : ∃ x e, sclR c n d = (x, e) := ⟨_, _, rfl⟩
      have hab := scl_range c n d a f h1
      have K0 := Lib.hid (fun w => scl c 1 1 c 0 (sclR_one c hc) (by omega) (by omega) (by omega) (by omega) w)
      have K1 := Lib.hid (fun w => scl c n d a f h1 n0 n1 d0 d1 w)
      have K2 := Lib.hid (fun w => scl (-c) n d (-a) f (by rw [sclR_neg, h1]) n0 n1 d0 d1 w)
      have KQ := Lib.hid (fun w : World => ramount_any a w)
      have e1 : (c != c) = false := by simp
      have e2 : (f != f) = false := by simp
      have e3 : ((-a) != (-a)) = false := by simp
      have hstart : True := trivial
      by_cases hf : f = 0
      · subst hf
        obtain ⟨ha, m1, m2⟩ := scl_near c n d a hc hv h1
        rw [ha] at KQ
        have pr1 := mul_le (a := a) (b := d) hab.1 hab.2 (by omega) v3
        have pr2 := mul_le (a := c) (b := n) hcb.1 hcb.2 v0 v1
        obtain ⟨ad, had⟩ : ∃ m, a * d = m := ⟨_, rfl⟩
        obtain ⟨cn, hcn⟩ : ∃ m, c * n = m := ⟨_, rfl⟩
        rw [had] at pr1 m1 m2
        rw [hcn] at pr2 m1 m2
        have t1 : decide (2 * (ad - cn) ≤ d) = true := decide_eq_true m1
        have t2 : decide (-2 * (ad - cn) ≤ d) = true := decide_eq_true (by omega)
        have hrg : -1000000000 ≤ ad - cn ∧ ad - cn ≤ 1000000000 := by omega
        obtain ⟨df, hdf⟩ : ∃ df, ad - cn = df := ⟨_, rfl⟩
        rw [hdf] at t1 t2 hrg
        clear hv hc h1 m1 m2 ha hstart
        go_enter Tryd.func4, Tryd.ntmps4
        go_wp2_with fail
        refine (head_any _ (HE.out.below ((Below.refl _ _).alloc (Nat.le_refl _) _))).mono ?_
        rintro _ w1 ⟨rfl, hb1⟩
        have hz1 := hb1.size
        simp only [World.size_alloc] at hz1
        have A1 := (At2.new w (.int .i64 n) (.int .i64 d) 29).below hb1 (by simp)
        have HB1 : Aside (Below w.heap.size w w1) := ((Below.refl _ _).alloc (Nat.le_refl _) _).trans (hb1.mono (by simp))
        clear hb1
        obtain ⟨p0, p1, p2, p3⟩ := A1
        go_wp2_with fail
        refine (KA.out _).mono ?_
        rintro _ w2 ⟨rfl, rfl⟩
        go_wp2_with fail
        refine (KV.out _).mono ?_
        rintro _ w2 ⟨rfl, hb2⟩
        have hz2 := hb2.size
        have A2 := (At2.mk p0 p1 p2 p3).below hb2 (by omega)
        have HB2 : Aside (Below w.heap.size w w2) := HB1.out.trans (hb2.mono HB1.out.size)
        clear hb2 HB1 p0 p1 p2 p3
        obtain ⟨p0, p1, p2, p3⟩ := A2
        go_wp2_with fail
        refine (K0.out _).mono ?_
        rintro _ w3 ⟨rfl, hb3⟩
        have hz3 := hb3.size
        have A3 := (At2.mk p0 p1 p2 p3).below hb3 (by omega)
        have HB3 : Aside (Below w.heap.size w w3) := HB2.out.trans (hb3.mono HB2.out.size)
        clear hb3 HB2 p0 p1 p2 p3
        obtain ⟨p0, p1, p2, p3⟩ := A3
        go_wp2_with fail
        refine (K1.out _).mono ?_
        rintro _ w4 ⟨rfl, hb4⟩
        have hz4 := hb4.size
        have A4 := (At2.mk p0 p1 p2 p3).below hb4 (by omega)
        have HB4 : Aside (Below w.heap.size w w4) := HB3.out.trans (hb4.mono HB3.out.size)
        clear hb4 HB3 p0 p1 p2 p3
        obtain ⟨p0, p1, p2, p3⟩ := A4
        go_wp2_with fail
        refine (K2.out _).mono ?_
        rintro _ w5 ⟨rfl, hb5⟩
        have hz5 := hb5.size
        have A5 := (At2.mk p0 p1 p2 p3).below hb5 (by omega)
        have HB5 : Aside (Below w.heap.size w w5) := HB4.out.trans (hb5.mono HB4.out.size)
        clear hb5 HB4 p0 p1 p2 p3
        obtain ⟨p0, p1, p2, p3⟩ := A5
        go_wp2_with fail
        refine (KQ.out _).mono ?_
        rintro _ w6 ⟨rfl, hw⟩
        have HB6 : Aside (Below w.heap.size w w6) := by rw [← hw]; exact HB5.out
        subst hw
        clear HB5
        go_wp2
        go_ret
        exact ⟨rfl, HB6.out⟩
      · obtain ⟨ha, hf3⟩ := scl_err c n d a f hc hv h1 hf
        subst ha hf3
        clear hv hc h1 hf hstart
        go_enter Tryd.func4, Tryd.ntmps4
        go_wp2_with fail
        refine (head_any _ (HE.out.below ((Below.refl _ _).alloc (Nat.le_refl _) _))).mono ?_
        rintro _ w1 ⟨rfl, hb1⟩
        have hz1 := hb1.size
        simp only [World.size_alloc] at hz1
        have A1 := (At2.new w (.int .i64 n) (.int .i64 d) 29).below hb1 (by simp)
        have HB1 : Aside (Below w.heap.size w w1) := ((Below.refl _ _).alloc (Nat.le_refl _) _).trans (hb1.mono (by simp))
        clear hb1
        obtain ⟨p0, p1, p2, p3⟩ := A1
        go_wp2_with fail
        refine (KA.out _).mono ?_
        rintro _ w2 ⟨rfl, rfl⟩
        go_wp2_with fail
        refine (KV.out _).mono ?_
        rintro _ w2 ⟨rfl, hb2⟩
        have hz2 := hb2.size
        have A2 := (At2.mk p0 p1 p2 p3).below hb2 (by omega)
        have HB2 : Aside (Below w.heap.size w w2) := HB1.out.trans (hb2.mono HB1.out.size)
        clear hb2 HB1 p0 p1 p2 p3
        obtain ⟨p0, p1, p2, p3⟩ := A2
        go_wp2_with fail
        refine (K0.out _).mono ?_
        rintro _ w3 ⟨rfl, hb3⟩
        have hz3 := hb3.size
        have A3 := (At2.mk p0 p1 p2 p3).below hb3 (by omega)
        have HB3 : Aside (Below w.heap.size w w3) := HB2.out.trans (hb3.mono HB2.out.size)
        clear hb3 HB2 p0 p1 p2 p3
        obtain ⟨p0, p1, p2, p3⟩ := A3
        go_wp2_with fail
        refine (K1.out _).mono ?_
        rintro _ w4 ⟨rfl, hb4⟩
        have hz4 := hb4.size
        have A4 := (At2.mk p0 p1 p2 p3).below hb4 (by omega)
        have HB4 : Aside (Below w.heap.size w w4) := HB3.out.trans (hb4.mono HB3.out.size)
        clear hb4 HB3 p0 p1 p2 p3
        obtain ⟨p0, p1, p2, p3⟩ := A4
        go_wp2_with fail
        refine (K2.out _).mono ?_
        rintro _ w5 ⟨rfl, hb5⟩
        have hz5 := hb5.size
        have A5 := (At2.mk p0 p1 p2 p3).below hb5 (by omega)
        have HB5 : Aside (Below w.heap.size w w5) := HB4.out.trans (hb5.mono HB4.out.size)
        clear hb5 HB4 p0 p1 p2 p3
        obtain ⟨p0, p1, p2, p3⟩ := A5
        go_wp2
        go_ret
        exact ⟨rfl, HB5.out⟩
end Go.Proofs.YtamccmeibnihpaaDoor
