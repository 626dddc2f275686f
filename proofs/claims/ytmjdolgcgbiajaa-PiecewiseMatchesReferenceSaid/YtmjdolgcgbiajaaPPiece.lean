/-
  Pieces as the program has them: raw numbers; contracts of isWithinLimits, piece, times.
-/
import Derived.Test.YtmjdolgcgbiajaaPLine
namespace Go.Proofs.Ytmjdolgcgbiajaa
open Go.RowKit Pw

/-- A piece in raw numbers. -/
structure RP where
  f : Int
  vn : Int
  vd : Int
  sn : Int
  sd : Int
deriving DecidableEq, Inhabited
def RP.V (p : RP) : Value := .agg #[.int .i64 p.f, .int .i64 p.vn, .int .i64 p.vd, .int .i64 p.sn, .int .i64 p.sd]
/-- What isWithinLimits says. -/
def wl (p : RP) : Bool := vld p.vn p.vd && decide (p.vd ≤ 100) && vld p.sn p.sd && decide (p.sd ≤ 100) && decide (-100000 ≤ p.sn) && decide (p.sn ≤ 100000)
def In64 (x : Int) : Prop := -9223372036854775808 ≤ x ∧ x ≤ 9223372036854775807
def RP.In (p : RP) : Prop := In64 p.f ∧ In64 p.vn ∧ In64 p.vd ∧ In64 p.sn ∧ In64 p.sd
/-- An abstract piece, in raw numbers; what is no number as the program has it. -/
def rpO (a : AP) : RP := ⟨a.f, mkN a.v, mkD a.v, mkN a.s, mkD a.s⟩
def toRP (a : AP) : RP := ⟨a.f, a.v.num, a.v.den, a.s.num, a.s.den⟩
def toAP (p : RP) : AP := ⟨p.f, fr p.vn p.vd, fr p.sn p.sd⟩
theorem vld_mk (x : Rat) : vld (mkN x) (mkD x) = okR x := by
  unfold mkN mkD
  cases h : okR x with
  | true => exact (vld_iff _ _).2 (okR_val.1 h)
  | false => rfl
theorem wl_rpO (a : AP) : wl (rpO a) = Lim a := by
  unfold wl rpO Lim
  simp only [vld_mk]
  cases h : okR a.v with
  | false => simp
  | true =>
    cases h' : okR a.s with
    | false => simp
    | true => unfold mkN mkD; rw [h, h']; rfl
theorem rpO_ok {a : AP} (h : Lim a = true) : rpO a = toRP a := by
  unfold Lim at h
  simp only [Bool.and_eq_true] at h
  unfold rpO toRP mkN mkD
  rw [h.1.1.1.1.1, h.1.1.1.2]
  rfl
theorem wl_val {p : RP} (h : wl p = true) : Q.Val p.vn p.vd ∧ p.vd ≤ 100 ∧ Q.Val p.sn p.sd ∧ p.sd ≤ 100 ∧ -100000 ≤ p.sn ∧ p.sn ≤ 100000 := by
  unfold wl at h
  simp only [Bool.and_eq_true, decide_eq_true_eq, vld_iff] at h
  exact ⟨h.1.1.1.1.1, h.1.1.1.1.2, h.1.1.1.2, h.1.1.2, h.1.2, h.2⟩
theorem back {p : RP} (h : wl p = true) : toRP (toAP p) = p := by
  obtain ⟨h1, _, h2, _⟩ := wl_val h
  obtain ⟨a1, a2⟩ := val_fr h1
  obtain ⟨b1, b2⟩ := val_fr h2
  unfold toRP toAP
  simp only [a1, a2, b1, b2]
theorem lim_toAP {p : RP} (h : wl p = true) : Lim (toAP p) = true := by
  obtain ⟨h1, h3, h2, h4, h5, h6⟩ := wl_val h
  obtain ⟨a1, a2⟩ := val_fr h1
  obtain ⟨b1, b2⟩ := val_fr h2
  have o1 : okR (fr p.vn p.vd) = true := okR_val.2 (by rw [a1, a2]; exact h1)
  have o2 : okR (fr p.sn p.sd) = true := okR_val.2 (by rw [b1, b2]; exact h2)
  unfold Lim toAP
  simp only [a2, b1, b2, o1, o2]
  simp [h3, h4, h5, h6]
theorem lim_val {a : AP} (h : Lim a = true) : wl (toRP a) = true := by rw [← rpO_ok h, wl_rpO, h]
theorem toAP_toRP (a : AP) : toAP (toRP a) = a := by
  unfold toAP toRP
  simp only [fr_self]

set_option maxRecDepth 100000 in
set_option maxHeartbeats 1000000 in
theorem within_any (p : RP) (w : World) (hI : p.In) : Calls Try.prog 38 #[p.V] w fun e w' => e = .returned (.bool (wl p)) ∧ RowKit.Below w.heap.size w w' := by
  obtain ⟨f, vn, vd, sn, sd⟩ := p
  obtain ⟨_, i1, i2, i3, i4⟩ := hI
  unfold In64 at i1 i2 i3 i4
  simp only at i1 i2 i3 i4
  obtain ⟨c, hc⟩ : ∃ c, c = wl ⟨f, vn, vd, sn, sd⟩ := ⟨_, rfl⟩
  rw [← hc]
  unfold wl at hc
  simp only at hc
  have k1 := fun w => valid_any vn vd w i1.1 i1.2 i2.1 i2.2
  have k2 := fun w => valid_any sn sd w i3.1 i3.2 i4.1 i4.2
  generalize vld vn vd = v1 at *
  generalize vld sn sd = v2 at *
  have K1 := Lib.hid k1
  have K2 := Lib.hid k2
  have HC := Lib.hid hc
  clear k1 k2 hc
  unfold RP.V
  simp only
  cases v1 with
  | false =>
    have E : Hid (c = false) := by show _ = _; rw [HC.out]; rfl
    clear HC
    go_enter Try.func38, Try.ntmps38
    go_wp2_with fail
    refine (K1.out _).mono ?_
    rintro _ w1 ⟨rfl, hb⟩
    have HB := Lib.hid (((Below.refl _ w).alloc (Nat.le_refl _) (.cells #[.int .i64 f, .int .i64 vn, .int .i64 vd, .int .i64 sn, .int .i64 sd] 51)).trans (hb.mono (by simp)))
    obtain ⟨c0, c1, c2, c3, c4, _, _, _, _, _⟩ := (At5.new w (.int .i64 f) (.int .i64 vn) (.int .i64 vd) (.int .i64 sn) (.int .i64 sd) 51).below hb (by simp)
    clear hb
    go_wp2
    go_ret
    exact ⟨ret_bool E.out.symm, HB.out⟩
  | true =>
    by_cases g1 : vd ≤ 100
    · have d1 : decide (vd ≤ 100) = true := decide_eq_true g1
      clear g1
      cases v2 with
      | false =>
        have E : Hid (c = false) := by show _ = _; rw [HC.out, d1]; rfl
        clear HC
        go_enter Try.func38, Try.ntmps38
        go_wp2_with fail
        refine (K1.out _).mono ?_
        rintro _ w1 ⟨rfl, hb⟩
        have hz1 : w.heap.size < w1.heap.size := by have := hb.size; simp at this; omega
        have HB := Lib.hid (((Below.refl _ w).alloc (Nat.le_refl _) (.cells #[.int .i64 f, .int .i64 vn, .int .i64 vd, .int .i64 sn, .int .i64 sd] 51)).trans (hb.mono (by simp)))
        have A1 := (At5.new w (.int .i64 f) (.int .i64 vn) (.int .i64 vd) (.int .i64 sn) (.int .i64 sd) 51).below hb (by simp)
        have HA := Lib.hid A1
        obtain ⟨c0, c1, c2, c3, c4, _, _, _, _, _⟩ := A1
        clear hb
        go_wp2_with fail
        refine (K2.out _).mono ?_
        rintro _ w2 ⟨rfl, hb⟩
        have HB2 := Lib.hid (HB.out.trans (hb.mono HB.out.size))
        clear c0 c1 c2 c3 c4
        obtain ⟨c0, c1, c2, c3, c4, _, _, _, _, _⟩ := HA.out.below hb hz1
        clear hb
        go_wp2
        go_ret
        exact ⟨ret_bool E.out.symm, HB2.out⟩
      | true =>
        by_cases g2 : sd ≤ 100
        · have d2 : decide (sd ≤ 100) = true := decide_eq_true g2
          clear g2
          by_cases g3 : -100000 ≤ sn
          · have d3 : decide (-100000 ≤ sn) = true := decide_eq_true g3
            clear g3
            by_cases g4 : sn ≤ 100000
            · have d4 : decide (sn ≤ 100000) = true := decide_eq_true g4
              clear g4
              have E : Hid (c = true) := by show _ = _; rw [HC.out, d1, d2, d3, d4]; rfl
              clear HC
              go_enter Try.func38, Try.ntmps38
              go_wp2_with fail
              refine (K1.out _).mono ?_
              rintro _ w1 ⟨rfl, hb⟩
              have hz1 : w.heap.size < w1.heap.size := by have := hb.size; simp at this; omega
              have HB := Lib.hid (((Below.refl _ w).alloc (Nat.le_refl _) (.cells #[.int .i64 f, .int .i64 vn, .int .i64 vd, .int .i64 sn, .int .i64 sd] 51)).trans (hb.mono (by simp)))
              have A1 := (At5.new w (.int .i64 f) (.int .i64 vn) (.int .i64 vd) (.int .i64 sn) (.int .i64 sd) 51).below hb (by simp)
              have HA := Lib.hid A1
              obtain ⟨c0, c1, c2, c3, c4, _, _, _, _, _⟩ := A1
              clear hb
              go_wp2_with fail
              refine (K2.out _).mono ?_
              rintro _ w2 ⟨rfl, hb⟩
              have HB2 := Lib.hid (HB.out.trans (hb.mono HB.out.size))
              clear c0 c1 c2 c3 c4
              obtain ⟨c0, c1, c2, c3, c4, _, _, _, _, _⟩ := HA.out.below hb hz1
              clear hb
              go_wp2
              go_ret
              exact ⟨ret_bool E.out.symm, HB2.out⟩
            · have d4 : decide (sn ≤ 100000) = false := decide_eq_false g4
              clear g4
              have E : Hid (c = false) := by show _ = _; rw [HC.out, d1, d2, d3, d4]; rfl
              clear HC
              go_enter Try.func38, Try.ntmps38
              go_wp2_with fail
              refine (K1.out _).mono ?_
              rintro _ w1 ⟨rfl, hb⟩
              have hz1 : w.heap.size < w1.heap.size := by have := hb.size; simp at this; omega
              have HB := Lib.hid (((Below.refl _ w).alloc (Nat.le_refl _) (.cells #[.int .i64 f, .int .i64 vn, .int .i64 vd, .int .i64 sn, .int .i64 sd] 51)).trans (hb.mono (by simp)))
              have A1 := (At5.new w (.int .i64 f) (.int .i64 vn) (.int .i64 vd) (.int .i64 sn) (.int .i64 sd) 51).below hb (by simp)
              have HA := Lib.hid A1
              obtain ⟨c0, c1, c2, c3, c4, _, _, _, _, _⟩ := A1
              clear hb
              go_wp2_with fail
              refine (K2.out _).mono ?_
              rintro _ w2 ⟨rfl, hb⟩
              have HB2 := Lib.hid (HB.out.trans (hb.mono HB.out.size))
              clear c0 c1 c2 c3 c4
              obtain ⟨c0, c1, c2, c3, c4, _, _, _, _, _⟩ := HA.out.below hb hz1
              clear hb
              go_wp2
              go_ret
              exact ⟨ret_bool E.out.symm, HB2.out⟩
          · have d3 : decide (-100000 ≤ sn) = false := decide_eq_false g3
            clear g3
            have E : Hid (c = false) := by show _ = _; rw [HC.out, d1, d2, d3]; rfl
            clear HC
            go_enter Try.func38, Try.ntmps38
            go_wp2_with fail
            refine (K1.out _).mono ?_
            rintro _ w1 ⟨rfl, hb⟩
            have hz1 : w.heap.size < w1.heap.size := by have := hb.size; simp at this; omega
            have HB := Lib.hid (((Below.refl _ w).alloc (Nat.le_refl _) (.cells #[.int .i64 f, .int .i64 vn, .int .i64 vd, .int .i64 sn, .int .i64 sd] 51)).trans (hb.mono (by simp)))
            have A1 := (At5.new w (.int .i64 f) (.int .i64 vn) (.int .i64 vd) (.int .i64 sn) (.int .i64 sd) 51).below hb (by simp)
            have HA := Lib.hid A1
            obtain ⟨c0, c1, c2, c3, c4, _, _, _, _, _⟩ := A1
            clear hb
            go_wp2_with fail
            refine (K2.out _).mono ?_
            rintro _ w2 ⟨rfl, hb⟩
            have HB2 := Lib.hid (HB.out.trans (hb.mono HB.out.size))
            clear c0 c1 c2 c3 c4
            obtain ⟨c0, c1, c2, c3, c4, _, _, _, _, _⟩ := HA.out.below hb hz1
            clear hb
            go_wp2
            go_ret
            exact ⟨ret_bool E.out.symm, HB2.out⟩
        · have d2 : decide (sd ≤ 100) = false := decide_eq_false g2
          clear g2
          have E : Hid (c = false) := by show _ = _; rw [HC.out, d1, d2]; rfl
          clear HC
          go_enter Try.func38, Try.ntmps38
          go_wp2_with fail
          refine (K1.out _).mono ?_
          rintro _ w1 ⟨rfl, hb⟩
          have hz1 : w.heap.size < w1.heap.size := by have := hb.size; simp at this; omega
          have HB := Lib.hid (((Below.refl _ w).alloc (Nat.le_refl _) (.cells #[.int .i64 f, .int .i64 vn, .int .i64 vd, .int .i64 sn, .int .i64 sd] 51)).trans (hb.mono (by simp)))
          have A1 := (At5.new w (.int .i64 f) (.int .i64 vn) (.int .i64 vd) (.int .i64 sn) (.int .i64 sd) 51).below hb (by simp)
          have HA := Lib.hid A1
          obtain ⟨c0, c1, c2, c3, c4, _, _, _, _, _⟩ := A1
          clear hb
          go_wp2_with fail
          refine (K2.out _).mono ?_
          rintro _ w2 ⟨rfl, hb⟩
          have HB2 := Lib.hid (HB.out.trans (hb.mono HB.out.size))
          clear c0 c1 c2 c3 c4
          obtain ⟨c0, c1, c2, c3, c4, _, _, _, _, _⟩ := HA.out.below hb hz1
          clear hb
          go_wp2
          go_ret
          exact ⟨ret_bool E.out.symm, HB2.out⟩
    · have d1 : decide (vd ≤ 100) = false := decide_eq_false g1
      clear g1
      have E : Hid (c = false) := by show _ = _; rw [HC.out, d1]; rfl
      clear HC
      go_enter Try.func38, Try.ntmps38
      go_wp2_with fail
      refine (K1.out _).mono ?_
      rintro _ w1 ⟨rfl, hb⟩
      have HB := Lib.hid (((Below.refl _ w).alloc (Nat.le_refl _) (.cells #[.int .i64 f, .int .i64 vn, .int .i64 vd, .int .i64 sn, .int .i64 sd] 51)).trans (hb.mono (by simp)))
      have A1 := (At5.new w (.int .i64 f) (.int .i64 vn) (.int .i64 vd) (.int .i64 sn) (.int .i64 sd) 51).below hb (by simp)
      obtain ⟨c0, c1, c2, c3, c4, _, _, _, _, _⟩ := A1
      clear hb
      go_wp2
      go_ret
      exact ⟨ret_bool E.out.symm, HB.out⟩
end Go.Proofs.Ytmjdolgcgbiajaa
