/-
  Contract of the reference's Valid.
-/
import Derived.Test.YtmjdolgcgbiajaaPValid
namespace Go.Proofs.Ytmjdolgcgbiajaa
open Go.RowKit Pw


set_option maxRecDepth 100000 in
set_option maxHeartbeats 4000000 in
theorem rvalid_sl (l : List RP) (p : Option Addr) (b off cap len : Nat) (w : World) (hS : SlP w p b off len l) : Calls Try.prog 15 #[.slice p len cap] w fun e w' => e = .returned (.bool (vR l)) ∧ RowKit.Below w.heap.size w w' := by
  have HS := Lib.hid hS
  have hm := hS.max
  have HL := Lib.hid hS.ln
  by_cases h1 : len < 1
  · have h1z : (len : Int) < 1 := by omega
    have E := Lib.hid (vR_no (l := l) fun h => by have := h.1; have := hS.ln; omega)
    clear hS
    go_enter Try.func15, Try.ntmps15
    go_wp2
    go_ret
    exact ⟨ret_bool E.out.symm, Below.refl _ _⟩
  have h1z : ¬ (len : Int) < 1 := by omega
  by_cases h64 : 64 < len
  · have h64z : (64 : Int) < (len : Int) := by omega
    have E := Lib.hid (vR_no (l := l) fun h => by have := h.2.1; have := hS.ln; omega)
    clear hS
    go_enter Try.func15, Try.ntmps15
    go_wp2
    go_ret
    exact ⟨ret_bool E.out.symm, Below.refl _ _⟩
  have h64z : ¬ (64 : Int) < (len : Int) := by omega
  have hp1 := hS.ptr (by omega)
  subst hp1
  have hl0 : 0 < l.length := by have := hS.ln; omega
  have z0 := (hS.cells 0 hl0).1
  rw [Nat.zero_mul, Nat.add_zero] at z0
  have hz0 : (0 : Int) < (len : Int) := by omega
  obtain ⟨f0, hf0⟩ : ∃ f0, f0 = l[0].f := ⟨_, rfl⟩
  rw [← hf0] at z0
  by_cases hh : f0 = 0
  case neg =>
    have E := Lib.hid (vR_no (l := l) fun h => hh (by rw [hf0]; exact h.2.2.1 hl0))
    have hn : (f0 != 0) = true := by simpa using hh
    clear hS hf0 hh
    go_enter Try.func15, Try.ntmps15
    go_wp2
    go_ret
    exact ⟨ret_bool E.out.symm, Below.refl _ _⟩
  case pos =>
    have HF0 : Hid (∀ h : 0 < l.length, l[0].f = 0) := fun _ => by rw [← hf0]; exact hh
    subst hh
    clear hS hf0
    go_enter Try.func15, Try.ntmps15
    go_wp2_with fail
    go_loopg [3] len (fun q s22 wr => ∃ k : Nat, s22 = .int .i64 k ∧ k ≤ len ∧ len - k ≤ q ∧ Hid (RowKit.Below w.heap.size w wr) ∧ Hid (UpR l k))
    case atStart => exact ⟨0, rfl, by omega, by omega, Below.refl _ _, fun j h hj => by omega⟩
    case round =>
      obtain ⟨k, rfl, hk, hkq, HB, HU⟩ := hrel
      clear z0
      by_cases hlt : k < len
      case neg =>
        obtain rfl : k = len := by omega
        have hltz : ¬ (k : Int) < (k : Int) := by omega
        have E := Lib.hid (vR_iff.2 (show VR l from ⟨by have := HL.out; omega, by have := HL.out; omega, HF0.out, by rw [HL.out]; exact HU.out⟩))
        go_wp2
        go_ret
        exact ⟨ret_bool E.out.symm, HB.out⟩
      case pos =>
        have hltz : (k : Int) < (len : Int) := by omega
        have hkl : k < l.length := by rw [HL.out]; exact hlt
        have HS1 := Lib.hid (HS.out.below HB.out)
        have hbr := HS1.out.lt (by omega)
        obtain ⟨x0, x1, x2, x3, x4⟩ := HS1.out.cells k hkl
        obtain ⟨X, hX⟩ : ∃ X, X = l[k] := ⟨_, rfl⟩
        rw [← hX] at x0 x1 x2 x3 x4
        have HIN : X.In := by rw [hX]; exact HS1.out.in64 hkl
        have HX := Lib.hid hX
        have hwl : wl X = (vld X.vn X.vd && decide (X.vd ≤ 100) && vld X.sn X.sd && decide (X.sd ≤ 100) && decide (-100000 ≤ X.sn) && decide (X.sn ≤ 100000)) := rfl
        obtain ⟨_, ⟨i1, j1⟩, ⟨i2, j2⟩, ⟨i3, j3⟩, ⟨i4, j4⟩⟩ := HIN
        have K1 := Lib.hid (fun w => rvalid_any X.vn X.vd w i1 j1 i2 j2)
        have K2 := Lib.hid (fun w => rvalid_any X.sn X.sd w i3 j3 i4 j4)
        have HXX := Lib.hid hX
        obtain ⟨v, hv⟩ : ∃ v, v = vld X.vn X.vd := ⟨_, rfl⟩
        obtain ⟨s, hs⟩ : ∃ s, s = vld X.sn X.sd := ⟨_, rfl⟩
        rw [← hv] at K1 hwl
        rw [← hs] at K2 hwl
        clear hv hs hX i1 i2 i3 i4 j1 j2 j3 j4
        obtain ⟨a0, ha0⟩ : ∃ a0, a0 = X.f := ⟨_, rfl⟩
        have HA := Lib.hid ha0
        rw [← ha0] at x0
        clear ha0
        obtain ⟨a1, ha1⟩ : ∃ a1, a1 = X.vn := ⟨_, rfl⟩
        obtain ⟨a2, ha2⟩ : ∃ a2, a2 = X.vd := ⟨_, rfl⟩
        obtain ⟨a3, ha3⟩ : ∃ a3, a3 = X.sn := ⟨_, rfl⟩
        obtain ⟨a4, ha4⟩ : ∃ a4, a4 = X.sd := ⟨_, rfl⟩
        rw [← ha1] at x1
        rw [← ha2] at x2
        rw [← ha3] at x3
        rw [← ha4] at x4
        rw [← ha1, ← ha2] at K1
        rw [← ha3, ← ha4] at K2
        rw [← ha2, ← ha3, ← ha4] at hwl
        have HWL := Lib.hid hwl
        have HAA := Lib.hid (And.intro ha1 (And.intro ha2 (And.intro ha3 ha4)))
        clear hwl ha1 ha2 ha3 ha4

        by_cases hk0 : 0 < k
        case neg =>
          have hk0z : decide ((0 : Int) < (k : Int)) = false := decide_eq_false (by omega)
          by_cases hbig : 100000 < a0
          case pos =>
            have E := Lib.hid (vR_no (l := l) fun h => by have := (h.2.2.2 k hkl (by omega)).2.1; rw [← HX.out, ← HA.out] at this; omega)
            go_wp2_with fail
            go_quiet (fail)
            go_wp2
            go_ret
            exact ⟨ret_bool E.out.symm, below_drewN HB.out _⟩
          case neg =>
            have hbz : decide (100000 < a0) = false := decide_eq_false hbig
            cases v with
            | false =>
              have E := Lib.hid (vR_no (l := l) fun h => by have := (h.2.2.2 k hkl (by omega)).2.2; rw [← HX.out, HWL.out] at this; simp at this)
              go_wp2_with fail
              go_quiet (fail)
              go_wp2_with fail
              refine (K1.out _).mono ?_
              rintro _ w1 ⟨rfl, hb⟩
              have hb1 : RowKit.Below wr.heap.size wr w1 := RowKit.Below.trans (below_drewN (Below.refl _ _) _) hb
              have HS2 := Lib.hid (HS1.out.below hb1)
              have HB2 := Lib.hid (HB.out.trans (hb1.mono HB.out.size))
              clear hb hb1 x0 x1 x2 x3 x4
              obtain ⟨_, x1, x2, x3, x4⟩ := HS2.out.cells k hkl
              rw [← HX.out] at x1 x2 x3 x4
              rw [← HAA.out.1] at x1
              rw [← HAA.out.2.1] at x2
              rw [← HAA.out.2.2.1] at x3
              rw [← HAA.out.2.2.2] at x4
              go_wp2_with fail
              refine (K2.out _).mono ?_
              rintro _ w2 ⟨rfl, hb⟩
              have HS3 := Lib.hid (HS2.out.below hb)
              have HB3 := Lib.hid (HB2.out.trans (hb.mono HB2.out.size))
              clear hb x1 x2 x3 x4
              obtain ⟨_, x1, x2, x3, x4⟩ := HS3.out.cells k hkl
              rw [← HX.out] at x1 x2 x3 x4
              rw [← HAA.out.1] at x1
              rw [← HAA.out.2.1] at x2
              rw [← HAA.out.2.2.1] at x3
              rw [← HAA.out.2.2.2] at x4
              go_wp2
              go_ret
              exact ⟨ret_bool E.out.symm, HB3.out⟩
            | true =>
              cases s with
              | false =>
                have E := Lib.hid (vR_no (l := l) fun h => by have := (h.2.2.2 k hkl (by omega)).2.2; rw [← HX.out, HWL.out] at this; simp at this)
                go_wp2_with fail
                go_quiet (fail)
                go_wp2_with fail
                refine (K1.out _).mono ?_
                rintro _ w1 ⟨rfl, hb⟩
                have hb1 : RowKit.Below wr.heap.size wr w1 := RowKit.Below.trans (below_drewN (Below.refl _ _) _) hb
                have HS2 := Lib.hid (HS1.out.below hb1)
                have HB2 := Lib.hid (HB.out.trans (hb1.mono HB.out.size))
                clear hb hb1 x0 x1 x2 x3 x4
                obtain ⟨_, x1, x2, x3, x4⟩ := HS2.out.cells k hkl
                rw [← HX.out] at x1 x2 x3 x4
                rw [← HAA.out.1] at x1
                rw [← HAA.out.2.1] at x2
                rw [← HAA.out.2.2.1] at x3
                rw [← HAA.out.2.2.2] at x4
                go_wp2_with fail
                refine (K2.out _).mono ?_
                rintro _ w2 ⟨rfl, hb⟩
                have HS3 := Lib.hid (HS2.out.below hb)
                have HB3 := Lib.hid (HB2.out.trans (hb.mono HB2.out.size))
                clear hb x1 x2 x3 x4
                obtain ⟨_, x1, x2, x3, x4⟩ := HS3.out.cells k hkl
                rw [← HX.out] at x1 x2 x3 x4
                rw [← HAA.out.1] at x1
                rw [← HAA.out.2.1] at x2
                rw [← HAA.out.2.2.1] at x3
                rw [← HAA.out.2.2.2] at x4
                go_wp2
                go_ret
                exact ⟨ret_bool E.out.symm, HB3.out⟩
              | true =>
                by_cases g1 : 100 < a2
                case pos =>
                  have E := Lib.hid (vR_no (l := l) fun h => by have := (h.2.2.2 k hkl (by omega)).2.2; rw [← HX.out, HWL.out] at this; simp at this; omega)
                  go_wp2_with fail
                  go_quiet (fail)
                  go_wp2_with fail
                  refine (K1.out _).mono ?_
                  rintro _ w1 ⟨rfl, hb⟩
                  have hb1 : RowKit.Below wr.heap.size wr w1 := RowKit.Below.trans (below_drewN (Below.refl _ _) _) hb
                  have HS2 := Lib.hid (HS1.out.below hb1)
                  have HB2 := Lib.hid (HB.out.trans (hb1.mono HB.out.size))
                  clear hb hb1 x0 x1 x2 x3 x4
                  obtain ⟨_, x1, x2, x3, x4⟩ := HS2.out.cells k hkl
                  rw [← HX.out] at x1 x2 x3 x4
                  rw [← HAA.out.1] at x1
                  rw [← HAA.out.2.1] at x2
                  rw [← HAA.out.2.2.1] at x3
                  rw [← HAA.out.2.2.2] at x4
                  go_wp2_with fail
                  refine (K2.out _).mono ?_
                  rintro _ w2 ⟨rfl, hb⟩
                  have HS3 := Lib.hid (HS2.out.below hb)
                  have HB3 := Lib.hid (HB2.out.trans (hb.mono HB2.out.size))
                  clear hb x1 x2 x3 x4
                  obtain ⟨_, x1, x2, x3, x4⟩ := HS3.out.cells k hkl
                  rw [← HX.out] at x1 x2 x3 x4
                  rw [← HAA.out.1] at x1
                  rw [← HAA.out.2.1] at x2
                  rw [← HAA.out.2.2.1] at x3
                  rw [← HAA.out.2.2.2] at x4
                  have d1 : decide (100 < a2) = true := decide_eq_true (by omega)
                  go_wp2
                  go_ret
                  exact ⟨ret_bool E.out.symm, HB3.out⟩
                case neg =>
                  by_cases g2 : 100 < a4
                  case pos =>
                    have E := Lib.hid (vR_no (l := l) fun h => by have := (h.2.2.2 k hkl (by omega)).2.2; rw [← HX.out, HWL.out] at this; simp at this; omega)
                    go_wp2_with fail
                    go_quiet (fail)
                    go_wp2_with fail
                    refine (K1.out _).mono ?_
                    rintro _ w1 ⟨rfl, hb⟩
                    have hb1 : RowKit.Below wr.heap.size wr w1 := RowKit.Below.trans (below_drewN (Below.refl _ _) _) hb
                    have HS2 := Lib.hid (HS1.out.below hb1)
                    have HB2 := Lib.hid (HB.out.trans (hb1.mono HB.out.size))
                    clear hb hb1 x0 x1 x2 x3 x4
                    obtain ⟨_, x1, x2, x3, x4⟩ := HS2.out.cells k hkl
                    rw [← HX.out] at x1 x2 x3 x4
                    rw [← HAA.out.1] at x1
                    rw [← HAA.out.2.1] at x2
                    rw [← HAA.out.2.2.1] at x3
                    rw [← HAA.out.2.2.2] at x4
                    go_wp2_with fail
                    refine (K2.out _).mono ?_
                    rintro _ w2 ⟨rfl, hb⟩
                    have HS3 := Lib.hid (HS2.out.below hb)
                    have HB3 := Lib.hid (HB2.out.trans (hb.mono HB2.out.size))
                    clear hb x1 x2 x3 x4
                    obtain ⟨_, x1, x2, x3, x4⟩ := HS3.out.cells k hkl
                    rw [← HX.out] at x1 x2 x3 x4
                    rw [← HAA.out.1] at x1
                    rw [← HAA.out.2.1] at x2
                    rw [← HAA.out.2.2.1] at x3
                    rw [← HAA.out.2.2.2] at x4
                    have d1 : decide (100 < a2) = false := decide_eq_false (by omega)
                    have d2 : decide (100 < a4) = true := decide_eq_true (by omega)
                    go_wp2
                    go_ret
                    exact ⟨ret_bool E.out.symm, HB3.out⟩
                  case neg =>
                    by_cases g3 : 100000 < a3
                    case pos =>
                      have E := Lib.hid (vR_no (l := l) fun h => by have := (h.2.2.2 k hkl (by omega)).2.2; rw [← HX.out, HWL.out] at this; simp at this; omega)
                      go_wp2_with fail
                      go_quiet (fail)
                      go_wp2_with fail
                      refine (K1.out _).mono ?_
                      rintro _ w1 ⟨rfl, hb⟩
                      have hb1 : RowKit.Below wr.heap.size wr w1 := RowKit.Below.trans (below_drewN (Below.refl _ _) _) hb
                      have HS2 := Lib.hid (HS1.out.below hb1)
                      have HB2 := Lib.hid (HB.out.trans (hb1.mono HB.out.size))
                      clear hb hb1 x0 x1 x2 x3 x4
                      obtain ⟨_, x1, x2, x3, x4⟩ := HS2.out.cells k hkl
                      rw [← HX.out] at x1 x2 x3 x4
                      rw [← HAA.out.1] at x1
                      rw [← HAA.out.2.1] at x2
                      rw [← HAA.out.2.2.1] at x3
                      rw [← HAA.out.2.2.2] at x4
                      go_wp2_with fail
                      refine (K2.out _).mono ?_
                      rintro _ w2 ⟨rfl, hb⟩
                      have HS3 := Lib.hid (HS2.out.below hb)
                      have HB3 := Lib.hid (HB2.out.trans (hb.mono HB2.out.size))
                      clear hb x1 x2 x3 x4
                      obtain ⟨_, x1, x2, x3, x4⟩ := HS3.out.cells k hkl
                      rw [← HX.out] at x1 x2 x3 x4
                      rw [← HAA.out.1] at x1
                      rw [← HAA.out.2.1] at x2
                      rw [← HAA.out.2.2.1] at x3
                      rw [← HAA.out.2.2.2] at x4
                      have d1 : decide (100 < a2) = false := decide_eq_false (by omega)
                      have d2 : decide (100 < a4) = false := decide_eq_false (by omega)
                      have d3 : decide (100000 < a3) = true := decide_eq_true (by omega)
                      go_wp2
                      go_ret
                      exact ⟨ret_bool E.out.symm, HB3.out⟩
                    case neg =>
                      by_cases g4 : a3 < -100000
                      case pos =>
                        have E := Lib.hid (vR_no (l := l) fun h => by have := (h.2.2.2 k hkl (by omega)).2.2; rw [← HX.out, HWL.out] at this; simp at this; omega)
                        go_wp2_with fail
                        go_quiet (fail)
                        go_wp2_with fail
                        refine (K1.out _).mono ?_
                        rintro _ w1 ⟨rfl, hb⟩
                        have hb1 : RowKit.Below wr.heap.size wr w1 := RowKit.Below.trans (below_drewN (Below.refl _ _) _) hb
                        have HS2 := Lib.hid (HS1.out.below hb1)
                        have HB2 := Lib.hid (HB.out.trans (hb1.mono HB.out.size))
                        clear hb hb1 x0 x1 x2 x3 x4
                        obtain ⟨_, x1, x2, x3, x4⟩ := HS2.out.cells k hkl
                        rw [← HX.out] at x1 x2 x3 x4
                        rw [← HAA.out.1] at x1
                        rw [← HAA.out.2.1] at x2
                        rw [← HAA.out.2.2.1] at x3
                        rw [← HAA.out.2.2.2] at x4
                        go_wp2_with fail
                        refine (K2.out _).mono ?_
                        rintro _ w2 ⟨rfl, hb⟩
                        have HS3 := Lib.hid (HS2.out.below hb)
                        have HB3 := Lib.hid (HB2.out.trans (hb.mono HB2.out.size))
                        clear hb x1 x2 x3 x4
                        obtain ⟨_, x1, x2, x3, x4⟩ := HS3.out.cells k hkl
                        rw [← HX.out] at x1 x2 x3 x4
                        rw [← HAA.out.1] at x1
                        rw [← HAA.out.2.1] at x2
                        rw [← HAA.out.2.2.1] at x3
                        rw [← HAA.out.2.2.2] at x4
                        have d1 : decide (100 < a2) = false := decide_eq_false (by omega)
                        have d2 : decide (100 < a4) = false := decide_eq_false (by omega)
                        have d3 : decide (100000 < a3) = false := decide_eq_false (by omega)
                        have d4 : decide (a3 < -100000) = true := decide_eq_true (by omega)
                        go_wp2
                        go_ret
                        exact ⟨ret_bool E.out.symm, HB3.out⟩
                      case neg =>
                        have HU2 := Lib.hid (HU.out.succ hkl (fun h0 => by omega) (by rw [← HX.out, ← HA.out]; omega) (by rw [← HX.out, HWL.out]; simp; omega))
                        go_wp2_with fail
                        go_quiet (fail)
                        go_wp2_with fail
                        refine (K1.out _).mono ?_
                        rintro _ w1 ⟨rfl, hb⟩
                        have hb1 : RowKit.Below wr.heap.size wr w1 := RowKit.Below.trans (below_drewN (Below.refl _ _) _) hb
                        have HS2 := Lib.hid (HS1.out.below hb1)
                        have HB2 := Lib.hid (HB.out.trans (hb1.mono HB.out.size))
                        clear hb hb1 x0 x1 x2 x3 x4
                        obtain ⟨_, x1, x2, x3, x4⟩ := HS2.out.cells k hkl
                        rw [← HX.out] at x1 x2 x3 x4
                        rw [← HAA.out.1] at x1
                        rw [← HAA.out.2.1] at x2
                        rw [← HAA.out.2.2.1] at x3
                        rw [← HAA.out.2.2.2] at x4
                        go_wp2_with fail
                        refine (K2.out _).mono ?_
                        rintro _ w2 ⟨rfl, hb⟩
                        have HS3 := Lib.hid (HS2.out.below hb)
                        have HB3 := Lib.hid (HB2.out.trans (hb.mono HB2.out.size))
                        clear hb x1 x2 x3 x4
                        obtain ⟨_, x1, x2, x3, x4⟩ := HS3.out.cells k hkl
                        rw [← HX.out] at x1 x2 x3 x4
                        rw [← HAA.out.1] at x1
                        rw [← HAA.out.2.1] at x2
                        rw [← HAA.out.2.2.1] at x3
                        rw [← HAA.out.2.2.2] at x4
                        have d1 : decide (100 < a2) = false := decide_eq_false (by omega)
                        have d2 : decide (100 < a4) = false := decide_eq_false (by omega)
                        have d3 : decide (100000 < a3) = false := decide_eq_false (by omega)
                        have d4 : decide (a3 < -100000) = false := decide_eq_false (by omega)
                        go_wp2
                        go_roundg (len - (k + 1))
                        case measure => omega
                        case rel => exact ⟨k + 1, by go_num, by omega, by omega, HB3.out, HU2.out⟩
        case pos =>
          have hk0z : (0 : Int) < (k : Int) := by omega
          have hk1 : k - 1 < l.length := by omega
          have y0 := (HS1.out.cells (k - 1) hk1).1
          obtain ⟨y, hy⟩ : ∃ y, y = l[k - 1].f := ⟨_, rfl⟩
          rw [← hy] at y0
          have HY := Lib.hid hy
          clear hy
          by_cases hle : a0 ≤ y
          case pos =>
            have E := Lib.hid (vR_no (l := l) fun h => by have := (h.2.2.2 k hkl (by omega)).1 (by omega); rw [← HX.out, ← HA.out, ← HY.out] at this; omega)
            go_wp2_with fail
            go_quiet (fail)
            go_wp2
            go_ret
            exact ⟨ret_bool E.out.symm, below_drewN HB.out _⟩
          case neg =>
            have hlz : decide (a0 ≤ y) = false := decide_eq_false hle
            by_cases hbig : 100000 < a0
            case pos =>
              have E := Lib.hid (vR_no (l := l) fun h => by have := (h.2.2.2 k hkl (by omega)).2.1; rw [← HX.out, ← HA.out] at this; omega)
              go_wp2_with fail
              go_quiet (fail)
              go_wp2
              go_ret
              exact ⟨ret_bool E.out.symm, below_drewN HB.out _⟩
            case neg =>
              have hbz : decide (100000 < a0) = false := decide_eq_false hbig
              cases v with
              | false =>
                have E := Lib.hid (vR_no (l := l) fun h => by have := (h.2.2.2 k hkl (by omega)).2.2; rw [← HX.out, HWL.out] at this; simp at this)
                go_wp2_with fail
                go_quiet (fail)
                go_wp2_with fail
                refine (K1.out _).mono ?_
                rintro _ w1 ⟨rfl, hb⟩
                have hb1 : RowKit.Below wr.heap.size wr w1 := RowKit.Below.trans (below_drewN (Below.refl _ _) _) hb
                have HS2 := Lib.hid (HS1.out.below hb1)
                have HB2 := Lib.hid (HB.out.trans (hb1.mono HB.out.size))
                clear hb hb1 x0 x1 x2 x3 x4 y0
                obtain ⟨_, x1, x2, x3, x4⟩ := HS2.out.cells k hkl
                rw [← HX.out] at x1 x2 x3 x4
                rw [← HAA.out.1] at x1
                rw [← HAA.out.2.1] at x2
                rw [← HAA.out.2.2.1] at x3
                rw [← HAA.out.2.2.2] at x4
                go_wp2_with fail
                refine (K2.out _).mono ?_
                rintro _ w2 ⟨rfl, hb⟩
                have HS3 := Lib.hid (HS2.out.below hb)
                have HB3 := Lib.hid (HB2.out.trans (hb.mono HB2.out.size))
                clear hb x1 x2 x3 x4
                obtain ⟨_, x1, x2, x3, x4⟩ := HS3.out.cells k hkl
                rw [← HX.out] at x1 x2 x3 x4
                rw [← HAA.out.1] at x1
                rw [← HAA.out.2.1] at x2
                rw [← HAA.out.2.2.1] at x3
                rw [← HAA.out.2.2.2] at x4
                go_wp2
                go_ret
                exact ⟨ret_bool E.out.symm, HB3.out⟩
              | true =>
                cases s with
                | false =>
                  have E := Lib.hid (vR_no (l := l) fun h => by have := (h.2.2.2 k hkl (by omega)).2.2; rw [← HX.out, HWL.out] at this; simp at this)
                  go_wp2_with fail
                  go_quiet (fail)
                  go_wp2_with fail
                  refine (K1.out _).mono ?_
                  rintro _ w1 ⟨rfl, hb⟩
                  have hb1 : RowKit.Below wr.heap.size wr w1 := RowKit.Below.trans (below_drewN (Below.refl _ _) _) hb
                  have HS2 := Lib.hid (HS1.out.below hb1)
                  have HB2 := Lib.hid (HB.out.trans (hb1.mono HB.out.size))
                  clear hb hb1 x0 x1 x2 x3 x4 y0
                  obtain ⟨_, x1, x2, x3, x4⟩ := HS2.out.cells k hkl
                  rw [← HX.out] at x1 x2 x3 x4
                  rw [← HAA.out.1] at x1
                  rw [← HAA.out.2.1] at x2
                  rw [← HAA.out.2.2.1] at x3
                  rw [← HAA.out.2.2.2] at x4
                  go_wp2_with fail
                  refine (K2.out _).mono ?_
                  rintro _ w2 ⟨rfl, hb⟩
                  have HS3 := Lib.hid (HS2.out.below hb)
                  have HB3 := Lib.hid (HB2.out.trans (hb.mono HB2.out.size))
                  clear hb x1 x2 x3 x4
                  obtain ⟨_, x1, x2, x3, x4⟩ := HS3.out.cells k hkl
                  rw [← HX.out] at x1 x2 x3 x4
                  rw [← HAA.out.1] at x1
                  rw [← HAA.out.2.1] at x2
                  rw [← HAA.out.2.2.1] at x3
                  rw [← HAA.out.2.2.2] at x4
                  go_wp2
                  go_ret
                  exact ⟨ret_bool E.out.symm, HB3.out⟩
                | true =>
                  by_cases g1 : 100 < a2
                  case pos =>
                    have E := Lib.hid (vR_no (l := l) fun h => by have := (h.2.2.2 k hkl (by omega)).2.2; rw [← HX.out, HWL.out] at this; simp at this; omega)
                    go_wp2_with fail
                    go_quiet (fail)
                    go_wp2_with fail
                    refine (K1.out _).mono ?_
                    rintro _ w1 ⟨rfl, hb⟩
                    have hb1 : RowKit.Below wr.heap.size wr w1 := RowKit.Below.trans (below_drewN (Below.refl _ _) _) hb
                    have HS2 := Lib.hid (HS1.out.below hb1)
                    have HB2 := Lib.hid (HB.out.trans (hb1.mono HB.out.size))
                    clear hb hb1 x0 x1 x2 x3 x4 y0
                    obtain ⟨_, x1, x2, x3, x4⟩ := HS2.out.cells k hkl
                    rw [← HX.out] at x1 x2 x3 x4
                    rw [← HAA.out.1] at x1
                    rw [← HAA.out.2.1] at x2
                    rw [← HAA.out.2.2.1] at x3
                    rw [← HAA.out.2.2.2] at x4
                    go_wp2_with fail
                    refine (K2.out _).mono ?_
                    rintro _ w2 ⟨rfl, hb⟩
                    have HS3 := Lib.hid (HS2.out.below hb)
                    have HB3 := Lib.hid (HB2.out.trans (hb.mono HB2.out.size))
                    clear hb x1 x2 x3 x4
                    obtain ⟨_, x1, x2, x3, x4⟩ := HS3.out.cells k hkl
                    rw [← HX.out] at x1 x2 x3 x4
                    rw [← HAA.out.1] at x1
                    rw [← HAA.out.2.1] at x2
                    rw [← HAA.out.2.2.1] at x3
                    rw [← HAA.out.2.2.2] at x4
                    have d1 : decide (100 < a2) = true := decide_eq_true (by omega)
                    go_wp2
                    go_ret
                    exact ⟨ret_bool E.out.symm, HB3.out⟩
                  case neg =>
                    by_cases g2 : 100 < a4
                    case pos =>
                      have E := Lib.hid (vR_no (l := l) fun h => by have := (h.2.2.2 k hkl (by omega)).2.2; rw [← HX.out, HWL.out] at this; simp at this; omega)
                      go_wp2_with fail
                      go_quiet (fail)
                      go_wp2_with fail
                      refine (K1.out _).mono ?_
                      rintro _ w1 ⟨rfl, hb⟩
                      have hb1 : RowKit.Below wr.heap.size wr w1 := RowKit.Below.trans (below_drewN (Below.refl _ _) _) hb
                      have HS2 := Lib.hid (HS1.out.below hb1)
                      have HB2 := Lib.hid (HB.out.trans (hb1.mono HB.out.size))
                      clear hb hb1 x0 x1 x2 x3 x4 y0
                      obtain ⟨_, x1, x2, x3, x4⟩ := HS2.out.cells k hkl
                      rw [← HX.out] at x1 x2 x3 x4
                      rw [← HAA.out.1] at x1
                      rw [← HAA.out.2.1] at x2
                      rw [← HAA.out.2.2.1] at x3
                      rw [← HAA.out.2.2.2] at x4
                      go_wp2_with fail
                      refine (K2.out _).mono ?_
                      rintro _ w2 ⟨rfl, hb⟩
                      have HS3 := Lib.hid (HS2.out.below hb)
                      have HB3 := Lib.hid (HB2.out.trans (hb.mono HB2.out.size))
                      clear hb x1 x2 x3 x4
                      obtain ⟨_, x1, x2, x3, x4⟩ := HS3.out.cells k hkl
                      rw [← HX.out] at x1 x2 x3 x4
                      rw [← HAA.out.1] at x1
                      rw [← HAA.out.2.1] at x2
                      rw [← HAA.out.2.2.1] at x3
                      rw [← HAA.out.2.2.2] at x4
                      have d1 : decide (100 < a2) = false := decide_eq_false (by omega)
                      have d2 : decide (100 < a4) = true := decide_eq_true (by omega)
                      go_wp2
                      go_ret
                      exact ⟨ret_bool E.out.symm, HB3.out⟩
                    case neg =>
                      by_cases g3 : 100000 < a3
                      case pos =>
                        have E := Lib.hid (vR_no (l := l) fun h => by have := (h.2.2.2 k hkl (by omega)).2.2; rw [← HX.out, HWL.out] at this; simp at this; omega)
                        go_wp2_with fail
                        go_quiet (fail)
                        go_wp2_with fail
                        refine (K1.out _).mono ?_
                        rintro _ w1 ⟨rfl, hb⟩
                        have hb1 : RowKit.Below wr.heap.size wr w1 := RowKit.Below.trans (below_drewN (Below.refl _ _) _) hb
                        have HS2 := Lib.hid (HS1.out.below hb1)
                        have HB2 := Lib.hid (HB.out.trans (hb1.mono HB.out.size))
                        clear hb hb1 x0 x1 x2 x3 x4 y0
                        obtain ⟨_, x1, x2, x3, x4⟩ := HS2.out.cells k hkl
                        rw [← HX.out] at x1 x2 x3 x4
                        rw [← HAA.out.1] at x1
                        rw [← HAA.out.2.1] at x2
                        rw [← HAA.out.2.2.1] at x3
                        rw [← HAA.out.2.2.2] at x4
                        go_wp2_with fail
                        refine (K2.out _).mono ?_
                        rintro _ w2 ⟨rfl, hb⟩
                        have HS3 := Lib.hid (HS2.out.below hb)
                        have HB3 := Lib.hid (HB2.out.trans (hb.mono HB2.out.size))
                        clear hb x1 x2 x3 x4
                        obtain ⟨_, x1, x2, x3, x4⟩ := HS3.out.cells k hkl
                        rw [← HX.out] at x1 x2 x3 x4
                        rw [← HAA.out.1] at x1
                        rw [← HAA.out.2.1] at x2
                        rw [← HAA.out.2.2.1] at x3
                        rw [← HAA.out.2.2.2] at x4
                        have d1 : decide (100 < a2) = false := decide_eq_false (by omega)
                        have d2 : decide (100 < a4) = false := decide_eq_false (by omega)
                        have d3 : decide (100000 < a3) = true := decide_eq_true (by omega)
                        go_wp2
                        go_ret
                        exact ⟨ret_bool E.out.symm, HB3.out⟩
                      case neg =>
                        by_cases g4 : a3 < -100000
                        case pos =>
                          have E := Lib.hid (vR_no (l := l) fun h => by have := (h.2.2.2 k hkl (by omega)).2.2; rw [← HX.out, HWL.out] at this; simp at this; omega)
                          go_wp2_with fail
                          go_quiet (fail)
                          go_wp2_with fail
                          refine (K1.out _).mono ?_
                          rintro _ w1 ⟨rfl, hb⟩
                          have hb1 : RowKit.Below wr.heap.size wr w1 := RowKit.Below.trans (below_drewN (Below.refl _ _) _) hb
                          have HS2 := Lib.hid (HS1.out.below hb1)
                          have HB2 := Lib.hid (HB.out.trans (hb1.mono HB.out.size))
                          clear hb hb1 x0 x1 x2 x3 x4 y0
                          obtain ⟨_, x1, x2, x3, x4⟩ := HS2.out.cells k hkl
                          rw [← HX.out] at x1 x2 x3 x4
                          rw [← HAA.out.1] at x1
                          rw [← HAA.out.2.1] at x2
                          rw [← HAA.out.2.2.1] at x3
                          rw [← HAA.out.2.2.2] at x4
                          go_wp2_with fail
                          refine (K2.out _).mono ?_
                          rintro _ w2 ⟨rfl, hb⟩
                          have HS3 := Lib.hid (HS2.out.below hb)
                          have HB3 := Lib.hid (HB2.out.trans (hb.mono HB2.out.size))
                          clear hb x1 x2 x3 x4
                          obtain ⟨_, x1, x2, x3, x4⟩ := HS3.out.cells k hkl
                          rw [← HX.out] at x1 x2 x3 x4
                          rw [← HAA.out.1] at x1
                          rw [← HAA.out.2.1] at x2
                          rw [← HAA.out.2.2.1] at x3
                          rw [← HAA.out.2.2.2] at x4
                          have d1 : decide (100 < a2) = false := decide_eq_false (by omega)
                          have d2 : decide (100 < a4) = false := decide_eq_false (by omega)
                          have d3 : decide (100000 < a3) = false := decide_eq_false (by omega)
                          have d4 : decide (a3 < -100000) = true := decide_eq_true (by omega)
                          go_wp2
                          go_ret
                          exact ⟨ret_bool E.out.symm, HB3.out⟩
                        case neg =>
                          have HU2 := Lib.hid (HU.out.succ hkl (fun h0 => by rw [← HX.out, ← HA.out, ← HY.out]; omega) (by rw [← HX.out, ← HA.out]; omega) (by rw [← HX.out, HWL.out]; simp; omega))
                          go_wp2_with fail
                          go_quiet (fail)
                          go_wp2_with fail
                          refine (K1.out _).mono ?_
                          rintro _ w1 ⟨rfl, hb⟩
                          have hb1 : RowKit.Below wr.heap.size wr w1 := RowKit.Below.trans (below_drewN (Below.refl _ _) _) hb
                          have HS2 := Lib.hid (HS1.out.below hb1)
                          have HB2 := Lib.hid (HB.out.trans (hb1.mono HB.out.size))
                          clear hb hb1 x0 x1 x2 x3 x4 y0
                          obtain ⟨_, x1, x2, x3, x4⟩ := HS2.out.cells k hkl
                          rw [← HX.out] at x1 x2 x3 x4
                          rw [← HAA.out.1] at x1
                          rw [← HAA.out.2.1] at x2
                          rw [← HAA.out.2.2.1] at x3
                          rw [← HAA.out.2.2.2] at x4
                          go_wp2_with fail
                          refine (K2.out _).mono ?_
                          rintro _ w2 ⟨rfl, hb⟩
                          have HS3 := Lib.hid (HS2.out.below hb)
                          have HB3 := Lib.hid (HB2.out.trans (hb.mono HB2.out.size))
                          clear hb x1 x2 x3 x4
                          obtain ⟨_, x1, x2, x3, x4⟩ := HS3.out.cells k hkl
                          rw [← HX.out] at x1 x2 x3 x4
                          rw [← HAA.out.1] at x1
                          rw [← HAA.out.2.1] at x2
                          rw [← HAA.out.2.2.1] at x3
                          rw [← HAA.out.2.2.2] at x4
                          have d1 : decide (100 < a2) = false := decide_eq_false (by omega)
                          have d2 : decide (100 < a4) = false := decide_eq_false (by omega)
                          have d3 : decide (100000 < a3) = false := decide_eq_false (by omega)
                          have d4 : decide (a3 < -100000) = false := decide_eq_false (by omega)
                          go_wp2
                          go_roundg (len - (k + 1))
                          case measure => omega
                          case rel => exact ⟨k + 1, by go_num, by omega, by omega, HB3.out, HU2.out⟩
end Go.Proofs.Ytmjdolgcgbiajaa
