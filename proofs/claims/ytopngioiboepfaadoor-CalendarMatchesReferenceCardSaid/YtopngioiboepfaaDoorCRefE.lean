/-
  Contracts of the reference's Day, Weekday, Month, Days: each the same value as the program's.
-/
import Derived.Test.YtopngioiboepfaaDoorCRefD
namespace Go.Proofs.YtopngioiboepfaaDoor
open Go.RowKit Cal

set_option maxHeartbeats 4000000 in
set_option maxRecDepth 100000 in
theorem rDay_any (y m t : Int) (w : World) : Calls Tryd.prog 16 #[.int .i64 y, .int .i64 m, .int .i64 t] w fun e w' => e = .returned (.tuple #[.int .i64 (dyV y m t), .int .i64 (dyE y m t)]) ∧ w = w' := by
  by_cases h1 : 2000 ≤ y
  · by_cases h2 : y ≤ 2099
    · by_cases h3 : 1 ≤ m
      · by_cases h4 : m ≤ 12
        · by_cases h5 : 1 ≤ t
          · obtain ⟨n, hn⟩ : ∃ n, n = (y - 2000) * 12 + m - 1 := ⟨_, rfl⟩
            have n0 : 0 ≤ n := by omega
            have n1 : n ≤ 1199 := by omega
            obtain ⟨x, hx⟩ : ∃ x, x = ML n := ⟨_, rfl⟩
            have hb := ML_bd n
            have k1 : ∀ w : World, Calls Tryd.prog 32 #[.int .i64 y, .int .i64 m] w fun e w' => e = .returned (.int .i64 x) ∧ w = w' := fun w => by rw [hx, hn]; exact rlength_any y m w h1 (by omega) h3 h4
            have K1 := Lib.hid k1
            rw [← hx] at hb
            by_cases h6 : t ≤ x
            · have E : Hid (MS n + t - 1 = dyV y m t ∧ 0 = dyE y m t) := by
                have e : isT y m t = true := (isT_iff _ _ _).2 ⟨h1, h2, h3, h4, h5, by rw [← hn, ← hx]; exact h6⟩
                show _ ∧ _
                unfold dyV dyE
                rw [e, ← hn]; simp
              have HN := Lib.hid hn
              clear k1 hx hn
              go_enter Tryd.func16, Tryd.ntmps16
              go_wp2_with ((with_reducible refine (K1.out _).mono ?_); rintro e w' ⟨rfl, rfl⟩)
              go_loop [8, 9] (fun a b => ∃ s i : Int, a = .int .i64 s ∧ b = .int .i64 i ∧ 2000 ≤ i ∧ i ≤ y ∧ 0 ≤ s ∧ s ≤ 40000 ∧ Hid (s = MS (12 * (i - 2000)) + t - 1)) (fun _ b => (y - intOf b).toNat)
              case atStart => exact ⟨t - 1, 2000, rfl, rfl, by omega, by omega, by omega, by omega, (show t - 1 = MS 0 + t - 1 by rw [MS_zero]; omega)⟩
              case round =>
                obtain ⟨s, i, rfl, rfl, i0, i1, s0, s1, HS⟩ := hrel
                by_cases hlt : i < y
                · obtain ⟨z, hz⟩ : ∃ z, z = MS (12 * (i - 2000 + 1)) - MS (12 * (i - 2000)) := ⟨_, rfl⟩
                  have kl : ∀ w : World, Calls Tryd.prog 31 #[.int .i64 i] w fun e w' => e = .returned (.int .i64 z) ∧ w = w' := fun w => by rw [hz]; exact leap_any i w i0 (by omega)
                  have KL := Lib.hid kl
                  have hs := HS.out
                  have l1 := MS_le (show 12 * (i - 2000 + 1) ≤ 1200 by omega)
                  have l2 := MS_mono (show 12 * (i - 2000) ≤ 12 * (i - 2000 + 1) by omega)
                  have l3 := MS_nonneg (12 * (i - 2000))
                  have HNX : Hid (s + z = MS (12 * (i + 1 - 2000)) + t - 1) := by
                    show _ = _
                    rw [show i + 1 - 2000 = i - 2000 + 1 by omega]; omega
                  have z1 : s + z ≤ 40000 := by omega
                  have z0 : 0 ≤ z := by omega
                  have z2 : z ≤ 36525 := by omega
                  clear kl hz hs l1 l2 l3
                  go_wp2_with ((with_reducible refine (KL.out _).mono ?_); rintro e w' ⟨rfl, rfl⟩)
                  go_round
                  case rel => exact ⟨s + z, i + 1, rfl, rfl, by omega, by omega, by omega, by omega, HNX⟩
                  case measure => simp [intOf]; omega
                · have hiy : i = y := by omega
                  have HS2 : Hid (s = MS ((y - 2000) * 12 + 1 - 1) + t - 1) := by
                    have a := HS.out
                    show _ = _
                    rw [show (y - 2000) * 12 + 1 - 1 = 12 * (i - 2000) by omega]; exact a
                  clear hiy
                  go_wp2
                  go_loop [8, 10] (fun a b => ∃ s i : Int, a = .int .i64 s ∧ b = .int .i64 i ∧ 1 ≤ i ∧ i ≤ m ∧ 0 ≤ s ∧ s ≤ 40000 ∧ Hid (s = MS ((y - 2000) * 12 + i - 1) + t - 1)) (fun _ b => (m - intOf b).toNat)
                  case atStart => exact ⟨s, 1, rfl, rfl, by omega, by omega, s0, s1, HS2⟩
                  case round =>
                    obtain ⟨s, i, rfl, rfl, i0, i1, s0, s1, HS⟩ := hrel
                    by_cases hlt : i < m
                    · obtain ⟨c, hc⟩ : ∃ c, c = (y - 2000) * 12 + i - 1 := ⟨_, rfl⟩
                      obtain ⟨z, hz⟩ : ∃ z, z = ML c := ⟨_, rfl⟩
                      have kl : ∀ w : World, Calls Tryd.prog 32 #[.int .i64 y, .int .i64 i] w fun e w' => e = .returned (.int .i64 z) ∧ w = w' := fun w => by rw [hz, hc]; exact rlength_any y i w h1 (by omega) i0 (by omega)
                      have KL := Lib.hid kl
                      have hs := HS.out
                      have l0 := MS_succ (show 0 ≤ c by omega)
                      have l1 := MS_le (show c + 1 ≤ 1200 by omega)
                      have l3 := MS_nonneg c
                      have l4 := ML_bd c
                      rw [← hz] at l0 l4
                      rw [← hc] at hs
                      have HNX : Hid (s + z = MS ((y - 2000) * 12 + (i + 1) - 1) + t - 1) := by
                        show _ = _
                        rw [show (y - 2000) * 12 + (i + 1) - 1 = c + 1 by omega]; omega
                      have z1 : s + z ≤ 40000 := by omega
                      clear kl hz hs l0 l1 l3 hc
                      go_wp2_with ((with_reducible refine (KL.out _).mono ?_); rintro e w' ⟨rfl, rfl⟩)
                      go_round
                      case rel => exact ⟨s + z, i + 1, rfl, rfl, by omega, by omega, by omega, by omega, HNX⟩
                      case measure => simp [intOf]; omega
                    · have him : i = m := by omega
                      have E2 : Hid (s = dyV y m t) := by
                        have a := HS.out
                        have b := E.out.1
                        rw [HN.out] at b
                        rw [him] at a
                        show _ = _
                        omega
                      clear him
                      go_wp2
                      go_ret2
                      exact ⟨ret_2 E2.out E.out.2, rfl⟩
            · have E := Lib.hid (dy_bad (y := y) (m := m) (t := t) (by rw [← hn, ← hx]; omega))
              clear k1 hx hn
              go_enter Tryd.func16, Tryd.ntmps16
              go_wp2_with ((with_reducible refine (K1.out _).mono ?_); rintro e w' ⟨rfl, rfl⟩)
              go_ret2
              exact ⟨ret_2 E.out.1 E.out.2, rfl⟩
          · have E := Lib.hid (dy_bad (y := y) (m := m) (t := t) (by omega))
            go_enter Tryd.func16, Tryd.ntmps16
            go_wp2_with fail
            go_ret2
            exact ⟨ret_2 E.out.1 E.out.2, rfl⟩
        · have E := Lib.hid (dy_bad (y := y) (m := m) (t := t) (by omega))
          go_enter Tryd.func16, Tryd.ntmps16
          go_wp2_with fail
          go_ret2
          exact ⟨ret_2 E.out.1 E.out.2, rfl⟩
      · have E := Lib.hid (dy_bad (y := y) (m := m) (t := t) (by omega))
        go_enter Tryd.func16, Tryd.ntmps16
        go_wp2_with fail
        go_ret2
        exact ⟨ret_2 E.out.1 E.out.2, rfl⟩
    · have E := Lib.hid (dy_bad (y := y) (m := m) (t := t) (by omega))
      go_enter Tryd.func16, Tryd.ntmps16
      go_wp2_with fail
      go_ret2
      exact ⟨ret_2 E.out.1 E.out.2, rfl⟩
  · have E := Lib.hid (dy_bad (y := y) (m := m) (t := t) (by omega))
    go_enter Tryd.func16, Tryd.ntmps16
    go_wp2_with fail
    go_ret2
    exact ⟨ret_2 E.out.1 E.out.2, rfl⟩

set_option maxHeartbeats 1000000 in
theorem rWeekday_any (d : Int) (w : World) : Calls Tryd.prog 18 #[.int .i64 d] w fun e w' => e = .returned (.tuple #[.int .i64 (wdV d), .int .i64 (dtE d)]) ∧ w = w' := by
  cases h : isD d with
  | false =>
    have k : ∀ w : World, Calls Tryd.prog 30 #[.int .i64 d] w fun e w' => e = .returned (.bool false) ∧ w = w' := fun w => by rw [← h]; exact rIn_any d w
    have K := Lib.hid k
    have E : Hid (wdV d = 0 ∧ dtE d = 3) := by show _ ∧ _; unfold wdV dtE; rw [h]; simp
    clear k h
    go_enter Tryd.func18, Tryd.ntmps18
    go_wp2_with ((with_reducible refine (K.out _).mono ?_); rintro e w' ⟨rfl, rfl⟩)
    go_ret2
    exact ⟨ret_2 E.out.1.symm E.out.2.symm, rfl⟩
  | true =>
    have k : ∀ w : World, Calls Tryd.prog 30 #[.int .i64 d] w fun e w' => e = .returned (.bool true) ∧ w = w' := fun w => by rw [← h]; exact rIn_any d w
    have K := Lib.hid k
    obtain ⟨d0, d1⟩ := (isD_iff d).1 h
    have E : Hid (wdV d = (d + 5) % 7 ∧ dtE d = 0) := by show _ ∧ _; unfold wdV dtE; rw [h]; simp
    clear k h
    go_enter Tryd.func18, Tryd.ntmps18
    go_wp2_with ((with_reducible refine (K.out _).mono ?_); rintro e w' ⟨rfl, rfl⟩)
    go_ret2
    exact ⟨ret_2 E.out.1.symm E.out.2.symm, rfl⟩

set_option maxHeartbeats 1000000 in
theorem rMonth_any (d : Int) (w : World) : Calls Tryd.prog 20 #[.int .i64 d] w fun e w' => e = .returned (.tuple #[.int .i64 (moV d), .int .i64 (dtE d)]) ∧ w = w' := by
  by_cases h : 0 ≤ d ∧ d ≤ 36524
  · obtain ⟨n, hn, n0, n1, a1, a2, a3, a4, a5, a6⟩ := date_ok h.1 h.2
    have k := rDate_any d w
    rw [a1, a2, a4] at k
    have em : moV d = n := by unfold moV; rw [if_pos ((isD_iff d).2 h)]; exact hn.symm
    rw [em, a4]
    obtain ⟨y, hy⟩ : ∃ y, y = 2000 + n / 12 := ⟨_, rfl⟩
    obtain ⟨m, hm⟩ : ∃ m, m = n % 12 + 1 := ⟨_, rfl⟩
    rw [← hy, ← hm] at k
    have y0 : 2000 ≤ y := by omega
    have y1 : y ≤ 2099 := by omega
    have m0 : 1 ≤ m := by omega
    have m1 : m ≤ 12 := by omega
    have E : Hid (12 * (y - 2000) + m - 1 = n) := by show _ = _; omega
    generalize dtT d = t at k
    have K := Lib.hid k
    clear k hn a1 a2 a3 a4 a5 a6 em hy hm h
    go_enter Tryd.func20, Tryd.ntmps20
    go_wp2_with ((with_reducible refine (K.out).mono ?_); rintro e w' ⟨rfl, rfl⟩)
    go_ret2
    exact ⟨ret_2 E.out rfl, rfl⟩
  · obtain ⟨e1, e2, e3, e4, _, e6⟩ := date_no h
    have k := rDate_any d w
    rw [e1, e2, e3, e4] at k
    rw [e6, e4]
    have K := Lib.hid k
    clear k e1 e2 e3 e4 e6 h
    go_enter Tryd.func20, Tryd.ntmps20
    go_wp2_with ((with_reducible refine (K.out).mono ?_); rintro e w' ⟨rfl, rfl⟩)
    go_ret2
    exact ⟨rfl, rfl⟩

set_option maxHeartbeats 2000000 in
theorem rDays_any (m : Int) (w : World) : Calls Tryd.prog 22 #[.int .i64 m] w fun e w' => e = .returned (.tuple #[.agg #[.int .i64 (dsF m), .int .i64 (dsU m)], .int .i64 (dsE m)]) ∧ Below w.heap.size w w' := by
  by_cases h1 : 0 ≤ m
  · by_cases h2 : m ≤ 1199
    · obtain ⟨x, hx⟩ : ∃ x, x = ML m := ⟨_, rfl⟩
      obtain ⟨s, hs⟩ : ∃ s, s = MS m := ⟨_, rfl⟩
      have hb := ML_bd m
      have s0 := MS_nonneg m
      have s1 := MS_le (show m ≤ 1200 by omega)
      obtain ⟨y, hy⟩ : ∃ y, 2000 + m / 12 = y := ⟨_, rfl⟩
      obtain ⟨n, hn⟩ : ∃ n, m % 12 + 1 = n := ⟨_, rfl⟩
      have em : (y - 2000) * 12 + n - 1 = m := by omega
      have k1 : ∀ w : World, Calls Tryd.prog 32 #[.int .i64 y, .int .i64 n] w fun e w' => e = .returned (.int .i64 x) ∧ w = w' := fun w => by
        have k := rlength_any y n w (by omega) (by omega) (by omega) (by omega)
        rw [em, ← hx] at k
        exact k
      have k2 : ∀ w : World, Calls Tryd.prog 16 #[.int .i64 y, .int .i64 n, .int .i64 1] w fun e w' => e = .returned (.tuple #[.int .i64 s, .int .i64 0]) ∧ w = w' := fun w => by
        have k := rDay_any y n 1 w
        have e : isT y n 1 = true := (isT_iff _ _ _).2 ⟨by omega, by omega, by omega, by omega, by omega, by rw [em]; omega⟩
        have e1 : dyV y n 1 = s := by unfold dyV; rw [if_pos e, em, ← hs]; omega
        have e2 : dyE y n 1 = 0 := by unfold dyE; rw [if_pos e]
        rw [e1, e2] at k
        exact k
      have K1 := Lib.hid k1
      have K2 := Lib.hid k2
      have E : dsF m = s ∧ dsU m = s + x ∧ dsE m = 0 := by
        have e : isM m = true := (isM_iff m).2 ⟨h1, h2⟩
        unfold dsF dsU dsE
        rw [e, ← hs, ← hx]; simp
      rw [E.1, E.2.1, E.2.2]
      rw [← hx] at hb
      rw [← hs] at s0 s1
      clear k1 k2 hx hs E em
      go_enter Tryd.func22, Tryd.ntmps22
      go_wp2_with (first | ((with_reducible refine (K1.out _).mono ?_); rintro e w' ⟨rfl, rfl⟩) | ((with_reducible refine (K2.out _).mono ?_); rintro e w' ⟨rfl, rfl⟩))
      exact bodyPost_ret (v := .tuple #[.agg #[.int .i64 s, .int .i64 (s + x)], .int .i64 0]) (by simp [results, Tryd.results22, go_sem]) rfl ⟨rfl, (by repeat' (first | exact Below.refl _ _ | refine Below.setCell ?_ (by first | omega | (simp; done) | (simp; omega)) _ | refine Below.alloc ?_ (by first | omega | (simp; done) | (simp; omega)) _))⟩
    · obtain ⟨e1, e2, e3⟩ := ds_bad (m := m) (by omega)
      rw [e1, e2, e3]
      clear e1 e2 e3
      go_enter Tryd.func22, Tryd.ntmps22
      go_wp2_with fail
      exact bodyPost_ret (v := .tuple #[.agg #[.int .i64 0, .int .i64 0], .int .i64 3]) (by simp [results, Tryd.results22, go_sem]) rfl ⟨rfl, (by repeat' (first | exact Below.refl _ _ | refine Below.setCell ?_ (by first | omega | (simp; done) | (simp; omega)) _ | refine Below.alloc ?_ (by first | omega | (simp; done) | (simp; omega)) _))⟩
  · obtain ⟨e1, e2, e3⟩ := ds_bad (m := m) (by omega)
    rw [e1, e2, e3]
    clear e1 e2 e3
    go_enter Tryd.func22, Tryd.ntmps22
    go_wp2_with fail
    exact bodyPost_ret (v := .tuple #[.agg #[.int .i64 0, .int .i64 0], .int .i64 3]) (by simp [results, Tryd.results22, go_sem]) rfl ⟨rfl, (by repeat' (first | exact Below.refl _ _ | refine Below.setCell ?_ (by first | omega | (simp; done) | (simp; omega)) _ | refine Below.alloc ?_ (by first | omega | (simp; done) | (simp; omega)) _))⟩
end Go.Proofs.YtopngioiboepfaaDoor
