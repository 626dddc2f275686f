/-
  Contracts of the reference's dates: leap, length, Date, Day, Weekday, Month, Days: each the same value as the program's.
-/
import Derived.Test.YtopngioiboepfaaDoorCHolRef
import Derived.Test.YtopngioiboepfaaDoorCWalks2
import Derived.Test.YtopngioiboepfaaDoorCLawMath
namespace Go.Proofs.YtopngioiboepfaaDoor
open Go.RowKit Cal

theorem rIn_any (d : Int) (w : World) : Calls Tryd.prog 30 #[.int .i64 d] w fun e w' => e = .returned (.bool (isD d)) ∧ w = w' := (In_any d w).mono fun _ _ h => ⟨h.1, h.2.symm⟩

/-- The days of a year that is so many years after the first one. -/
theorem year_len {n : Int} (h : 0 ≤ n) : MS (12 * (n + 1)) - MS (12 * n) = if n % 4 = 0 then 366 else 365 := by
  rw [MS_year h, MS_year (show 0 ≤ n + 1 by omega)]
  by_cases e : n % 4 = 0
  · rw [if_pos e]; omega
  · rw [if_neg e]; omega

theorem leap_any (y : Int) (w : World) (h0 : 2000 ≤ y) (h1 : y ≤ 2200) : Calls Tryd.prog 31 #[.int .i64 y] w fun e w' => e = .returned (.int .i64 (MS (12 * (y - 2000 + 1)) - MS (12 * (y - 2000)))) ∧ w = w' := by
  have k := year_len (show 0 ≤ y - 2000 by omega)
  by_cases e : y % 4 = 0
  · rw [if_pos (by omega)] at k
    rw [k]
    have e2 : (y % 4 == 0) = true := by simpa using e
    clear k e
    go_enter Tryd.func31, Tryd.ntmps31
    go_wp2
    go_ret
    exact ⟨rfl, rfl⟩
  · rw [if_neg (by omega)] at k
    rw [k]
    have e2 : (y % 4 == 0) = false := by simpa using e
    clear k e
    go_enter Tryd.func31, Tryd.ntmps31
    go_wp2
    go_ret
    exact ⟨rfl, rfl⟩

theorem rlen_eq {y m : Int} (h0 : 2000 ≤ y) (m0 : 1 ≤ m) (m1 : m ≤ 12) : ML ((y - 2000) * 12 + m - 1) = (lens.getD (m.toNat - 1) 0 : Nat) + if m = 2 ∧ y % 4 = 0 then 1 else 0 := by
  rw [ML_eq (show 0 ≤ (y - 2000) * 12 + m - 1 by omega) (m.toNat - 1) (by omega)]
  by_cases e : m = 2 ∧ y % 4 = 0
  · rw [if_pos e, if_pos (by omega)]
  · rw [if_neg e, if_neg (by omega)]

set_option maxHeartbeats 2000000 in
theorem rlength_any (y m : Int) (w : World) (h0 : 2000 ≤ y) (h1 : y ≤ 2200) (m0 : 1 ≤ m) (m1 : m ≤ 12) : Calls Tryd.prog 32 #[.int .i64 y, .int .i64 m] w fun e w' => e = .returned (.int .i64 (ML ((y - 2000) * 12 + m - 1))) ∧ w = w' := by
  have E := rlen_eq h0 m0 m1
  rw [E]
  clear E
  by_cases hl : y % 4 = 0
  · have e2 : (y % 4 == 0) = true := by simpa using hl
    have hc : m = 1 ∨ m = 2 ∨ m = 3 ∨ m = 4 ∨ m = 5 ∨ m = 6 ∨ m = 7 ∨ m = 8 ∨ m = 9 ∨ m = 10 ∨ m = 11 ∨ m = 12 := by omega
    rcases hc with rfl | rfl | rfl | rfl | rfl | rfl | rfl | rfl | rfl | rfl | rfl | rfl
    all_goals
      first | rw [if_pos ⟨rfl, hl⟩] | rw [if_neg (by omega)]
      clear hl
      go_enter Tryd.func32, Tryd.ntmps32
      go_wp2
      go_ret
      exact ⟨rfl, rfl⟩
  · have e2 : (y % 4 == 0) = false := by simpa using hl
    have hc : m = 1 ∨ m = 2 ∨ m = 3 ∨ m = 4 ∨ m = 5 ∨ m = 6 ∨ m = 7 ∨ m = 8 ∨ m = 9 ∨ m = 10 ∨ m = 11 ∨ m = 12 := by omega
    rcases hc with rfl | rfl | rfl | rfl | rfl | rfl | rfl | rfl | rfl | rfl | rfl | rfl
    all_goals
      rw [if_neg (fun h => hl h.2)]
      clear hl
      go_enter Tryd.func32, Tryd.ntmps32
      go_wp2
      go_ret
      exact ⟨rfl, rfl⟩

set_option maxHeartbeats 4000000 in
set_option maxRecDepth 100000 in
theorem rDate_any (d : Int) (w : World) : Calls Tryd.prog 14 #[.int .i64 d] w fun e w' => e = .returned (.tuple #[.int .i64 (dtY d), .int .i64 (dtM d), .int .i64 (dtT d), .int .i64 (dtE d)]) ∧ w = w' := by
  cases h : isD d with
  | false =>
    have k : ∀ w : World, Calls Tryd.prog 30 #[.int .i64 d] w fun e w' => e = .returned (.bool false) ∧ w = w' := fun w => by rw [← h]; exact rIn_any d w
    have K := Lib.hid k
    have E : Hid (dtY d = 0 ∧ dtM d = 0 ∧ dtT d = 0 ∧ dtE d = 3) := by show _ ∧ _; unfold dtY dtM dtT dtE; rw [h]; simp
    clear k h
    go_enter Tryd.func14, Tryd.ntmps14
    go_wp2_with ((with_reducible refine (K.out _).mono ?_); rintro e w' ⟨rfl, rfl⟩)
    exact bodyPost_ret (v := .tuple #[.int .i64 0, .int .i64 0, .int .i64 0, .int .i64 3]) (by simp [results, Tryd.results14, go_sem]) rfl ⟨ret_4 E.out.1.symm E.out.2.1.symm E.out.2.2.1.symm E.out.2.2.2.symm, rfl⟩
  | true =>
    have k : ∀ w : World, Calls Tryd.prog 30 #[.int .i64 d] w fun e w' => e = .returned (.bool true) ∧ w = w' := fun w => by rw [← h]; exact rIn_any d w
    have K := Lib.hid k
    have hd := (isD_iff d).1 h
    obtain ⟨d0, d1⟩ := hd
    have HD := Lib.hid h
    clear k h
    go_enter Tryd.func14, Tryd.ntmps14
    go_wp2_with ((with_reducible refine (K.out _).mono ?_); rintro e w' ⟨rfl, rfl⟩)
    go_loop [0, 6] (fun a b => ∃ t y : Int, a = .int .i64 t ∧ b = .int .i64 y ∧ 2000 ≤ y ∧ y ≤ 2099 ∧ 0 ≤ t ∧ t ≤ 36524 ∧ Hid (t = d - MS (12 * (y - 2000)))) (fun _ b => (2100 - intOf b).toNat)
    case atStart => exact ⟨d, 2000, rfl, rfl, by omega, by omega, d0, d1, (show d = d - MS 0 by rw [MS_zero]; omega)⟩
    case round =>
      obtain ⟨t, y, rfl, rfl, y0, y1, t0, t1, HT⟩ := hrel
      obtain ⟨x, hx⟩ : ∃ x, x = MS (12 * (y - 2000 + 1)) - MS (12 * (y - 2000)) := ⟨_, rfl⟩
      have kl : ∀ w : World, Calls Tryd.prog 31 #[.int .i64 y] w fun e w' => e = .returned (.int .i64 x) ∧ w = w' := fun w => by rw [hx]; exact leap_any y w y0 (by omega)
      have KL := Lib.hid kl
      have hb := year_len (show 0 ≤ y - 2000 by omega)
      rw [← hx] at hb
      have x0 : 365 ≤ x := by rw [hb]; split <;> omega
      have x1 : x ≤ 366 := by rw [hb]; split <;> omega
      have HX := Lib.hid hx
      clear kl hx hb
      by_cases hlt : x ≤ t
      · have y2 : y + 1 ≤ 2099 := by
          have a := HX.out
          have b := HT.out
          rcases (show y + 1 ≤ 2099 ∨ y = 2099 by omega) with z | z
          · exact z
          · subst z
            have e := MS_end
            rw [show (1200 : Int) = 12 * (2099 - 2000 + 1) by decide] at e
            rw [e] at a
            omega
        have HN : Hid (t - x = d - MS (12 * (y + 1 - 2000))) := by
          have a := HX.out
          have b := HT.out
          show _ = _
          rw [show y + 1 - 2000 = y - 2000 + 1 by omega]; omega
        go_wp2_with ((with_reducible refine (KL.out _).mono ?_); rintro e w' ⟨rfl, rfl⟩)
        go_round
        case rel => exact ⟨t - x, y + 1, rfl, rfl, by omega, by omega, by omega, by omega, HN⟩
        case measure => simp [intOf]; omega
      · go_wp2_with ((with_reducible refine (KL.out _).mono ?_); rintro e w' ⟨rfl, rfl⟩)
        go_loop [0, 7] (fun a b => ∃ s m : Int, a = .int .i64 s ∧ b = .int .i64 m ∧ 1 ≤ m ∧ m ≤ 12 ∧ 0 ≤ s ∧ s ≤ 400 ∧ Hid (s = d - MS ((y - 2000) * 12 + m - 1))) (fun _ b => (13 - intOf b).toNat)
        case atStart => exact ⟨t, 1, rfl, rfl, by omega, by omega, t0, by omega, (show t = _ by rw [HT.out, show (y - 2000) * 12 + 1 - 1 = 12 * (y - 2000) by omega])⟩
        case round =>
          obtain ⟨s, m, rfl, rfl, m0, m1, s0, s1, HS⟩ := hrel
          obtain ⟨n, hn⟩ : ∃ n, n = (y - 2000) * 12 + m - 1 := ⟨_, rfl⟩
          obtain ⟨z, hz⟩ : ∃ z, z = ML n := ⟨_, rfl⟩
          have kl : ∀ w : World, Calls Tryd.prog 32 #[.int .i64 y, .int .i64 m] w fun e w' => e = .returned (.int .i64 z) ∧ w = w' := fun w => by rw [hz, hn]; exact rlength_any y m w y0 (by omega) m0 m1
          have KM := Lib.hid kl
          have hb := ML_bd n
          have hs := MS_succ (show 0 ≤ n by omega)
          rw [← hz] at hb hs
          have HZ := Lib.hid hz
          have hss := HS.out
          rw [← hn] at hss
          clear kl hz
          by_cases hlm : z ≤ s
          · have m2 : m + 1 ≤ 12 := by
              rcases (show m + 1 ≤ 12 ∨ m = 12 by omega) with q | q
              · exact q
              · subst q
                have a := HX.out
                have b := HT.out
                rw [show n + 1 = 12 * (y - 2000 + 1) by omega] at hs
                omega
            have HN : Hid (s - z = d - MS ((y - 2000) * 12 + (m + 1) - 1)) := by
              show _ = _
              rw [show (y - 2000) * 12 + (m + 1) - 1 = n + 1 by omega]; omega
            clear hs hss hn
            go_wp2_with ((with_reducible refine (KM.out _).mono ?_); rintro e w' ⟨rfl, rfl⟩)
            go_round
            case rel => exact ⟨s - z, m + 1, rfl, rfl, by omega, by omega, by omega, by omega, HN⟩
            case measure => simp [intOf]; omega
          · have hm : MO d = n := MO_uniq d0 d1 (by omega) (by omega) (by rw [← HZ.out]; omega)
            have E : Hid (dtY d = y ∧ dtM d = m ∧ dtT d = s + 1 ∧ dtE d = 0) := by
              show _ ∧ _
              unfold dtY dtM dtT dtE
              rw [HD.out, if_pos rfl, if_pos rfl, if_pos rfl, if_pos rfl, hm]
              exact ⟨by omega, by omega, by omega, rfl⟩
            clear hs hss hn hm
            go_wp2_with ((with_reducible refine (KM.out _).mono ?_); rintro e w' ⟨rfl, rfl⟩)
            exact bodyPost_ret (v := .tuple #[.int .i64 y, .int .i64 m, .int .i64 (s + 1), .int .i64 0]) (by simp [results, Tryd.results14, go_sem]) rfl ⟨ret_4 E.out.1.symm E.out.2.1.symm E.out.2.2.1.symm E.out.2.2.2.symm, rfl⟩
end Go.Proofs.YtopngioiboepfaaDoor
