/-
  Contracts of calendar.workingFrom, Working, Deadline.
-/
import Derived.Test.YtopngioiboepfaaDoorCWalks3
namespace Go.Proofs.YtopngioiboepfaaDoor
open Go.RowKit Cal

theorem ret_bi {a b : Bool} {c d : Int} (h : a = b) (h' : c = d) : Ending.returned (.tuple #[.bool a, .int .i64 c]) = .returned (.tuple #[.bool b, .int .i64 d]) := by rw [h, h']

set_option maxHeartbeats 2000000 in
set_option maxRecDepth 100000 in
theorem workingFrom_any (d : Int) (l : List Int) (p : Option Addr) (b off cap len : Nat) (w : World) (hS : Sl w p b off len l) (hs : hol l = true) (h0 : 0 ≤ d) (h1 : d ≤ 38000) :
    Calls Tryd.prog 39 #[.int .i64 d, .slice p len cap] w fun e w' => e = .returned (.tuple #[.int .i64 (wfV l d), .int .i64 (wfE l d)]) ∧ ∃ q, w' = w.drewN q := by
  have HS := Lib.hid hS
  have HP := Lib.hid hs
  clear hS hs
  go_enter Tryd.func39, Tryd.ntmps39
  go_wp2
  go_loopg [0] (40000 : Nat) (fun g s wr => ∃ (x : Int) (q : Nat), s = .int .i64 x ∧ 0 ≤ x ∧ x ≤ 38000 ∧ 40000 - x ≤ (g : Int) ∧ wr = w.drewN q ∧ Hid (DL l x = DL l d))
  case atStart => exact ⟨d, 0, rfl, h0, h1, by omega, rfl, rfl⟩
  case round =>
    obtain ⟨x, q, rfl, x0, x1, xg, rfl, HD⟩ := hrel
    by_cases hx : x ≤ 36524
    · have hd : isD x = true := (isD_iff x).2 ⟨x0, hx⟩
      have kd : ∀ w : World, Calls Tryd.prog 28 #[.int .i64 x] w fun e w' => e = .returned (.bool true) ∧ w = w' := fun w => by rw [← hd]; exact isDay_any x w
      have K := Lib.hid kd
      cases hw : WK x l with
      | true =>
        have kw : Calls Tryd.prog 37 #[.int .i64 x, .slice p len cap] (w.drewN q) fun e w' => e = .returned (.bool true) ∧ ∃ q', w' = (w.drewN q).drewN q' := by rw [← hw]; exact isWorking_any x l p b off cap len _ (HS.out.drewN q) HP.out x0 hx
        have KW := Lib.hid kw
        have E : Hid (wfV l d = x ∧ wfE l d = 0) := by
          have e := DL_here hx hw
          have e2 := HD.out
          show _ ∧ _
          unfold wfV wfE
          rw [← e2, e, if_pos (by omega), if_pos (by omega)]; exact ⟨rfl, rfl⟩
        clear hd kd kw hw
        go_wp2_with (first | ((with_reducible refine (K.out _).mono ?_); rintro e w' ⟨rfl, rfl⟩) | ((with_reducible refine (KW.out).mono ?_); rintro e w' ⟨rfl, q', rfl⟩))
        go_ret2
        exact ⟨ret_2 E.out.1.symm E.out.2.symm, q + q', by simp [World.drewN]⟩
      | false =>
        have kw : Calls Tryd.prog 37 #[.int .i64 x, .slice p len cap] (w.drewN q) fun e w' => e = .returned (.bool false) ∧ ∃ q', w' = (w.drewN q).drewN q' := by rw [← hw]; exact isWorking_any x l p b off cap len _ (HS.out.drewN q) HP.out x0 hx
        have KW := Lib.hid kw
        have HN : Hid (DL l (x + 1) = DL l d) := by
          have e := DL_next hx hw
          show _ = _
          rw [← e]; exact HD.out
        clear hd kd kw hw
        go_wp2_with (first | ((with_reducible refine (K.out _).mono ?_); rintro e w' ⟨rfl, rfl⟩) | ((with_reducible refine (KW.out).mono ?_); rintro e w' ⟨rfl, q', rfl⟩))
        go_roundg (40000 - (x + 1)).toNat
        case measure => omega
        case rel => exact ⟨x + 1, q + q', rfl, by omega, by omega, by omega, by simp [World.drewN], HN⟩
    · have hd : isD x = false := by
        cases c : isD x with
        | false => rfl
        | true => have := (isD_iff x).1 c; omega
      have kd : ∀ w : World, Calls Tryd.prog 28 #[.int .i64 x] w fun e w' => e = .returned (.bool false) ∧ w = w' := fun w => by rw [← hd]; exact isDay_any x w
      have K := Lib.hid kd
      have E : Hid (wfV l d = 0 ∧ wfE l d = 3) := by
        have e := DL_end (l := l) (show 36525 ≤ x by omega)
        have e2 := HD.out
        show _ ∧ _
        unfold wfV wfE
        rw [← e2, e, if_neg (by omega), if_neg (by omega)]; exact ⟨rfl, rfl⟩
      clear hd kd
      go_wp2_with ((with_reducible refine (K.out _).mono ?_); rintro e w' ⟨rfl, rfl⟩)
      go_ret2
      exact ⟨ret_2 E.out.1.symm E.out.2.symm, q, rfl⟩

set_option maxHeartbeats 2000000 in
theorem Working_any (d : Int) (l : List Int) (p : Option Addr) (b off cap len : Nat) (w : World) (hS : Sl w p b off len l) :
    Calls Tryd.prog 23 #[.int .i64 d, .slice p len cap] w fun e w' => e = .returned (.tuple #[.bool (wkV d l), .int .i64 (wkE d l)]) ∧ ∃ q, w' = w.drewN q := by
  have K2 := Lib.hid (areHol_any l p b off cap len w hS)
  have HS := Lib.hid hS
  clear hS
  cases hd : isD d with
  | false =>
    have kd : ∀ w : World, Calls Tryd.prog 28 #[.int .i64 d] w fun e w' => e = .returned (.bool false) ∧ w = w' := fun w => by rw [← hd]; exact isDay_any d w
    have K := Lib.hid kd
    have E : Hid (wkV d l = false ∧ wkE d l = 3) := by show _ ∧ _; unfold wkV wkE; rw [hd]; simp
    clear kd hd
    go_enter Tryd.func23, Tryd.ntmps23
    go_wp2_with ((with_reducible refine (K.out _).mono ?_); rintro e w' ⟨rfl, rfl⟩)
    go_ret2
    exact ⟨ret_bi E.out.1.symm E.out.2.symm, 0, rfl⟩
  | true =>
    have kd : ∀ w : World, Calls Tryd.prog 28 #[.int .i64 d] w fun e w' => e = .returned (.bool true) ∧ w = w' := fun w => by rw [← hd]; exact isDay_any d w
    have K := Lib.hid kd
    have hb := (isD_iff d).1 hd
    cases hh : hol l with
    | false =>
      have k2 := K2.out
      rw [hh] at k2
      have KH := Lib.hid k2
      have E : Hid (wkV d l = false ∧ wkE d l = 1) := by show _ ∧ _; unfold wkV wkE; rw [hd, hh]; simp
      clear kd hd hh k2 K2
      go_enter Tryd.func23, Tryd.ntmps23
      go_wp2_with (first | ((with_reducible refine (K.out _).mono ?_); rintro e w' ⟨rfl, rfl⟩) | ((with_reducible refine (KH.out).mono ?_); rintro e w' ⟨rfl, rfl⟩))
      go_ret2
      exact ⟨ret_bi E.out.1.symm E.out.2.symm, 0, rfl⟩
    | true =>
      have k2 := K2.out
      rw [hh] at k2
      have KH := Lib.hid k2
      obtain ⟨x, hx⟩ : ∃ x, x = WK d l := ⟨_, rfl⟩
      have kw := isWorking_any d l p b off cap len w HS.out hh hb.1 hb.2
      rw [← hx] at kw
      have KW := Lib.hid kw
      have E : Hid (wkV d l = x ∧ wkE d l = 0) := by show _ ∧ _; unfold wkV wkE; rw [hd, hh, hx]; simp
      clear kd hd hh k2 K2 kw hx
      go_enter Tryd.func23, Tryd.ntmps23
      go_wp2_with (first | ((with_reducible refine (K.out _).mono ?_); rintro e w' ⟨rfl, rfl⟩) | ((with_reducible refine (KH.out).mono ?_); rintro e w' ⟨rfl, rfl⟩) | ((with_reducible refine (KW.out).mono ?_); rintro e w' ⟨rfl, q', rfl⟩))
      go_ret2
      exact ⟨ret_bi E.out.1.symm E.out.2.symm, q', rfl⟩

theorem dn_bad {day days how : Int} {l : List Int} (hd : isD day = true) (h : dnOk days how l = false) : 0 = dnV day days how l ∧ 1 = dnE day days how l := by
  unfold dnV dnE; rw [hd, h]; simp

set_option maxHeartbeats 4000000 in
theorem Deadline_any (day days how : Int) (l : List Int) (p : Option Addr) (b off cap len : Nat) (w : World) (hS : Sl w p b off len l) :
    Calls Tryd.prog 25 #[.int .i64 day, .int .i64 days, .int .i64 how, .slice p len cap] w fun e w' => e = .returned (.tuple #[.int .i64 (dnV day days how l), .int .i64 (dnE day days how l)]) ∧ ∃ q, w' = w.drewN q := by
  have K2 := Lib.hid (areHol_any l p b off cap len w hS)
  have HS := Lib.hid hS
  clear hS
  cases hd : isD day with
  | false =>
    have kd : ∀ w : World, Calls Tryd.prog 28 #[.int .i64 day] w fun e w' => e = .returned (.bool false) ∧ w = w' := fun w => by rw [← hd]; exact isDay_any day w
    have K := Lib.hid kd
    have E : Hid (dnV day days how l = 0 ∧ dnE day days how l = 3) := by show _ ∧ _; unfold dnV dnE; rw [hd]; simp
    clear kd hd
    go_enter Tryd.func25, Tryd.ntmps25
    go_wp2_with ((with_reducible refine (K.out _).mono ?_); rintro e w' ⟨rfl, rfl⟩)
    go_ret2
    exact ⟨ret_2 E.out.1.symm E.out.2.symm, 0, rfl⟩
  | true =>
    have kd : ∀ w : World, Calls Tryd.prog 28 #[.int .i64 day] w fun e w' => e = .returned (.bool true) ∧ w = w' := fun w => by rw [← hd]; exact isDay_any day w
    have K := Lib.hid kd
    have hb := (isD_iff day).1 hd
    have HD := Lib.hid hd
    clear kd hd
    by_cases h1 : 0 ≤ days
    · by_cases h2 : days ≤ 1000
      · by_cases h3 : how = 1 ∨ how = 2
        · cases hh : hol l with
          | false =>
            have k2 := K2.out
            rw [hh] at k2
            have KH := Lib.hid k2
            have E := Lib.hid (dn_bad (day := day) (days := days) (how := how) (l := l) HD.out (dnOk_not (by rw [hh]; simp)))
            clear hh k2 K2
            rcases h3 with rfl | rfl
            all_goals
              go_enter Tryd.func25, Tryd.ntmps25
              go_wp2_with (first | ((with_reducible refine (K.out _).mono ?_); rintro e w' ⟨rfl, rfl⟩) | ((with_reducible refine (KH.out).mono ?_); rintro e w' ⟨rfl, rfl⟩))
              go_ret2
              exact ⟨ret_2 E.out.1 E.out.2, 0, rfl⟩
          | true =>
            have k2 := K2.out
            rw [hh] at k2
            have KH := Lib.hid k2
            have E : Hid (wfV l (ovr day days how) = dnV day days how l ∧ wfE l (ovr day days how) = dnE day days how l) := by
              show _ ∧ _
              unfold dnV dnE; rw [HD.out, (dnOk_iff days how l).2 ⟨h1, h2, h3, hh⟩]; simp
            have HP := Lib.hid hh
            clear hh k2 K2
            rcases h3 with rfl | rfl
            · have e : ovr day days 1 = day + days := by unfold ovr; rw [if_neg (by decide)]; omega
              rw [e] at E
              have kw := workingFrom_any (day + days) l p b off cap len w HS.out HP.out (by omega) (by omega)
              have KW := Lib.hid kw
              clear kw e
              go_enter Tryd.func25, Tryd.ntmps25
              go_wp2_with (first | ((with_reducible refine (K.out _).mono ?_); rintro e w' ⟨rfl, rfl⟩) | ((with_reducible refine (KH.out).mono ?_); rintro e w' ⟨rfl, rfl⟩) | ((with_reducible refine (KW.out).mono ?_); rintro e w' ⟨rfl, q', rfl⟩))
              go_ret2
              exact ⟨ret_2 E.out.1 E.out.2, q', rfl⟩
            · have e : ovr day days 2 = day + days + 3 := by unfold ovr; rw [if_pos rfl]
              rw [e] at E
              have kw := workingFrom_any (day + days + 3) l p b off cap len w HS.out HP.out (by omega) (by omega)
              have KW := Lib.hid kw
              clear kw e
              go_enter Tryd.func25, Tryd.ntmps25
              go_wp2_with (first | ((with_reducible refine (K.out _).mono ?_); rintro e w' ⟨rfl, rfl⟩) | ((with_reducible refine (KH.out).mono ?_); rintro e w' ⟨rfl, rfl⟩) | ((with_reducible refine (KW.out).mono ?_); rintro e w' ⟨rfl, q', rfl⟩))
              go_ret2
              exact ⟨ret_2 E.out.1 E.out.2, q', rfl⟩
        · have E := Lib.hid (dn_bad (day := day) (days := days) (how := how) (l := l) HD.out (dnOk_not (fun h => h3 h.2.2.1)))
          have a1 : (how == 1) = false := by simp; omega
          have a2 : (how != 1) = true := by simp; omega
          have a3 : (how == 2) = false := by simp; omega
          have a4 : (how != 2) = true := by simp; omega
          clear h3
          go_enter Tryd.func25, Tryd.ntmps25
          go_wp2_with ((with_reducible refine (K.out _).mono ?_); rintro e w' ⟨rfl, rfl⟩)
          go_ret2
          exact ⟨ret_2 E.out.1 E.out.2, 0, rfl⟩
      · have E := Lib.hid (dn_bad (day := day) (days := days) (how := how) (l := l) HD.out (dnOk_not (fun h => h2 h.2.1)))
        go_enter Tryd.func25, Tryd.ntmps25
        go_wp2_with ((with_reducible refine (K.out _).mono ?_); rintro e w' ⟨rfl, rfl⟩)
        go_ret2
        exact ⟨ret_2 E.out.1 E.out.2, 0, rfl⟩
    · have E := Lib.hid (dn_bad (day := day) (days := days) (how := how) (l := l) HD.out (dnOk_not (fun h => h1 h.1)))
      go_enter Tryd.func25, Tryd.ntmps25
      go_wp2_with ((with_reducible refine (K.out _).mono ?_); rintro e w' ⟨rfl, rfl⟩)
      go_ret2
      exact ⟨ret_2 E.out.1 E.out.2, 0, rfl⟩
end Go.Proofs.YtopngioiboepfaaDoor
