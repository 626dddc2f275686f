/-
  Contracts of the reference's works, Working, Deadline: each the same value as the program's.
-/
import Derived.Test.YtopngioiboepfaaDoorCRefD
import Derived.Test.YtopngioiboepfaaDoorCWorkingWalk
namespace Go.Proofs.YtopngioiboepfaaDoor
open Go.RowKit Cal

set_option maxHeartbeats 2000000 in
set_option maxRecDepth 100000 in
theorem rworks_any (d : Int) (l : List Int) (p : Option Addr) (b off cap len : Nat) (w : World) (hS : Sl w p b off len l) (h0 : 0 ≤ d) (h1 : d ≤ 40000) :
    Calls Tryd.prog 38 #[.int .i64 d, .slice p len cap] w fun e w' => e = .returned (.bool (WK d l)) ∧ w = w' := by
  have HS := Lib.hid hS
  have hm := hS.2.2.2.2
  clear hS
  go_enter Tryd.func38, Tryd.ntmps38
  go_wp2
  go_loop [5] (fun i => ∃ (k : Nat), k ≤ len ∧ i = .int .i64 k ∧ Hid (d ∉ l.take k)) (fun i => len - (intOf i).toNat)
  case atStart => exact ⟨0, by omega, rfl, (show d ∉ l.take 0 by simp)⟩
  case round =>
    obtain ⟨k, hk, rfl, HN⟩ := hrel
    by_cases hlt : k < len
    · have hltz : (k : Int) < (len : Int) := by omega
      have hp1 := HS.out.2.1 (by omega)
      have hkl : k < l.length := by rw [HS.out.1]; exact hlt
      have hc := HS.out.2.2.1 k hkl
      obtain ⟨x, hx⟩ : ∃ x, x = l[k] := ⟨_, rfl⟩
      rw [← hx] at hc
      subst hp1
      by_cases he : x = d
      · have he2 : (x == d) = true := by simpa using he
        have E : Hid (WK d l = false) := by
          show _ = _
          cases c : WK d l with
          | false => rfl
          | true =>
            have := (WK_iff d l).1 c
            exact absurd (by rw [← he, hx]; exact List.getElem_mem hkl) this.2
        clear hx he
        go_wp2
        go_ret
        exact ⟨ret_bool E.out.symm, rfl⟩
      · have he2 : (x == d) = false := by simpa using he
        have HN2 : Hid (d ∉ l.take (k + 1)) := by
          intro h
          rcases (mem_step hkl d).1 h with y | y
          · exact HN.out y
          · exact he (by rw [hx]; exact y.symm)
        clear hx he
        go_wp2
        go_round
        case rel => exact ⟨k + 1, by omega, by go_num, HN2⟩
        case measure => simp [intOf]; omega
    · have hltz : ¬ (k : Int) < (len : Int) := by omega
      have E : Hid (WK d l = decide ((d + 5) % 7 < 5)) := by
        have a := HN.out
        rw [List.take_of_length_le (by rw [HS.out.1]; omega)] at a
        show _ = _
        unfold WK
        simp [a]
      go_wp2
      go_ret
      exact ⟨ret_bool E.out.symm, rfl⟩

set_option maxHeartbeats 2000000 in
theorem rWorking_any (d : Int) (l : List Int) (p : Option Addr) (b off cap len : Nat) (w : World) (hS : Sl w p b off len l) :
    Calls Tryd.prog 24 #[.int .i64 d, .slice p len cap] w fun e w' => e = .returned (.tuple #[.bool (wkV d l), .int .i64 (wkE d l)]) ∧ ∃ q, w' = w.drewN q := by
  have HS := Lib.hid hS
  have KR := Lib.hid (rHol_is l p b off cap len)
  clear hS
  cases hd : isD d with
  | false =>
    have kd : ∀ w : World, Calls Tryd.prog 30 #[.int .i64 d] w fun e w' => e = .returned (.bool false) ∧ w = w' := fun w => by rw [← hd]; exact rIn_any d w
    have K := Lib.hid kd
    have E : Hid (wkV d l = false ∧ wkE d l = 3) := by show _ ∧ _; unfold wkV wkE; rw [hd]; simp
    clear kd hd
    go_enter Tryd.func24, Tryd.ntmps24
    go_wp2_with ((with_reducible refine (K.out _).mono ?_); rintro e w' ⟨rfl, rfl⟩)
    go_ret2
    exact ⟨ret_bi E.out.1.symm E.out.2.symm, 0, rfl⟩
  | true =>
    have kd : ∀ w : World, Calls Tryd.prog 30 #[.int .i64 d] w fun e w' => e = .returned (.bool true) ∧ w = w' := fun w => by rw [← hd]; exact rIn_any d w
    have K := Lib.hid kd
    obtain ⟨d0, d1⟩ := (isD_iff d).1 hd
    cases hh : hol l with
    | false =>
      have HH := Lib.hid hh
      have E : Hid (wkV d l = false ∧ wkE d l = 1) := by show _ ∧ _; unfold wkV wkE; rw [hd, hh]; simp
      clear kd hd hh
      go_enter Tryd.func24, Tryd.ntmps24
      go_wp2_with fail
      refine (K.out _).mono ?_
      rintro _ w' ⟨rfl, rfl⟩
      go_wp2_with fail
      refine (KR.out false HH.out _ HS.out).mono ?_
      rintro _ w2 ⟨rfl, hq⟩
      have HQ := Lib.hid hq
      clear hq
      go_wp2
      go_ret2
      exact ⟨ret_bi E.out.1.symm E.out.2.symm, HQ.out⟩
    | true =>
      have HH := Lib.hid hh
      obtain ⟨x, hx⟩ : ∃ x, x = WK d l := ⟨_, rfl⟩
      have kw : ∀ w, Sl w p b off len l → Calls Tryd.prog 38 #[.int .i64 d, .slice p len cap] w fun e w' => e = .returned (.bool x) ∧ w = w' := fun w hS => by rw [hx]; exact rworks_any d l p b off cap len w hS d0 (by omega)
      have KW := Lib.hid kw
      have E : Hid (wkV d l = x ∧ wkE d l = 0) := by show _ ∧ _; unfold wkV wkE; rw [hd, hh, hx]; simp
      clear kd hd hh kw hx
      go_enter Tryd.func24, Tryd.ntmps24
      go_wp2_with fail
      refine (K.out _).mono ?_
      rintro _ w' ⟨rfl, rfl⟩
      go_wp2_with fail
      refine (KR.out true HH.out _ HS.out).mono ?_
      rintro _ w2 ⟨rfl, hq⟩
      have HQ := Lib.hid hq
      have HS2 := Lib.hid (HS.out.drew hq)
      clear hq
      go_wp2_with fail
      refine (KW.out _ HS2.out).mono ?_
      rintro _ w' ⟨rfl, rfl⟩
      go_wp2
      go_ret2
      exact ⟨ret_bi E.out.1.symm E.out.2.symm, HQ.out⟩

/- RDEAD -/

set_option maxHeartbeats 4000000 in
set_option maxRecDepth 100000 in
theorem rDeadline_any (day days how : Int) (l : List Int) (p : Option Addr) (b off cap len : Nat) (w : World) (hS : Sl w p b off len l) :
    Calls Tryd.prog 26 #[.int .i64 day, .int .i64 days, .int .i64 how, .slice p len cap] w fun e w' => e = .returned (.tuple #[.int .i64 (dnV day days how l), .int .i64 (dnE day days how l)]) ∧ ∃ q, w' = w.drewN q := by
  have HS := Lib.hid hS
  have KR := Lib.hid (rHol_is l p b off cap len)
  clear hS
  cases hd : isD day with
  | false =>
    have kd : ∀ w : World, Calls Tryd.prog 30 #[.int .i64 day] w fun e w' => e = .returned (.bool false) ∧ w = w' := fun w => by rw [← hd]; exact rIn_any day w
    have K := Lib.hid kd
    have E : Hid (0 = dnV day days how l ∧ 3 = dnE day days how l) := by show _ ∧ _; unfold dnV dnE; rw [hd]; simp
    clear kd hd
    go_enter Tryd.func26, Tryd.ntmps26
    go_wp2_with fail
    refine (K.out _).mono ?_
    rintro _ w' ⟨rfl, rfl⟩
    go_wp2
    go_ret2
    exact ⟨ret_2 E.out.1 E.out.2, 0, rfl⟩
  | true =>
    have kd : ∀ w : World, Calls Tryd.prog 30 #[.int .i64 day] w fun e w' => e = .returned (.bool true) ∧ w = w' := fun w => by rw [← hd]; exact rIn_any day w
    have K := Lib.hid kd
    obtain ⟨d0, d1⟩ := (isD_iff day).1 hd
    have HD := Lib.hid hd
    clear kd hd
    by_cases h1 : 0 ≤ days
    · by_cases h2 : days ≤ 1000
      · by_cases h3 : how = 1 ∨ how = 2
        · cases hh : hol l with
          | false =>
            have HH := Lib.hid hh
            have E := Lib.hid (dn_bad (day := day) (days := days) (how := how) (l := l) HD.out (dnOk_not (by rw [hh]; simp)))
            clear hh
            rcases h3 with rfl | rfl
            all_goals
              go_enter Tryd.func26, Tryd.ntmps26
              go_wp2_with fail
              refine (K.out _).mono ?_
              rintro _ w' ⟨rfl, rfl⟩
              go_wp2_with fail
              refine (KR.out false HH.out _ HS.out).mono ?_
              rintro _ w2 ⟨rfl, hq⟩
              have HQ := Lib.hid hq
              clear hq
              go_wp2
              go_ret2
              exact ⟨ret_2 E.out.1 E.out.2, HQ.out⟩
          | true =>
            have HH := Lib.hid hh
            clear hh
            rcases h3 with rfl | rfl
            · skip
              obtain ⟨o, ho⟩ : ∃ o, o = day + days := ⟨_, rfl⟩
              have eo : ovr day days 1 = o := by rw [ho]; unfold ovr; rw [if_neg (by decide)]; omega
              have o0 : 0 ≤ o := by omega
              have o1 : o ≤ 37600 := by omega
              have E : Hid (dnV day days 1 l = wfV l o ∧ dnE day days 1 l = wfE l o) := by
                show _ ∧ _
                unfold dnV dnE
                rw [HD.out, (dnOk_iff days 1 l).2 ⟨h1, h2, by decide, HH.out⟩, if_pos rfl, if_pos rfl, if_pos rfl, if_pos rfl, eo]; exact ⟨rfl, rfl⟩
              have ho2 : day + days = o := ho.symm
              clear ho eo
              go_enter Tryd.func26, Tryd.ntmps26
              go_wp2_with fail
              refine (K.out _).mono ?_
              rintro _ w' ⟨rfl, rfl⟩
              go_wp2_with fail
              refine (KR.out true HH.out _ HS.out).mono ?_
              rintro _ w2 ⟨rfl, hq⟩
              have HQ := Lib.hid hq
              have HS2 := Lib.hid (HS.out.drew hq)
              clear hq
              go_wp2_with fail
              clear ho2
              go_loop [10] (fun s => ∃ x : Int, s = .int .i64 x ∧ o ≤ x ∧ x ≤ 38000 ∧ Hid (DL l x = DL l o)) (fun s => (40000 - intOf s).toNat)
              case atStart => exact ⟨o, rfl, by omega, by omega, (show DL l o = DL l o from rfl)⟩
              case round =>
                obtain ⟨x, rfl, x0, x1, HX⟩ := hrel
                by_cases hx : x ≤ 36524
                · obtain ⟨c, hc⟩ : ∃ c, WK x l = c := ⟨_, rfl⟩
                  have kw : ∀ w, Sl w p b off len l → Calls Tryd.prog 38 #[.int .i64 x, .slice p len cap] w fun e w' => e = .returned (.bool c) ∧ w = w' := fun w hS => by rw [← hc]; exact rworks_any x l p b off cap len w hS (by omega) (by omega)
                  have KW := Lib.hid kw
                  clear kw
                  cases c with
                  | true =>
                    have E2 : Hid (x = wfV l o ∧ 0 = wfE l o) := by
                      have a := HX.out
                      rw [DL_here hx hc] at a
                      show _ ∧ _
                      unfold wfV wfE
                      rw [← a, if_pos (by omega), if_pos (by omega)]; exact ⟨rfl, rfl⟩
                    clear hc
                    go_wp2_with ((with_reducible refine (KW.out _ HS2.out).mono ?_); rintro _ w' ⟨rfl, rfl⟩)
                    go_ret2
                    exact ⟨ret_2 (E2.out.1.trans E.out.1.symm) (E2.out.2.trans E.out.2.symm), HQ.out⟩
                  | false =>
                    have HN : Hid (DL l (x + 1) = DL l o) := by
                      have a := HX.out
                      rw [DL_next hx hc] at a
                      exact a
                    clear hc
                    go_wp2_with ((with_reducible refine (KW.out _ HS2.out).mono ?_); rintro _ w' ⟨rfl, rfl⟩)
                    go_round
                    case rel => exact ⟨x + 1, rfl, by omega, by omega, HN⟩
                    case measure => simp [intOf]; omega
                · have E2 : Hid (0 = wfV l o ∧ 3 = wfE l o) := by
                    have a := HX.out
                    rw [DL_end (show 36525 ≤ x by omega)] at a
                    show _ ∧ _
                    unfold wfV wfE
                    rw [← a, if_neg (by omega), if_neg (by omega)]; exact ⟨rfl, rfl⟩
                  have hx2 : decide (x ≤ 36524) = false := decide_eq_false hx
                  go_wp2
                  go_ret2
                  exact ⟨ret_2 (E2.out.1.trans E.out.1.symm) (E2.out.2.trans E.out.2.symm), HQ.out⟩
            · skip
              obtain ⟨o, ho⟩ : ∃ o, o = day + days + 3 := ⟨_, rfl⟩
              have eo : ovr day days 2 = o := by rw [ho]; unfold ovr; rw [if_pos rfl]
              have o0 : 0 ≤ o := by omega
              have o1 : o ≤ 37600 := by omega
              have E : Hid (dnV day days 2 l = wfV l o ∧ dnE day days 2 l = wfE l o) := by
                show _ ∧ _
                unfold dnV dnE
                rw [HD.out, (dnOk_iff days 2 l).2 ⟨h1, h2, by decide, HH.out⟩, if_pos rfl, if_pos rfl, if_pos rfl, if_pos rfl, eo]; exact ⟨rfl, rfl⟩
              have ho2 : day + days + 3 = o := ho.symm
              clear ho eo
              go_enter Tryd.func26, Tryd.ntmps26
              go_wp2_with fail
              refine (K.out _).mono ?_
              rintro _ w' ⟨rfl, rfl⟩
              go_wp2_with fail
              refine (KR.out true HH.out _ HS.out).mono ?_
              rintro _ w2 ⟨rfl, hq⟩
              have HQ := Lib.hid hq
              have HS2 := Lib.hid (HS.out.drew hq)
              clear hq
              go_wp2_with fail
              clear ho2
              go_loop [10] (fun s => ∃ x : Int, s = .int .i64 x ∧ o ≤ x ∧ x ≤ 38000 ∧ Hid (DL l x = DL l o)) (fun s => (40000 - intOf s).toNat)
              case atStart => exact ⟨o, rfl, by omega, by omega, (show DL l o = DL l o from rfl)⟩
              case round =>
                obtain ⟨x, rfl, x0, x1, HX⟩ := hrel
                by_cases hx : x ≤ 36524
                · obtain ⟨c, hc⟩ : ∃ c, WK x l = c := ⟨_, rfl⟩
                  have kw : ∀ w, Sl w p b off len l → Calls Tryd.prog 38 #[.int .i64 x, .slice p len cap] w fun e w' => e = .returned (.bool c) ∧ w = w' := fun w hS => by rw [← hc]; exact rworks_any x l p b off cap len w hS (by omega) (by omega)
                  have KW := Lib.hid kw
                  clear kw
                  cases c with
                  | true =>
                    have E2 : Hid (x = wfV l o ∧ 0 = wfE l o) := by
                      have a := HX.out
                      rw [DL_here hx hc] at a
                      show _ ∧ _
                      unfold wfV wfE
                      rw [← a, if_pos (by omega), if_pos (by omega)]; exact ⟨rfl, rfl⟩
                    clear hc
                    go_wp2_with ((with_reducible refine (KW.out _ HS2.out).mono ?_); rintro _ w' ⟨rfl, rfl⟩)
                    go_ret2
                    exact ⟨ret_2 (E2.out.1.trans E.out.1.symm) (E2.out.2.trans E.out.2.symm), HQ.out⟩
                  | false =>
                    have HN : Hid (DL l (x + 1) = DL l o) := by
                      have a := HX.out
                      rw [DL_next hx hc] at a
                      exact a
                    clear hc
                    go_wp2_with ((with_reducible refine (KW.out _ HS2.out).mono ?_); rintro _ w' ⟨rfl, rfl⟩)
                    go_round
                    case rel => exact ⟨x + 1, rfl, by omega, by omega, HN⟩
                    case measure => simp [intOf]; omega
                · have E2 : Hid (0 = wfV l o ∧ 3 = wfE l o) := by
                    have a := HX.out
                    rw [DL_end (show 36525 ≤ x by omega)] at a
                    show _ ∧ _
                    unfold wfV wfE
                    rw [← a, if_neg (by omega), if_neg (by omega)]; exact ⟨rfl, rfl⟩
                  have hx2 : decide (x ≤ 36524) = false := decide_eq_false hx
                  go_wp2
                  go_ret2
                  exact ⟨ret_2 (E2.out.1.trans E.out.1.symm) (E2.out.2.trans E.out.2.symm), HQ.out⟩
        · have E := Lib.hid (dn_bad (day := day) (days := days) (how := how) (l := l) HD.out (dnOk_not (fun h => h3 h.2.2.1)))
          have a1 : (how == 1) = false := by simp; omega
          have a2 : (how != 1) = true := by simp; omega
          have a3 : (how == 2) = false := by simp; omega
          have a4 : (how != 2) = true := by simp; omega
          clear h3
          go_enter Tryd.func26, Tryd.ntmps26
          go_wp2_with fail
          refine (K.out _).mono ?_
          rintro _ w' ⟨rfl, rfl⟩
          go_wp2
          go_ret2
          exact ⟨ret_2 E.out.1 E.out.2, 0, rfl⟩
      · have E := Lib.hid (dn_bad (day := day) (days := days) (how := how) (l := l) HD.out (dnOk_not (fun h => h2 h.2.1)))
        go_enter Tryd.func26, Tryd.ntmps26
        go_wp2_with fail
        refine (K.out _).mono ?_
        rintro _ w' ⟨rfl, rfl⟩
        go_wp2
        go_ret2
        exact ⟨ret_2 E.out.1 E.out.2, 0, rfl⟩
    · have E := Lib.hid (dn_bad (day := day) (days := days) (how := how) (l := l) HD.out (dnOk_not (fun h => h1 h.1)))
      go_enter Tryd.func26, Tryd.ntmps26
      go_wp2_with fail
      refine (K.out _).mono ?_
      rintro _ w' ⟨rfl, rfl⟩
      go_wp2
      go_ret2
      exact ⟨ret_2 E.out.1 E.out.2, 0, rfl⟩
end Go.Proofs.YtopngioiboepfaaDoor
