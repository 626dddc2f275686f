/-
  The walk of the law on the order of deadlines.
-/
import Derived.Test.YtopngioiboepfaaDoorCOrderM1
import Derived.Test.YtopngioiboepfaaDoorCOrderM2
namespace Go.Proofs.YtopngioiboepfaaDoor
open Go.RowKit Cal

theorem dead_no (day days how : Int) (l : List Int) (p : Option Addr) (b off cap len : Nat) (h0 : 0 ≤ day) (h1 : day ≤ 36524) (hk : ¬ (how = 1 ∨ how = 2)) (w : World) (hS : Sl w p b off len l) :
    Calls Tryd.prog 25 #[.int .i64 day, .int .i64 days, .int .i64 how, .slice p len cap] w fun e' w' => e' = .returned (.tuple #[.int .i64 0, .int .i64 1]) ∧ ∃ q, w' = w.drewN q := by
  have k := Deadline_any day days how l p b off cap len w hS
  obtain ⟨e1, e2⟩ := dn_bad (day := day) (days := days) (how := how) (l := l) ((isD_iff day).2 ⟨h0, h1⟩) (dnOk_not (fun h => hk h.2.2.1))
  rw [← e1, ← e2] at k
  exact k

set_option maxRecDepth 100000 in
set_option maxHeartbeats 8000000 in
theorem order_law (day later days more how which : Int) (l : List Int) (p : Option Addr) (b off cap len : Nat) (w : World) (hE : Tab w) (_d0 : -9223372036854775808 ≤ day) (_d1 : day ≤ 9223372036854775807) (_l0 : -9223372036854775808 ≤ later) (_l1 : later ≤ 9223372036854775807) (_e0 : -9223372036854775808 ≤ days) (_e1 : days ≤ 9223372036854775807) (_m0 : -9223372036854775808 ≤ more) (_m1 : more ≤ 9223372036854775807) (_h0 : -9223372036854775808 ≤ how) (_h1 : how ≤ 9223372036854775807) (_w0 : -9223372036854775808 ≤ which) (_w1 : which ≤ 9223372036854775807) (hS : Sl w p b off len l) (hcap : len ≤ cap) :
    Calls Tryd.prog 10 #[.int .i64 day, .int .i64 later, .int .i64 days, .int .i64 more, .int .i64 how, .int .i64 which, .slice p len cap] w fun e w' => e = .returned (.bool true) ∧ Below w.heap.size w w' := by
  by_cases hall : hol l = true ∧ 0 ≤ day ∧ day ≤ later ∧ later ≤ 36524 ∧ 0 ≤ days ∧ days ≤ more ∧ more ≤ 1000 ∧ (how = 1 ∨ how = 2)
  · obtain ⟨hh, h0, h1, h2, h3, h4, h5, h6⟩ := hall
    rcases h6 with rfl | rfl
    · exact order_main1 day later days more which l p b off cap len w hE hS hcap hh h0 h1 h2 h3 h4 h5
    · exact order_main2 day later days more which l p b off cap len w hE hS hcap hh h0 h1 h2 h3 h4 h5
  · skip
    have KH := Lib.hid (head_any w hE)
    have HS := Lib.hid hS
    have hlen := hS.1
    have KF := Lib.hid (few_is p cap len)
    have KR := Lib.hid (rHol_is l p b off cap len)
    have HALL := Lib.hid hall
    clear hE hS hall hcap
    cases hh : hol l with
    | false =>
      have HH := Lib.hid hh
      clear hh hlen HALL
      cases hf : decide (len ≤ 150) with
      | false =>
        have HF := Lib.hid hf
        clear hf
        go_enter Tryd.func10, Tryd.ntmps10
        go_wp2_with fail
        refine KH.out.mono ?_
        rintro _ w1 ⟨rfl, hb1⟩
        have HB1 := Lib.hid hb1
        clear hb1
        go_wp2_with fail
        refine (KF.out false HF.out _).mono ?_
        rintro _ w' ⟨rfl, rfl⟩
        go_wp2
        go_ret
        exact ⟨by first | rfl | (simp; done) | (simp; omega), HB1.out⟩
      | true =>
        have HF := Lib.hid hf
        clear hf
        go_enter Tryd.func10, Tryd.ntmps10
        go_wp2_with fail
        refine KH.out.mono ?_
        rintro _ w1 ⟨rfl, hb1⟩
        have HB1 := Lib.hid hb1
        have HS1 := Lib.hid (HS.out.below hb1)
        clear hb1
        go_wp2_with fail
        refine (KF.out true HF.out _).mono ?_
        rintro _ w' ⟨rfl, rfl⟩
        go_wp2_with fail
        refine (KR.out false HH.out _ HS1.out).mono ?_
        rintro _ w2 ⟨rfl, hq⟩
        have HB2 := Lib.hid (Below.drew3 HB1.out hq)
        clear hq HB1 HS1
        go_wp2
        go_ret
        exact ⟨by first | rfl | (simp; done) | (simp; omega), HB2.out⟩
    | true =>
      have HH := Lib.hid hh
      have HF : Hid (decide (len ≤ 150) = true) := decide_eq_true (by have := ((hol_iff l).1 hh).1; omega)
      clear hh hlen
      by_cases h0 : 0 ≤ day
      · by_cases h1 : day ≤ later
        · by_cases h2 : later ≤ 36524
          · by_cases h3 : 0 ≤ days
            · by_cases h4 : days ≤ more
              · by_cases h5 : more ≤ 1000
                · have h6 : ¬ (how = 1 ∨ how = 2) := fun h => HALL.out ⟨HH.out, h0, h1, h2, h3, h4, h5, h⟩
                  have KD := Lib.hid (dead_no day days how l p b off cap len h0 (by omega) h6)
                  have a1 : (how == 1) = false := by simp; omega
                  have a2 : (how != 1) = true := by simp; omega
                  have a3 : (how == 2) = false := by simp; omega
                  have a4 : (how != 2) = true := by simp; omega
                  clear h6 HALL
                  go_enter Tryd.func10, Tryd.ntmps10
                  go_wp2_with fail
                  refine KH.out.mono ?_
                  rintro _ w1 ⟨rfl, hb1⟩
                  have HB1 := Lib.hid hb1
                  have HS1 := Lib.hid (HS.out.below hb1)
                  clear hb1
                  go_wp2_with fail
                  refine (KF.out true HF.out _).mono ?_
                  rintro _ w' ⟨rfl, rfl⟩
                  go_wp2_with fail
                  refine (KR.out true HH.out _ HS1.out).mono ?_
                  rintro _ w2 ⟨rfl, hq⟩
                  have HB2 := Lib.hid (Below.drew3 HB1.out hq)
                  have HS2 := Lib.hid (HS1.out.drew hq)
                  clear hq HB1 HS1
                  go_wp2_with fail
                  refine (KD.out _ HS2.out).mono ?_
                  rintro _ w3 ⟨rfl, hq⟩
                  have HB3 := Lib.hid (Below.drew3 HB2.out hq)
                  have HS3 := Lib.hid (HS2.out.drew hq)
                  clear hq HB2 HS2
                  go_wp2
                  go_ret
                  exact ⟨by first | rfl | (simp; done) | (simp; omega), HB3.out⟩
                · clear HALL
                  go_enter Tryd.func10, Tryd.ntmps10
                  go_wp2_with fail
                  refine KH.out.mono ?_
                  rintro _ w1 ⟨rfl, hb1⟩
                  have HB1 := Lib.hid hb1
                  have HS1 := Lib.hid (HS.out.below hb1)
                  clear hb1
                  go_wp2_with fail
                  refine (KF.out true HF.out _).mono ?_
                  rintro _ w' ⟨rfl, rfl⟩
                  go_wp2_with fail
                  refine (KR.out true HH.out _ HS1.out).mono ?_
                  rintro _ w2 ⟨rfl, hq⟩
                  have HB2 := Lib.hid (Below.drew3 HB1.out hq)
                  clear hq HB1 HS1
                  go_wp2
                  go_ret
                  exact ⟨by first | rfl | (simp; done) | (simp; omega), HB2.out⟩
              · clear HALL
                go_enter Tryd.func10, Tryd.ntmps10
                go_wp2_with fail
                refine KH.out.mono ?_
                rintro _ w1 ⟨rfl, hb1⟩
                have HB1 := Lib.hid hb1
                have HS1 := Lib.hid (HS.out.below hb1)
                clear hb1
                go_wp2_with fail
                refine (KF.out true HF.out _).mono ?_
                rintro _ w' ⟨rfl, rfl⟩
                go_wp2_with fail
                refine (KR.out true HH.out _ HS1.out).mono ?_
                rintro _ w2 ⟨rfl, hq⟩
                have HB2 := Lib.hid (Below.drew3 HB1.out hq)
                clear hq HB1 HS1
                go_wp2
                go_ret
                exact ⟨by first | rfl | (simp; done) | (simp; omega), HB2.out⟩
            · clear HALL
              go_enter Tryd.func10, Tryd.ntmps10
              go_wp2_with fail
              refine KH.out.mono ?_
              rintro _ w1 ⟨rfl, hb1⟩
              have HB1 := Lib.hid hb1
              have HS1 := Lib.hid (HS.out.below hb1)
              clear hb1
              go_wp2_with fail
              refine (KF.out true HF.out _).mono ?_
              rintro _ w' ⟨rfl, rfl⟩
              go_wp2_with fail
              refine (KR.out true HH.out _ HS1.out).mono ?_
              rintro _ w2 ⟨rfl, hq⟩
              have HB2 := Lib.hid (Below.drew3 HB1.out hq)
              clear hq HB1 HS1
              go_wp2
              go_ret
              exact ⟨by first | rfl | (simp; done) | (simp; omega), HB2.out⟩
          · clear HALL
            go_enter Tryd.func10, Tryd.ntmps10
            go_wp2_with fail
            refine KH.out.mono ?_
            rintro _ w1 ⟨rfl, hb1⟩
            have HB1 := Lib.hid hb1
            have HS1 := Lib.hid (HS.out.below hb1)
            clear hb1
            go_wp2_with fail
            refine (KF.out true HF.out _).mono ?_
            rintro _ w' ⟨rfl, rfl⟩
            go_wp2_with fail
            refine (KR.out true HH.out _ HS1.out).mono ?_
            rintro _ w2 ⟨rfl, hq⟩
            have HB2 := Lib.hid (Below.drew3 HB1.out hq)
            clear hq HB1 HS1
            go_wp2
            go_ret
            exact ⟨by first | rfl | (simp; done) | (simp; omega), HB2.out⟩
        · clear HALL
          go_enter Tryd.func10, Tryd.ntmps10
          go_wp2_with fail
          refine KH.out.mono ?_
          rintro _ w1 ⟨rfl, hb1⟩
          have HB1 := Lib.hid hb1
          have HS1 := Lib.hid (HS.out.below hb1)
          clear hb1
          go_wp2_with fail
          refine (KF.out true HF.out _).mono ?_
          rintro _ w' ⟨rfl, rfl⟩
          go_wp2_with fail
          refine (KR.out true HH.out _ HS1.out).mono ?_
          rintro _ w2 ⟨rfl, hq⟩
          have HB2 := Lib.hid (Below.drew3 HB1.out hq)
          clear hq HB1 HS1
          go_wp2
          go_ret
          exact ⟨by first | rfl | (simp; done) | (simp; omega), HB2.out⟩
      · clear HALL
        go_enter Tryd.func10, Tryd.ntmps10
        go_wp2_with fail
        refine KH.out.mono ?_
        rintro _ w1 ⟨rfl, hb1⟩
        have HB1 := Lib.hid hb1
        have HS1 := Lib.hid (HS.out.below hb1)
        clear hb1
        go_wp2_with fail
        refine (KF.out true HF.out _).mono ?_
        rintro _ w' ⟨rfl, rfl⟩
        go_wp2_with fail
        refine (KR.out true HH.out _ HS1.out).mono ?_
        rintro _ w2 ⟨rfl, hq⟩
        have HB2 := Lib.hid (Below.drew3 HB1.out hq)
        clear hq HB1 HS1
        go_wp2
        go_ret
        exact ⟨by first | rfl | (simp; done) | (simp; omega), HB2.out⟩
end Go.Proofs.YtopngioiboepfaaDoor
