/-
  The walk of the law on deadlines.
-/
import Derived.Test.YtopngioiboepfaaDoorCWorkingWalk
namespace Go.Proofs.YtopngioiboepfaaDoor
open Go.RowKit Cal

theorem dead_is (day days how : Int) (l : List Int) (p : Option Addr) (b off cap len : Nat) (x e : Int) (h0 : 0 ≤ day) (h1 : day ≤ 36524) (hk : 0 ≤ days ∧ days ≤ 1000 ∧ (how = 1 ∨ how = 2) ∧ hol l = true) (hx : wfV l (ovr day days how) = x) (he : wfE l (ovr day days how) = e) (w : World) (hS : Sl w p b off len l) :
    Calls Tryd.prog 25 #[.int .i64 day, .int .i64 days, .int .i64 how, .slice p len cap] w fun e' w' => e' = .returned (.tuple #[.int .i64 x, .int .i64 e]) ∧ ∃ q, w' = w.drewN q := by
  have k := Deadline_any day days how l p b off cap len w hS
  unfold dnV dnE at k
  rw [(isD_iff day).2 ⟨h0, h1⟩, (dnOk_iff days how l).2 hk, if_pos rfl, if_pos rfl, if_pos rfl, if_pos rfl, hx, he] at k
  exact k

set_option maxRecDepth 100000 in
set_option maxHeartbeats 8000000 in
theorem deadline_law (day days how : Int) (l : List Int) (p : Option Addr) (b off cap len : Nat) (w : World) (hE : Tab w) (_d0 : -9223372036854775808 ≤ day) (_d1 : day ≤ 9223372036854775807) (_e0 : -9223372036854775808 ≤ days) (_e1 : days ≤ 9223372036854775807) (_h0 : -9223372036854775808 ≤ how) (_h1 : how ≤ 9223372036854775807) (hS : Sl w p b off len l) :
    Calls Tryd.prog 9 #[.int .i64 day, .int .i64 days, .int .i64 how, .slice p len cap] w fun e w' => e = .returned (.bool true) ∧ Below w.heap.size w w' := by
  have KH := Lib.hid (head_any w hE)
  have HS := Lib.hid hS
  have hlen := hS.1
  have KF := Lib.hid (few_is p cap len)
  have KR := Lib.hid (rHol_is l p b off cap len)
  clear hE hS
  cases hh : hol l with
  | false =>
    have HH := Lib.hid hh
    clear hh hlen
    cases hf : decide (len ≤ 150) with
    | false =>
      have HF := Lib.hid hf
      clear hf
      go_enter Tryd.func9, Tryd.ntmps9
      go_wp2_with fail
      refine KH.out.mono ?_
      rintro _ w1 ⟨rfl, hb1⟩
      have HB1 := Lib.hid hb1
      clear hb1
      go_wp2_with fail
      refine (KF.out false HF.out _).mono ?_
      rintro _ w' ⟨rfl, rfl⟩
      go_wp2
      go_ret
      exact ⟨rfl, HB1.out⟩
    | true =>
      have HF := Lib.hid hf
      clear hf
      go_enter Tryd.func9, Tryd.ntmps9
      go_wp2_with fail
      refine KH.out.mono ?_
      rintro _ w1 ⟨rfl, hb1⟩
      have HB1 := Lib.hid hb1
      have HS1 := Lib.hid (HS.out.below hb1)
      clear hb1
      go_wp2_with fail
      refine (KF.out true HF.out _).mono ?_
      rintro _ w' ⟨rfl, rfl⟩
      go_wp2_with fail
      refine (KR.out false HH.out _ HS1.out).mono ?_
      rintro _ w2 ⟨rfl, hq⟩
      have HB2 := Lib.hid (Below.drew3 HB1.out hq)
      clear hq HB1 HS1
      go_wp2
      go_ret
      exact ⟨rfl, HB2.out⟩
  | true =>
    have HH := Lib.hid hh
    have hq := (hol_iff l).1 hh
    have HL1 := Lib.hid hq.1
    have HF : Hid (decide (len ≤ 150) = true) := decide_eq_true (by omega)
    clear hh hlen hq
    by_cases h0 : 0 ≤ day
    · by_cases h1 : day ≤ 36524
      · by_cases h2 : 0 ≤ days
        · by_cases h3 : days ≤ 1000
          · by_cases h4 : how = 1
            · subst h4
              obtain ⟨o, ho⟩ : ∃ o, o = day + days := ⟨_, rfl⟩
              have eo : ovr day days 1 = o := by rw [ho]; unfold ovr; rw [if_neg (by decide)]; omega
              have o0 : 0 ≤ o := by omega
              have o1 : o ≤ 37600 := by omega
              have hs := DL_spec l o
              have hn : ∀ k, o ≤ k → k < DL l o → WK k l = false := fun k => DL_none l o k
              have h2 := DL_200 (l := l) HL1.out o
              obtain ⟨r, hr⟩ : ∃ r, r = DL l o := ⟨_, rfl⟩
              rw [← hr] at hs hn h2
              have hr1 := DL_le l o
              rw [← hr] at hr1
              have HR := Lib.hid hr
              have ho2 : day + days = o := ho.symm
              by_cases hlt : r < 36525
              · obtain ⟨s0, _, _, s1⟩ := hs (by rcases (show o ≤ 36525 ∨ 36525 ≤ o by omega) with z | z; exact z; have := DL_end (l := l) z; omega)
                have KD : Hid (∀ w, Sl w p b off len l → Calls Tryd.prog 25 #[.int .i64 day, .int .i64 days, .int .i64 1, .slice p len cap] w fun e w' => e = .returned (.tuple #[.int .i64 r, .int .i64 0]) ∧ ∃ q, w' = w.drewN q) := dead_is day days 1 l p b off cap len r 0 (by omega) (by omega) ⟨by omega, by omega, by decide, HH.out⟩ (by rw [eo]; unfold wfV; rw [← HR.out, if_pos hlt]) (by rw [eo]; unfold wfE; rw [← HR.out, if_pos hlt])
                have KW := Lib.hid (work_is r l p b off cap len true (by omega) (by omega) HH.out (s1 hlt))
                have HN := Lib.hid hn
                clear hs hn hr ho eo s1
                go_enter Tryd.func9, Tryd.ntmps9
                go_wp2_with fail
                refine KH.out.mono ?_
                rintro _ w1 ⟨rfl, hb1⟩
                have HB1 := Lib.hid hb1
                have HS1 := Lib.hid (HS.out.below hb1)
                clear hb1
                go_wp2_with fail
                refine (KF.out true HF.out _).mono ?_
                rintro _ w' ⟨rfl, rfl⟩
                go_wp2_with fail
                refine (KR.out true HH.out _ HS1.out).mono ?_
                rintro _ w2 ⟨rfl, hq⟩
                have HB2 := Lib.hid (Below.drew3 HB1.out hq)
                have HS2 := Lib.hid (HS1.out.drew hq)
                clear hq HB1 HS1
                go_wp2_with fail
                refine (KD.out _ HS2.out).mono ?_
                rintro _ w3 ⟨rfl, hq⟩
                have HW3 := Lib.hid hq
                have HS3 := Lib.hid (HS2.out.drew hq)
                clear hq
                go_wp2_with fail
                refine (KW.out _ HS3.out).mono ?_
                rintro _ w4 ⟨rfl, hq⟩
                have HW5 := Lib.hid (drew3 HW3.out hq)
                clear hq HW3 HS3
                go_wp2_with fail
                clear ho2
                go_loopg [16] (40000 : Nat) (fun g s16 wr => ∃ (k : Int), s16 = .int .i64 k ∧ o ≤ k ∧ 40000 - k ≤ (g : Int) ∧ k ≤ 38000 ∧ Hid (∃ q, wr = w2.drewN q))
                case atStart => exact ⟨o, rfl, by omega, by omega, by omega, HW5.out⟩
                case round =>
                  obtain ⟨k, rfl, k0, kg, k1, HW⟩ := hrel
                  by_cases hk : k < r
                  · have KV := Lib.hid (work_is k l p b off cap len false (by omega) (by omega) HH.out (HN.out k k0 hk))
                    have HS4 := Lib.hid (HS2.out.drew HW.out)
                    go_wp2_with fail
                    refine (KV.out _ HS4.out).mono ?_
                    rintro _ w4 ⟨rfl, hq⟩
                    have HW4 := Lib.hid (drew3 HW.out hq)
                    clear hq HW HS4
                    go_wp2
                    go_roundg (40000 - (k + 1)).toNat
                    case measure => omega
                    case rel => exact ⟨k + 1, rfl, by omega, by omega, by omega, HW4.out⟩
                  · go_wp2
                    go_ret
                    exact ⟨rfl, Below.drew3 HB2.out HW.out⟩
              · have hr3 : r = 36525 := by omega
                have KD : Hid (∀ w, Sl w p b off len l → Calls Tryd.prog 25 #[.int .i64 day, .int .i64 days, .int .i64 1, .slice p len cap] w fun e w' => e = .returned (.tuple #[.int .i64 0, .int .i64 3]) ∧ ∃ q, w' = w.drewN q) := dead_is day days 1 l p b off cap len 0 3 (by omega) (by omega) ⟨by omega, by omega, by decide, HH.out⟩ (by rw [eo]; unfold wfV; rw [← HR.out, if_neg hlt]) (by rw [eo]; unfold wfE; rw [← HR.out, if_neg hlt])
                rw [hr3] at hn
                have HN := Lib.hid hn
                clear hs hn hr ho eo hr3 h2 hr1 hlt HR
                go_enter Tryd.func9, Tryd.ntmps9
                go_wp2_with fail
                refine KH.out.mono ?_
                rintro _ w1 ⟨rfl, hb1⟩
                have HB1 := Lib.hid hb1
                have HS1 := Lib.hid (HS.out.below hb1)
                clear hb1
                go_wp2_with fail
                refine (KF.out true HF.out _).mono ?_
                rintro _ w' ⟨rfl, rfl⟩
                go_wp2_with fail
                refine (KR.out true HH.out _ HS1.out).mono ?_
                rintro _ w2 ⟨rfl, hq⟩
                have HB2 := Lib.hid (Below.drew3 HB1.out hq)
                have HS2 := Lib.hid (HS1.out.drew hq)
                clear hq HB1 HS1
                go_wp2_with fail
                refine (KD.out _ HS2.out).mono ?_
                rintro _ w3 ⟨rfl, hq⟩
                have HW3 := Lib.hid hq
                clear hq
                go_wp2_with fail
                clear ho2
                go_loopg [16] (40000 : Nat) (fun g s16 wr => ∃ (k : Int), s16 = .int .i64 k ∧ o ≤ k ∧ 40000 - k ≤ (g : Int) ∧ k ≤ 38000 ∧ Hid (∃ q, wr = w2.drewN q))
                case atStart => exact ⟨o, rfl, by omega, by omega, by omega, HW3.out⟩
                case round =>
                  obtain ⟨k, rfl, k0, kg, k1, HW⟩ := hrel
                  by_cases hk : k < 36525
                  · have KV := Lib.hid (work_is k l p b off cap len false (by omega) (by omega) HH.out (HN.out k k0 hk))
                    have HS4 := Lib.hid (HS2.out.drew HW.out)
                    go_wp2_with fail
                    refine (KV.out _ HS4.out).mono ?_
                    rintro _ w4 ⟨rfl, hq⟩
                    have HW4 := Lib.hid (drew3 HW.out hq)
                    clear hq HW HS4
                    go_wp2
                    go_roundg (40000 - (k + 1)).toNat
                    case measure => omega
                    case rel => exact ⟨k + 1, rfl, by omega, by omega, by omega, HW4.out⟩
                  · go_wp2
                    go_ret
                    exact ⟨rfl, Below.drew3 HB2.out HW.out⟩
            · by_cases h5 : how = 2
              · subst h5
                clear h4
                obtain ⟨o, ho⟩ : ∃ o, o = day + days + 3 := ⟨_, rfl⟩
                have eo : ovr day days 2 = o := by rw [ho]; unfold ovr; rw [if_pos rfl]
                have o0 : 0 ≤ o := by omega
                have o1 : o ≤ 37600 := by omega
                have hs := DL_spec l o
                have hn : ∀ k, o ≤ k → k < DL l o → WK k l = false := fun k => DL_none l o k
                have h2 := DL_200 (l := l) HL1.out o
                obtain ⟨r, hr⟩ : ∃ r, r = DL l o := ⟨_, rfl⟩
                rw [← hr] at hs hn h2
                have hr1 := DL_le l o
                rw [← hr] at hr1
                have HR := Lib.hid hr
                have ho2 : day + days + 3 = o := ho.symm
                by_cases hlt : r < 36525
                · obtain ⟨s0, _, _, s1⟩ := hs (by rcases (show o ≤ 36525 ∨ 36525 ≤ o by omega) with z | z; exact z; have := DL_end (l := l) z; omega)
                  have KD : Hid (∀ w, Sl w p b off len l → Calls Tryd.prog 25 #[.int .i64 day, .int .i64 days, .int .i64 2, .slice p len cap] w fun e w' => e = .returned (.tuple #[.int .i64 r, .int .i64 0]) ∧ ∃ q, w' = w.drewN q) := dead_is day days 2 l p b off cap len r 0 (by omega) (by omega) ⟨by omega, by omega, by decide, HH.out⟩ (by rw [eo]; unfold wfV; rw [← HR.out, if_pos hlt]) (by rw [eo]; unfold wfE; rw [← HR.out, if_pos hlt])
                  have KW := Lib.hid (work_is r l p b off cap len true (by omega) (by omega) HH.out (s1 hlt))
                  have HN := Lib.hid hn
                  clear hs hn hr ho eo s1
                  go_enter Tryd.func9, Tryd.ntmps9
                  go_wp2_with fail
                  refine KH.out.mono ?_
                  rintro _ w1 ⟨rfl, hb1⟩
                  have HB1 := Lib.hid hb1
                  have HS1 := Lib.hid (HS.out.below hb1)
                  clear hb1
                  go_wp2_with fail
                  refine (KF.out true HF.out _).mono ?_
                  rintro _ w' ⟨rfl, rfl⟩
                  go_wp2_with fail
                  refine (KR.out true HH.out _ HS1.out).mono ?_
                  rintro _ w2 ⟨rfl, hq⟩
                  have HB2 := Lib.hid (Below.drew3 HB1.out hq)
                  have HS2 := Lib.hid (HS1.out.drew hq)
                  clear hq HB1 HS1
                  go_wp2_with fail
                  refine (KD.out _ HS2.out).mono ?_
                  rintro _ w3 ⟨rfl, hq⟩
                  have HW3 := Lib.hid hq
                  have HS3 := Lib.hid (HS2.out.drew hq)
                  clear hq
                  go_wp2_with fail
                  refine (KW.out _ HS3.out).mono ?_
                  rintro _ w4 ⟨rfl, hq⟩
                  have HW5 := Lib.hid (drew3 HW3.out hq)
                  clear hq HW3 HS3
                  go_wp2_with fail
                  clear ho2
                  go_loopg [16] (40000 : Nat) (fun g s16 wr => ∃ (k : Int), s16 = .int .i64 k ∧ o ≤ k ∧ 40000 - k ≤ (g : Int) ∧ k ≤ 38000 ∧ Hid (∃ q, wr = w2.drewN q))
                  case atStart => exact ⟨o, rfl, by omega, by omega, by omega, HW5.out⟩
                  case round =>
                    obtain ⟨k, rfl, k0, kg, k1, HW⟩ := hrel
                    by_cases hk : k < r
                    · have KV := Lib.hid (work_is k l p b off cap len false (by omega) (by omega) HH.out (HN.out k k0 hk))
                      have HS4 := Lib.hid (HS2.out.drew HW.out)
                      go_wp2_with fail
                      refine (KV.out _ HS4.out).mono ?_
                      rintro _ w4 ⟨rfl, hq⟩
                      have HW4 := Lib.hid (drew3 HW.out hq)
                      clear hq HW HS4
                      go_wp2
                      go_roundg (40000 - (k + 1)).toNat
                      case measure => omega
                      case rel => exact ⟨k + 1, rfl, by omega, by omega, by omega, HW4.out⟩
                    · go_wp2
                      go_ret
                      exact ⟨rfl, Below.drew3 HB2.out HW.out⟩
                · have hr3 : r = 36525 := by omega
                  have KD : Hid (∀ w, Sl w p b off len l → Calls Tryd.prog 25 #[.int .i64 day, .int .i64 days, .int .i64 2, .slice p len cap] w fun e w' => e = .returned (.tuple #[.int .i64 0, .int .i64 3]) ∧ ∃ q, w' = w.drewN q) := dead_is day days 2 l p b off cap len 0 3 (by omega) (by omega) ⟨by omega, by omega, by decide, HH.out⟩ (by rw [eo]; unfold wfV; rw [← HR.out, if_neg hlt]) (by rw [eo]; unfold wfE; rw [← HR.out, if_neg hlt])
                  rw [hr3] at hn
                  have HN := Lib.hid hn
                  clear hs hn hr ho eo hr3 h2 hr1 hlt HR
                  go_enter Tryd.func9, Tryd.ntmps9
                  go_wp2_with fail
                  refine KH.out.mono ?_
                  rintro _ w1 ⟨rfl, hb1⟩
                  have HB1 := Lib.hid hb1
                  have HS1 := Lib.hid (HS.out.below hb1)
                  clear hb1
                  go_wp2_with fail
                  refine (KF.out true HF.out _).mono ?_
                  rintro _ w' ⟨rfl, rfl⟩
                  go_wp2_with fail
                  refine (KR.out true HH.out _ HS1.out).mono ?_
                  rintro _ w2 ⟨rfl, hq⟩
                  have HB2 := Lib.hid (Below.drew3 HB1.out hq)
                  have HS2 := Lib.hid (HS1.out.drew hq)
                  clear hq HB1 HS1
                  go_wp2_with fail
                  refine (KD.out _ HS2.out).mono ?_
                  rintro _ w3 ⟨rfl, hq⟩
                  have HW3 := Lib.hid hq
                  clear hq
                  go_wp2_with fail
                  clear ho2
                  go_loopg [16] (40000 : Nat) (fun g s16 wr => ∃ (k : Int), s16 = .int .i64 k ∧ o ≤ k ∧ 40000 - k ≤ (g : Int) ∧ k ≤ 38000 ∧ Hid (∃ q, wr = w2.drewN q))
                  case atStart => exact ⟨o, rfl, by omega, by omega, by omega, HW3.out⟩
                  case round =>
                    obtain ⟨k, rfl, k0, kg, k1, HW⟩ := hrel
                    by_cases hk : k < 36525
                    · have KV := Lib.hid (work_is k l p b off cap len false (by omega) (by omega) HH.out (HN.out k k0 hk))
                      have HS4 := Lib.hid (HS2.out.drew HW.out)
                      go_wp2_with fail
                      refine (KV.out _ HS4.out).mono ?_
                      rintro _ w4 ⟨rfl, hq⟩
                      have HW4 := Lib.hid (drew3 HW.out hq)
                      clear hq HW HS4
                      go_wp2
                      go_roundg (40000 - (k + 1)).toNat
                      case measure => omega
                      case rel => exact ⟨k + 1, rfl, by omega, by omega, by omega, HW4.out⟩
                    · go_wp2
                      go_ret
                      exact ⟨rfl, Below.drew3 HB2.out HW.out⟩
              · have a1 : (how == 1) = false := by simpa using h4
                have a2 : (how != 1) = true := by simpa using h4
                have a3 : (how == 2) = false := by simpa using h5
                have a4 : (how != 2) = true := by simpa using h5
                clear h4 h5
                go_enter Tryd.func9, Tryd.ntmps9
                go_wp2_with fail
                refine KH.out.mono ?_
                rintro _ w1 ⟨rfl, hb1⟩
                have HB1 := Lib.hid hb1
                have HS1 := Lib.hid (HS.out.below hb1)
                clear hb1
                go_wp2_with fail
                refine (KF.out true HF.out _).mono ?_
                rintro _ w' ⟨rfl, rfl⟩
                go_wp2_with fail
                refine (KR.out true HH.out _ HS1.out).mono ?_
                rintro _ w2 ⟨rfl, hq⟩
                have HB2 := Lib.hid (Below.drew3 HB1.out hq)
                clear hq HB1 HS1
                go_wp2
                go_ret
                exact ⟨rfl, HB2.out⟩
          · skip
            go_enter Tryd.func9, Tryd.ntmps9
            go_wp2_with fail
            refine KH.out.mono ?_
            rintro _ w1 ⟨rfl, hb1⟩
            have HB1 := Lib.hid hb1
            have HS1 := Lib.hid (HS.out.below hb1)
            clear hb1
            go_wp2_with fail
            refine (KF.out true HF.out _).mono ?_
            rintro _ w' ⟨rfl, rfl⟩
            go_wp2_with fail
            refine (KR.out true HH.out _ HS1.out).mono ?_
            rintro _ w2 ⟨rfl, hq⟩
            have HB2 := Lib.hid (Below.drew3 HB1.out hq)
            clear hq HB1 HS1
            go_wp2
            go_ret
            exact ⟨rfl, HB2.out⟩
        · skip
          go_enter Tryd.func9, Tryd.ntmps9
          go_wp2_with fail
          refine KH.out.mono ?_
          rintro _ w1 ⟨rfl, hb1⟩
          have HB1 := Lib.hid hb1
          have HS1 := Lib.hid (HS.out.below hb1)
          clear hb1
          go_wp2_with fail
          refine (KF.out true HF.out _).mono ?_
          rintro _ w' ⟨rfl, rfl⟩
          go_wp2_with fail
          refine (KR.out true HH.out _ HS1.out).mono ?_
          rintro _ w2 ⟨rfl, hq⟩
          have HB2 := Lib.hid (Below.drew3 HB1.out hq)
          clear hq HB1 HS1
          go_wp2
          go_ret
          exact ⟨rfl, HB2.out⟩
      · skip
        go_enter Tryd.func9, Tryd.ntmps9
        go_wp2_with fail
        refine KH.out.mono ?_
        rintro _ w1 ⟨rfl, hb1⟩
        have HB1 := Lib.hid hb1
        have HS1 := Lib.hid (HS.out.below hb1)
        clear hb1
        go_wp2_with fail
        refine (KF.out true HF.out _).mono ?_
        rintro _ w' ⟨rfl, rfl⟩
        go_wp2_with fail
        refine (KR.out true HH.out _ HS1.out).mono ?_
        rintro _ w2 ⟨rfl, hq⟩
        have HB2 := Lib.hid (Below.drew3 HB1.out hq)
        clear hq HB1 HS1
        go_wp2
        go_ret
        exact ⟨rfl, HB2.out⟩
    · skip
      go_enter Tryd.func9, Tryd.ntmps9
      go_wp2_with fail
      refine KH.out.mono ?_
      rintro _ w1 ⟨rfl, hb1⟩
      have HB1 := Lib.hid hb1
      have HS1 := Lib.hid (HS.out.below hb1)
      clear hb1
      go_wp2_with fail
      refine (KF.out true HF.out _).mono ?_
      rintro _ w' ⟨rfl, rfl⟩
      go_wp2_with fail
      refine (KR.out true HH.out _ HS1.out).mono ?_
      rintro _ w2 ⟨rfl, hq⟩
      have HB2 := Lib.hid (Below.drew3 HB1.out hq)
      clear hq HB1 HS1
      go_wp2
      go_ret
      exact ⟨rfl, HB2.out⟩
end Go.Proofs.YtopngioiboepfaaDoor
