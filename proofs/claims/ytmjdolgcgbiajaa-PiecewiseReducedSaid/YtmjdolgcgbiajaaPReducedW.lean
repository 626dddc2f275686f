/-
  The walk of the law on what results are.
-/
import Derived.Test.YtmjdolgcgbiajaaPLeastW
namespace Go.Proofs.Ytmjdolgcgbiajaa
open Go.RowKit Go.Shelf Pw

theorem redd_at : ∀ {l : List AP}, Redd l → ∀ (k : Nat) (h : k + 1 < l.length), cont (l[k]'(by omega)) l[k + 1] = false
  | [], _, k, h => by simp at h
  | [a], _, k, h => by simp at h
  | a :: b :: t, hr, 0, _ => hr.1
  | a :: b :: t, hr, k + 1, h => redd_at (l := b :: t) hr.2 k (by simpa using h)
theorem rdR_true {l : List RP} (hv : VR l) (hr : Redd (AA l)) : rdR l = true := by
  refine decide_eq_true fun k hk h0 => ?_
  have hk1 : k - 1 < l.length := by omega
  rw [getElem!_pos l k hk, getElem!_pos l (k - 1) hk1]
  have w1 := hv.wl (List.getElem_mem hk1)
  have w2 := hv.wl (List.getElem_mem hk)
  rw [cW_is (liok_wl w1.1 (by omega)) (low_wl w1.1) (low_wl w2.1)]
  have hl : k - 1 + 1 < (AA l).length := by unfold AA; rw [List.length_map]; omega
  have := redd_at hr (k - 1) hl
  unfold AA at this
  simp only [List.getElem_map] at this
  rw [← this]
  congr 2
  simp only [show k - 1 + 1 = k by omega, List.getElem_map]
theorem reduced_true {l : List RP} (hv : VR l) (hr : Redd (AA l)) (p : Option Addr) (b off cap len : Nat) (w : World) (hS : SlP w p b off len l) : Calls Try.prog 31 #[.slice p len cap] w fun e w' => e = .returned (.bool true) ∧ RowKit.Below w.heap.size w w' := by
  have := rreduced_any l p b off cap len w hS fun q hq => (liok_wl (x := q.f) (hv.wl hq).1 (by omega)).is.2.2
  rwa [rdR_true hv hr] at this
set_option maxRecDepth 100000 in
set_option maxHeartbeats 4000000 in
theorem reduced_law (f g : List RP) (pf pg : Option Addr) (bf of cf lf bg og cg lg : Nat) (rn rd : Int) (w : World) (hS : SlP w pf bf of lf f) (hS' : SlP w pg bg og lg g) (hcap : lf ≤ cf) (i1 : In64 rn) (i2 : In64 rd) :
    Calls Try.prog 8 #[.slice pf lf cf, .slice pg lg cg, .agg #[.int .i64 rn, .int .i64 rd]] w fun e w' => e = .returned (.bool true) ∧ RowKit.Below w.heap.size w w' := by
  have HB0 : Hid (RowKit.Below w.heap.size w w) := Below.refl _ _
  have KB := Lib.hid (fun w' (h : RowKit.Below w.heap.size w w') => both_any f g pf pg bf of cf lf bg og cg lg w' (hS.below h) (hS'.below h))
  have KR := Lib.hid (fun w' => rvalid_any rn rd w' i1.1 i1.2 i2.1 i2.2)
  cases hb : bothR f g with
  | false =>
    rw [hb] at KB
    clear hS hS' hb hcap i1 i2
    go_enter Try.func8, Try.ntmps8
    go_wp2_with fail
    obtain ⟨hb, hbx⟩ : RowKit.Below w.heap.size w (w.alloc (.cells #[.int .i64 rn, .int .i64 rd] 24)) ∧ NmB (w.alloc (.cells #[.int .i64 rn, .int .i64 rd] 24)) (w.heap.size) rn rd := by
      refine ⟨(by repeat' (first | (with_reducible refine Below.setCell ?_ ?_ _) | (with_reducible refine Below.alloc ?_ ?_ _) | (with_reducible refine Below.drew ?_) | (with_reducible refine below_drewN ?_ _) | (with_reducible exact Below.refl _ _) | omega | (simp; done) | (simp; omega))), ?_⟩
      · have h := NmB.new w rn rd
        exact h
    obtain ⟨w1, hw1⟩ : ∃ w1, w1 = (w.alloc (.cells #[.int .i64 rn, .int .i64 rd] 24)) := ⟨_, rfl⟩
    rw [← hw1] at hb hbx ⊢
    clear hw1
    have kHR := hbx
    have HB1 := Lib.hid (HB0.out.trans (hb.mono HB0.out.size))
    clear hb HB0
    have HR := Lib.hid kHR
    clear kHR
    refine (head_any _).mono ?_
    rintro _ w2 ⟨rfl, hb⟩
    have HB2 := Lib.hid (HB1.out.trans (hb.mono HB1.out.size))
    replace HR := Lib.hid (HR.out.below hb)
    clear hb HB1
    go_wp2_with fail
    refine (KB.out _ HB2.out).mono ?_
    rintro _ w3 ⟨rfl, hb⟩
    have HB3 := Lib.hid (HB2.out.trans (hb.mono HB2.out.size))
    replace HR := Lib.hid (HR.out.below hb)
    clear hb HB2
    go_wp2
    go_ret
    exact ⟨by first | rfl | (simp; done) | (simp; omega), HB3.out⟩
  | true =>
    rw [hb] at KB
    obtain ⟨hf, hg⟩ := both_true hb
    cases hr : vld rn rd with
    | false =>
      rw [hr] at KR
      clear hS hS' hb hr hf hg hcap i1 i2
      go_enter Try.func8, Try.ntmps8
      go_wp2_with fail
      obtain ⟨hb, hbx⟩ : RowKit.Below w.heap.size w (w.alloc (.cells #[.int .i64 rn, .int .i64 rd] 24)) ∧ NmB (w.alloc (.cells #[.int .i64 rn, .int .i64 rd] 24)) (w.heap.size) rn rd := by
        refine ⟨(by repeat' (first | (with_reducible refine Below.setCell ?_ ?_ _) | (with_reducible refine Below.alloc ?_ ?_ _) | (with_reducible refine Below.drew ?_) | (with_reducible refine below_drewN ?_ _) | (with_reducible exact Below.refl _ _) | omega | (simp; done) | (simp; omega))), ?_⟩
        · have h := NmB.new w rn rd
          exact h
      obtain ⟨w1, hw1⟩ : ∃ w1, w1 = (w.alloc (.cells #[.int .i64 rn, .int .i64 rd] 24)) := ⟨_, rfl⟩
      rw [← hw1] at hb hbx ⊢
      clear hw1
      have kHR := hbx
      have HB1 := Lib.hid (HB0.out.trans (hb.mono HB0.out.size))
      clear hb HB0
      have HR := Lib.hid kHR
      clear kHR
      refine (head_any _).mono ?_
      rintro _ w2 ⟨rfl, hb⟩
      have HB2 := Lib.hid (HB1.out.trans (hb.mono HB1.out.size))
      replace HR := Lib.hid (HR.out.below hb)
      clear hb HB1
      go_wp2_with fail
      refine (KB.out _ HB2.out).mono ?_
      rintro _ w3 ⟨rfl, hb⟩
      have HB3 := Lib.hid (HB2.out.trans (hb.mono HB2.out.size))
      replace HR := Lib.hid (HR.out.below hb)
      clear hb HB2
      obtain ⟨m0, m1⟩ := HR.out.all
      go_wp2_with fail
      refine (KR.out _).mono ?_
      rintro _ w4 ⟨rfl, hb⟩
      have HB4 := Lib.hid (HB3.out.trans (hb.mono HB3.out.size))
      replace HR := Lib.hid (HR.out.below hb)
      clear hb HB3
      clear m0 m1
      go_wp2
      go_ret
      exact ⟨by first | rfl | (simp; done) | (simp; omega), HB4.out⟩
    | true =>
      rw [hr] at KR
      have KA := Lib.hid (fun w' (h : RowKit.Below w.heap.size w w') => add_any f g pf pg bf of cf lf bg og cg lg w' (hS.below h) (hS'.below h))
      rw [show opR f g (addR f g) = addR f g from if_pos ⟨hf, hg⟩] at KA
      have KL := Lib.hid (fun w' (h : RowKit.Below w.heap.size w w') => least_any f g pf pg bf of cf lf bg og cg lg w' (hS.below h) (hS'.below h))
      rw [show opR f g (leastR f g) = leastR f g from if_pos ⟨hf, hg⟩] at KL
      have KS := Lib.hid (fun w' (h : RowKit.Below w.heap.size w w') => scale_any f pf bf of cf lf rn rd w' (hS.below h) hcap i1 i2)
      rw [show scaV f rn rd = scaleR f rn rd from if_pos ⟨hf, hr⟩] at KS
      clear hcap i1 i2
      rcases Decidable.em ((addR f g).2 = 0) with he1 | he1
      · skip
        obtain ⟨h1, h2, _⟩ := addR_ok (g := g) hf he1
        rw [he1] at KA
        generalize (addR f g).1 = S1 at *
        have HV1 := Lib.hid (vR_iff.2 h1)
        have Hv1 := Lib.hid h1
        have HRd1 := Lib.hid h2
        clear h1 h2 he1
        rcases Decidable.em ((scaleR f rn rd).2 = 0) with he2 | he2
        · skip
          obtain ⟨h1, h2, _⟩ := scaleR_ok hf he2
          rw [he2] at KS
          generalize (scaleR f rn rd).1 = S2 at *
          have HV2 := Lib.hid (vR_iff.2 h1)
          have Hv2 := Lib.hid h1
          have HRd2 := Lib.hid h2
          clear h1 h2 he2
          rcases Decidable.em ((leastR f g).2 = 0) with he3 | he3
          · skip
            obtain ⟨h1, h2, _⟩ := leastR_ok (g := g) hf he3
            rw [he3] at KL
            generalize (leastR f g).1 = S3 at *
            have HV3 := Lib.hid (vR_iff.2 h1)
            have Hv3 := Lib.hid h1
            have HRd3 := Lib.hid h2
            clear h1 h2 he3
            clear hS hS' hf hg hb hr
            go_enter Try.func8, Try.ntmps8
            go_wp2_with fail
            obtain ⟨hb, hbx⟩ : RowKit.Below w.heap.size w (w.alloc (.cells #[.int .i64 rn, .int .i64 rd] 24)) ∧ NmB (w.alloc (.cells #[.int .i64 rn, .int .i64 rd] 24)) (w.heap.size) rn rd := by
              refine ⟨(by repeat' (first | (with_reducible refine Below.setCell ?_ ?_ _) | (with_reducible refine Below.alloc ?_ ?_ _) | (with_reducible refine Below.drew ?_) | (with_reducible refine below_drewN ?_ _) | (with_reducible exact Below.refl _ _) | omega | (simp; done) | (simp; omega))), ?_⟩
              · have h := NmB.new w rn rd
                exact h
            obtain ⟨w1, hw1⟩ : ∃ w1, w1 = (w.alloc (.cells #[.int .i64 rn, .int .i64 rd] 24)) := ⟨_, rfl⟩
            rw [← hw1] at hb hbx ⊢
            clear hw1
            have kHR := hbx
            have HB1 := Lib.hid (HB0.out.trans (hb.mono HB0.out.size))
            clear hb HB0
            have HR := Lib.hid kHR
            clear kHR
            refine (head_any _).mono ?_
            rintro _ w2 ⟨rfl, hb⟩
            have HB2 := Lib.hid (HB1.out.trans (hb.mono HB1.out.size))
            replace HR := Lib.hid (HR.out.below hb)
            clear hb HB1
            go_wp2_with fail
            refine (KB.out _ HB2.out).mono ?_
            rintro _ w3 ⟨rfl, hb⟩
            have HB3 := Lib.hid (HB2.out.trans (hb.mono HB2.out.size))
            replace HR := Lib.hid (HR.out.below hb)
            clear hb HB2
            obtain ⟨m0, m1⟩ := HR.out.all
            go_wp2_with fail
            refine (KR.out _).mono ?_
            rintro _ w4 ⟨rfl, hb⟩
            have HB4 := Lib.hid (HB3.out.trans (hb.mono HB3.out.size))
            replace HR := Lib.hid (HR.out.below hb)
            clear hb HB3
            clear m0 m1
            go_wp2_with fail
            refine (KA.out _ HB4.out).mono ?_
            rintro _ w5 ⟨p_HS1, b_HS1, o_HS1, n_HS1, c_HS1, rfl, hs, hb⟩
            have HB5 := Lib.hid (HB4.out.trans (hb.mono HB4.out.size))
            replace HR := Lib.hid (HR.out.below hb)
            clear hb HB4
            have HS1 := Lib.hid hs
            clear hs
            obtain ⟨m0, m1⟩ := HR.out.all
            go_wp2_with fail
            refine (KS.out _ HB5.out).mono ?_
            rintro _ w6 ⟨p_HS2, b_HS2, o_HS2, n_HS2, c_HS2, rfl, hs, hb⟩
            have HB6 := Lib.hid (HB5.out.trans (hb.mono HB5.out.size))
            replace HR := Lib.hid (HR.out.below hb)
            replace HS1 := Lib.hid (HS1.out.below hb)
            clear hb HB5
            have HS2 := Lib.hid hs
            clear hs
            clear m0 m1
            go_wp2_with fail
            refine (KL.out _ HB6.out).mono ?_
            rintro _ w7 ⟨p_HS3, b_HS3, o_HS3, n_HS3, c_HS3, rfl, hs, hb⟩
            have HB7 := Lib.hid (HB6.out.trans (hb.mono HB6.out.size))
            replace HR := Lib.hid (HR.out.below hb)
            replace HS1 := Lib.hid (HS1.out.below hb)
            replace HS2 := Lib.hid (HS2.out.below hb)
            clear hb HB6
            have HS3 := Lib.hid hs
            clear hs
            go_wp2_with fail
            refine (valid_b S1 true HV1.out _ _ _ _ _ _ HS1.out).mono ?_
            rintro _ w8 ⟨rfl, hb⟩
            have HB8 := Lib.hid (HB7.out.trans (hb.mono HB7.out.size))
            replace HR := Lib.hid (HR.out.below hb)
            replace HS1 := Lib.hid (HS1.out.below hb)
            replace HS2 := Lib.hid (HS2.out.below hb)
            replace HS3 := Lib.hid (HS3.out.below hb)
            clear hb HB7
            go_wp2_with fail
            refine (rvalid_b S1 true HV1.out _ _ _ _ _ _ HS1.out).mono ?_
            rintro _ w9 ⟨rfl, hb⟩
            have HB9 := Lib.hid (HB8.out.trans (hb.mono HB8.out.size))
            replace HR := Lib.hid (HR.out.below hb)
            replace HS1 := Lib.hid (HS1.out.below hb)
            replace HS2 := Lib.hid (HS2.out.below hb)
            replace HS3 := Lib.hid (HS3.out.below hb)
            clear hb HB8
            go_wp2_with fail
            refine (reduced_true Hv1.out HRd1.out _ _ _ _ _ _ HS1.out).mono ?_
            rintro _ w10 ⟨rfl, hb⟩
            have HB10 := Lib.hid (HB9.out.trans (hb.mono HB9.out.size))
            replace HR := Lib.hid (HR.out.below hb)
            replace HS1 := Lib.hid (HS1.out.below hb)
            replace HS2 := Lib.hid (HS2.out.below hb)
            replace HS3 := Lib.hid (HS3.out.below hb)
            clear hb HB9
            go_wp2_with fail
            refine (valid_b S2 true HV2.out _ _ _ _ _ _ HS2.out).mono ?_
            rintro _ w11 ⟨rfl, hb⟩
            have HB11 := Lib.hid (HB10.out.trans (hb.mono HB10.out.size))
            replace HR := Lib.hid (HR.out.below hb)
            replace HS1 := Lib.hid (HS1.out.below hb)
            replace HS2 := Lib.hid (HS2.out.below hb)
            replace HS3 := Lib.hid (HS3.out.below hb)
            clear hb HB10
            go_wp2_with fail
            refine (rvalid_b S2 true HV2.out _ _ _ _ _ _ HS2.out).mono ?_
            rintro _ w12 ⟨rfl, hb⟩
            have HB12 := Lib.hid (HB11.out.trans (hb.mono HB11.out.size))
            replace HR := Lib.hid (HR.out.below hb)
            replace HS1 := Lib.hid (HS1.out.below hb)
            replace HS2 := Lib.hid (HS2.out.below hb)
            replace HS3 := Lib.hid (HS3.out.below hb)
            clear hb HB11
            go_wp2_with fail
            refine (reduced_true Hv2.out HRd2.out _ _ _ _ _ _ HS2.out).mono ?_
            rintro _ w13 ⟨rfl, hb⟩
            have HB13 := Lib.hid (HB12.out.trans (hb.mono HB12.out.size))
            replace HR := Lib.hid (HR.out.below hb)
            replace HS1 := Lib.hid (HS1.out.below hb)
            replace HS2 := Lib.hid (HS2.out.below hb)
            replace HS3 := Lib.hid (HS3.out.below hb)
            clear hb HB12
            go_wp2_with fail
            refine (valid_b S3 true HV3.out _ _ _ _ _ _ HS3.out).mono ?_
            rintro _ w14 ⟨rfl, hb⟩
            have HB14 := Lib.hid (HB13.out.trans (hb.mono HB13.out.size))
            replace HR := Lib.hid (HR.out.below hb)
            replace HS1 := Lib.hid (HS1.out.below hb)
            replace HS2 := Lib.hid (HS2.out.below hb)
            replace HS3 := Lib.hid (HS3.out.below hb)
            clear hb HB13
            go_wp2_with fail
            refine (rvalid_b S3 true HV3.out _ _ _ _ _ _ HS3.out).mono ?_
            rintro _ w15 ⟨rfl, hb⟩
            have HB15 := Lib.hid (HB14.out.trans (hb.mono HB14.out.size))
            replace HR := Lib.hid (HR.out.below hb)
            replace HS1 := Lib.hid (HS1.out.below hb)
            replace HS2 := Lib.hid (HS2.out.below hb)
            replace HS3 := Lib.hid (HS3.out.below hb)
            clear hb HB14
            go_wp2_with fail
            refine (reduced_true Hv3.out HRd3.out _ _ _ _ _ _ HS3.out).mono ?_
            rintro _ w16 ⟨rfl, hb⟩
            have HB16 := Lib.hid (HB15.out.trans (hb.mono HB15.out.size))
            replace HR := Lib.hid (HR.out.below hb)
            replace HS1 := Lib.hid (HS1.out.below hb)
            replace HS2 := Lib.hid (HS2.out.below hb)
            replace HS3 := Lib.hid (HS3.out.below hb)
            clear hb HB15
            go_wp2
            go_ret
            exact ⟨by first | rfl | (simp; done) | (simp; omega), HB16.out⟩
          · skip
            generalize (leastR f g).2 = e3 at *
            clear hS hS' hf hg hb hr
            go_enter Try.func8, Try.ntmps8
            go_wp2_with fail
            obtain ⟨hb, hbx⟩ : RowKit.Below w.heap.size w (w.alloc (.cells #[.int .i64 rn, .int .i64 rd] 24)) ∧ NmB (w.alloc (.cells #[.int .i64 rn, .int .i64 rd] 24)) (w.heap.size) rn rd := by
              refine ⟨(by repeat' (first | (with_reducible refine Below.setCell ?_ ?_ _) | (with_reducible refine Below.alloc ?_ ?_ _) | (with_reducible refine Below.drew ?_) | (with_reducible refine below_drewN ?_ _) | (with_reducible exact Below.refl _ _) | omega | (simp; done) | (simp; omega))), ?_⟩
              · have h := NmB.new w rn rd
                exact h
            obtain ⟨w1, hw1⟩ : ∃ w1, w1 = (w.alloc (.cells #[.int .i64 rn, .int .i64 rd] 24)) := ⟨_, rfl⟩
            rw [← hw1] at hb hbx ⊢
            clear hw1
            have kHR := hbx
            have HB1 := Lib.hid (HB0.out.trans (hb.mono HB0.out.size))
            clear hb HB0
            have HR := Lib.hid kHR
            clear kHR
            refine (head_any _).mono ?_
            rintro _ w2 ⟨rfl, hb⟩
            have HB2 := Lib.hid (HB1.out.trans (hb.mono HB1.out.size))
            replace HR := Lib.hid (HR.out.below hb)
            clear hb HB1
            go_wp2_with fail
            refine (KB.out _ HB2.out).mono ?_
            rintro _ w3 ⟨rfl, hb⟩
            have HB3 := Lib.hid (HB2.out.trans (hb.mono HB2.out.size))
            replace HR := Lib.hid (HR.out.below hb)
            clear hb HB2
            obtain ⟨m0, m1⟩ := HR.out.all
            go_wp2_with fail
            refine (KR.out _).mono ?_
            rintro _ w4 ⟨rfl, hb⟩
            have HB4 := Lib.hid (HB3.out.trans (hb.mono HB3.out.size))
            replace HR := Lib.hid (HR.out.below hb)
            clear hb HB3
            clear m0 m1
            go_wp2_with fail
            refine (KA.out _ HB4.out).mono ?_
            rintro _ w5 ⟨p_HS1, b_HS1, o_HS1, n_HS1, c_HS1, rfl, hs, hb⟩
            have HB5 := Lib.hid (HB4.out.trans (hb.mono HB4.out.size))
            replace HR := Lib.hid (HR.out.below hb)
            clear hb HB4
            have HS1 := Lib.hid hs
            clear hs
            obtain ⟨m0, m1⟩ := HR.out.all
            go_wp2_with fail
            refine (KS.out _ HB5.out).mono ?_
            rintro _ w6 ⟨p_HS2, b_HS2, o_HS2, n_HS2, c_HS2, rfl, hs, hb⟩
            have HB6 := Lib.hid (HB5.out.trans (hb.mono HB5.out.size))
            replace HR := Lib.hid (HR.out.below hb)
            replace HS1 := Lib.hid (HS1.out.below hb)
            clear hb HB5
            have HS2 := Lib.hid hs
            clear hs
            clear m0 m1
            go_wp2_with fail
            refine (KL.out _ HB6.out).mono ?_
            rintro _ w7 ⟨p_HS3, b_HS3, o_HS3, n_HS3, c_HS3, rfl, hs, hb⟩
            have HB7 := Lib.hid (HB6.out.trans (hb.mono HB6.out.size))
            replace HR := Lib.hid (HR.out.below hb)
            replace HS1 := Lib.hid (HS1.out.below hb)
            replace HS2 := Lib.hid (HS2.out.below hb)
            clear hb HB6
            have HS3 := Lib.hid hs
            clear hs
            go_wp2_with fail
            refine (valid_b S1 true HV1.out _ _ _ _ _ _ HS1.out).mono ?_
            rintro _ w8 ⟨rfl, hb⟩
            have HB8 := Lib.hid (HB7.out.trans (hb.mono HB7.out.size))
            replace HR := Lib.hid (HR.out.below hb)
            replace HS1 := Lib.hid (HS1.out.below hb)
            replace HS2 := Lib.hid (HS2.out.below hb)
            replace HS3 := Lib.hid (HS3.out.below hb)
            clear hb HB7
            go_wp2_with fail
            refine (rvalid_b S1 true HV1.out _ _ _ _ _ _ HS1.out).mono ?_
            rintro _ w9 ⟨rfl, hb⟩
            have HB9 := Lib.hid (HB8.out.trans (hb.mono HB8.out.size))
            replace HR := Lib.hid (HR.out.below hb)
            replace HS1 := Lib.hid (HS1.out.below hb)
            replace HS2 := Lib.hid (HS2.out.below hb)
            replace HS3 := Lib.hid (HS3.out.below hb)
            clear hb HB8
            go_wp2_with fail
            refine (reduced_true Hv1.out HRd1.out _ _ _ _ _ _ HS1.out).mono ?_
            rintro _ w10 ⟨rfl, hb⟩
            have HB10 := Lib.hid (HB9.out.trans (hb.mono HB9.out.size))
            replace HR := Lib.hid (HR.out.below hb)
            replace HS1 := Lib.hid (HS1.out.below hb)
            replace HS2 := Lib.hid (HS2.out.below hb)
            replace HS3 := Lib.hid (HS3.out.below hb)
            clear hb HB9
            go_wp2_with fail
            refine (valid_b S2 true HV2.out _ _ _ _ _ _ HS2.out).mono ?_
            rintro _ w11 ⟨rfl, hb⟩
            have HB11 := Lib.hid (HB10.out.trans (hb.mono HB10.out.size))
            replace HR := Lib.hid (HR.out.below hb)
            replace HS1 := Lib.hid (HS1.out.below hb)
            replace HS2 := Lib.hid (HS2.out.below hb)
            replace HS3 := Lib.hid (HS3.out.below hb)
            clear hb HB10
            go_wp2_with fail
            refine (rvalid_b S2 true HV2.out _ _ _ _ _ _ HS2.out).mono ?_
            rintro _ w12 ⟨rfl, hb⟩
            have HB12 := Lib.hid (HB11.out.trans (hb.mono HB11.out.size))
            replace HR := Lib.hid (HR.out.below hb)
            replace HS1 := Lib.hid (HS1.out.below hb)
            replace HS2 := Lib.hid (HS2.out.below hb)
            replace HS3 := Lib.hid (HS3.out.below hb)
            clear hb HB11
            go_wp2_with fail
            refine (reduced_true Hv2.out HRd2.out _ _ _ _ _ _ HS2.out).mono ?_
            rintro _ w13 ⟨rfl, hb⟩
            have HB13 := Lib.hid (HB12.out.trans (hb.mono HB12.out.size))
            replace HR := Lib.hid (HR.out.below hb)
            replace HS1 := Lib.hid (HS1.out.below hb)
            replace HS2 := Lib.hid (HS2.out.below hb)
            replace HS3 := Lib.hid (HS3.out.below hb)
            clear hb HB12
            go_wp2
            go_ret
            exact ⟨by first | rfl | (simp; done) | (simp; omega), HB13.out⟩
        · skip
          generalize (scaleR f rn rd).2 = e2 at *
          rcases Decidable.em ((leastR f g).2 = 0) with he3 | he3
          · skip
            obtain ⟨h1, h2, _⟩ := leastR_ok (g := g) hf he3
            rw [he3] at KL
            generalize (leastR f g).1 = S3 at *
            have HV3 := Lib.hid (vR_iff.2 h1)
            have Hv3 := Lib.hid h1
            have HRd3 := Lib.hid h2
            clear h1 h2 he3
            clear hS hS' hf hg hb hr
            go_enter Try.func8, Try.ntmps8
            go_wp2_with fail
            obtain ⟨hb, hbx⟩ : RowKit.Below w.heap.size w (w.alloc (.cells #[.int .i64 rn, .int .i64 rd] 24)) ∧ NmB (w.alloc (.cells #[.int .i64 rn, .int .i64 rd] 24)) (w.heap.size) rn rd := by
              refine ⟨(by repeat' (first | (with_reducible refine Below.setCell ?_ ?_ _) | (with_reducible refine Below.alloc ?_ ?_ _) | (with_reducible refine Below.drew ?_) | (with_reducible refine below_drewN ?_ _) | (with_reducible exact Below.refl _ _) | omega | (simp; done) | (simp; omega))), ?_⟩
              · have h := NmB.new w rn rd
                exact h
            obtain ⟨w1, hw1⟩ : ∃ w1, w1 = (w.alloc (.cells #[.int .i64 rn, .int .i64 rd] 24)) := ⟨_, rfl⟩
            rw [← hw1] at hb hbx ⊢
            clear hw1
            have kHR := hbx
            have HB1 := Lib.hid (HB0.out.trans (hb.mono HB0.out.size))
            clear hb HB0
            have HR := Lib.hid kHR
            clear kHR
            refine (head_any _).mono ?_
            rintro _ w2 ⟨rfl, hb⟩
            have HB2 := Lib.hid (HB1.out.trans (hb.mono HB1.out.size))
            replace HR := Lib.hid (HR.out.below hb)
            clear hb HB1
            go_wp2_with fail
            refine (KB.out _ HB2.out).mono ?_
            rintro _ w3 ⟨rfl, hb⟩
            have HB3 := Lib.hid (HB2.out.trans (hb.mono HB2.out.size))
            replace HR := Lib.hid (HR.out.below hb)
            clear hb HB2
            obtain ⟨m0, m1⟩ := HR.out.all
            go_wp2_with fail
            refine (KR.out _).mono ?_
            rintro _ w4 ⟨rfl, hb⟩
            have HB4 := Lib.hid (HB3.out.trans (hb.mono HB3.out.size))
            replace HR := Lib.hid (HR.out.below hb)
            clear hb HB3
            clear m0 m1
            go_wp2_with fail
            refine (KA.out _ HB4.out).mono ?_
            rintro _ w5 ⟨p_HS1, b_HS1, o_HS1, n_HS1, c_HS1, rfl, hs, hb⟩
            have HB5 := Lib.hid (HB4.out.trans (hb.mono HB4.out.size))
            replace HR := Lib.hid (HR.out.below hb)
            clear hb HB4
            have HS1 := Lib.hid hs
            clear hs
            obtain ⟨m0, m1⟩ := HR.out.all
            go_wp2_with fail
            refine (KS.out _ HB5.out).mono ?_
            rintro _ w6 ⟨p_HS2, b_HS2, o_HS2, n_HS2, c_HS2, rfl, hs, hb⟩
            have HB6 := Lib.hid (HB5.out.trans (hb.mono HB5.out.size))
            replace HR := Lib.hid (HR.out.below hb)
            replace HS1 := Lib.hid (HS1.out.below hb)
            clear hb HB5
            have HS2 := Lib.hid hs
            clear hs
            clear m0 m1
            go_wp2_with fail
            refine (KL.out _ HB6.out).mono ?_
            rintro _ w7 ⟨p_HS3, b_HS3, o_HS3, n_HS3, c_HS3, rfl, hs, hb⟩
            have HB7 := Lib.hid (HB6.out.trans (hb.mono HB6.out.size))
            replace HR := Lib.hid (HR.out.below hb)
            replace HS1 := Lib.hid (HS1.out.below hb)
            replace HS2 := Lib.hid (HS2.out.below hb)
            clear hb HB6
            have HS3 := Lib.hid hs
            clear hs
            go_wp2_with fail
            refine (valid_b S1 true HV1.out _ _ _ _ _ _ HS1.out).mono ?_
            rintro _ w8 ⟨rfl, hb⟩
            have HB8 := Lib.hid (HB7.out.trans (hb.mono HB7.out.size))
            replace HR := Lib.hid (HR.out.below hb)
            replace HS1 := Lib.hid (HS1.out.below hb)
            replace HS2 := Lib.hid (HS2.out.below hb)
            replace HS3 := Lib.hid (HS3.out.below hb)
            clear hb HB7
            go_wp2_with fail
            refine (rvalid_b S1 true HV1.out _ _ _ _ _ _ HS1.out).mono ?_
            rintro _ w9 ⟨rfl, hb⟩
            have HB9 := Lib.hid (HB8.out.trans (hb.mono HB8.out.size))
            replace HR := Lib.hid (HR.out.below hb)
            replace HS1 := Lib.hid (HS1.out.below hb)
            replace HS2 := Lib.hid (HS2.out.below hb)
            replace HS3 := Lib.hid (HS3.out.below hb)
            clear hb HB8
            go_wp2_with fail
            refine (reduced_true Hv1.out HRd1.out _ _ _ _ _ _ HS1.out).mono ?_
            rintro _ w10 ⟨rfl, hb⟩
            have HB10 := Lib.hid (HB9.out.trans (hb.mono HB9.out.size))
            replace HR := Lib.hid (HR.out.below hb)
            replace HS1 := Lib.hid (HS1.out.below hb)
            replace HS2 := Lib.hid (HS2.out.below hb)
            replace HS3 := Lib.hid (HS3.out.below hb)
            clear hb HB9
            go_wp2_with fail
            refine (valid_b S3 true HV3.out _ _ _ _ _ _ HS3.out).mono ?_
            rintro _ w11 ⟨rfl, hb⟩
            have HB11 := Lib.hid (HB10.out.trans (hb.mono HB10.out.size))
            replace HR := Lib.hid (HR.out.below hb)
            replace HS1 := Lib.hid (HS1.out.below hb)
            replace HS2 := Lib.hid (HS2.out.below hb)
            replace HS3 := Lib.hid (HS3.out.below hb)
            clear hb HB10
            go_wp2_with fail
            refine (rvalid_b S3 true HV3.out _ _ _ _ _ _ HS3.out).mono ?_
            rintro _ w12 ⟨rfl, hb⟩
            have HB12 := Lib.hid (HB11.out.trans (hb.mono HB11.out.size))
            replace HR := Lib.hid (HR.out.below hb)
            replace HS1 := Lib.hid (HS1.out.below hb)
            replace HS2 := Lib.hid (HS2.out.below hb)
            replace HS3 := Lib.hid (HS3.out.below hb)
            clear hb HB11
            go_wp2_with fail
            refine (reduced_true Hv3.out HRd3.out _ _ _ _ _ _ HS3.out).mono ?_
            rintro _ w13 ⟨rfl, hb⟩
            have HB13 := Lib.hid (HB12.out.trans (hb.mono HB12.out.size))
            replace HR := Lib.hid (HR.out.below hb)
            replace HS1 := Lib.hid (HS1.out.below hb)
            replace HS2 := Lib.hid (HS2.out.below hb)
            replace HS3 := Lib.hid (HS3.out.below hb)
            clear hb HB12
            go_wp2
            go_ret
            exact ⟨by first | rfl | (simp; done) | (simp; omega), HB13.out⟩
          · skip
            generalize (leastR f g).2 = e3 at *
            clear hS hS' hf hg hb hr
            go_enter Try.func8, Try.ntmps8
            go_wp2_with fail
            obtain ⟨hb, hbx⟩ : RowKit.Below w.heap.size w (w.alloc (.cells #[.int .i64 rn, .int .i64 rd] 24)) ∧ NmB (w.alloc (.cells #[.int .i64 rn, .int .i64 rd] 24)) (w.heap.size) rn rd := by
              refine ⟨(by repeat' (first | (with_reducible refine Below.setCell ?_ ?_ _) | (with_reducible refine Below.alloc ?_ ?_ _) | (with_reducible refine Below.drew ?_) | (with_reducible refine below_drewN ?_ _) | (with_reducible exact Below.refl _ _) | omega | (simp; done) | (simp; omega))), ?_⟩
              · have h := NmB.new w rn rd
                exact h
            obtain ⟨w1, hw1⟩ : ∃ w1, w1 = (w.alloc (.cells #[.int .i64 rn, .int .i64 rd] 24)) := ⟨_, rfl⟩
            rw [← hw1] at hb hbx ⊢
            clear hw1
            have kHR := hbx
            have HB1 := Lib.hid (HB0.out.trans (hb.mono HB0.out.size))
            clear hb HB0
            have HR := Lib.hid kHR
            clear kHR
            refine (head_any _).mono ?_
            rintro _ w2 ⟨rfl, hb⟩
            have HB2 := Lib.hid (HB1.out.trans (hb.mono HB1.out.size))
            replace HR := Lib.hid (HR.out.below hb)
            clear hb HB1
            go_wp2_with fail
            refine (KB.out _ HB2.out).mono ?_
            rintro _ w3 ⟨rfl, hb⟩
            have HB3 := Lib.hid (HB2.out.trans (hb.mono HB2.out.size))
            replace HR := Lib.hid (HR.out.below hb)
            clear hb HB2
            obtain ⟨m0, m1⟩ := HR.out.all
            go_wp2_with fail
            refine (KR.out _).mono ?_
            rintro _ w4 ⟨rfl, hb⟩
            have HB4 := Lib.hid (HB3.out.trans (hb.mono HB3.out.size))
            replace HR := Lib.hid (HR.out.below hb)
            clear hb HB3
            clear m0 m1
            go_wp2_with fail
            refine (KA.out _ HB4.out).mono ?_
            rintro _ w5 ⟨p_HS1, b_HS1, o_HS1, n_HS1, c_HS1, rfl, hs, hb⟩
            have HB5 := Lib.hid (HB4.out.trans (hb.mono HB4.out.size))
            replace HR := Lib.hid (HR.out.below hb)
            clear hb HB4
            have HS1 := Lib.hid hs
            clear hs
            obtain ⟨m0, m1⟩ := HR.out.all
            go_wp2_with fail
            refine (KS.out _ HB5.out).mono ?_
            rintro _ w6 ⟨p_HS2, b_HS2, o_HS2, n_HS2, c_HS2, rfl, hs, hb⟩
            have HB6 := Lib.hid (HB5.out.trans (hb.mono HB5.out.size))
            replace HR := Lib.hid (HR.out.below hb)
            replace HS1 := Lib.hid (HS1.out.below hb)
            clear hb HB5
            have HS2 := Lib.hid hs
            clear hs
            clear m0 m1
            go_wp2_with fail
            refine (KL.out _ HB6.out).mono ?_
            rintro _ w7 ⟨p_HS3, b_HS3, o_HS3, n_HS3, c_HS3, rfl, hs, hb⟩
            have HB7 := Lib.hid (HB6.out.trans (hb.mono HB6.out.size))
            replace HR := Lib.hid (HR.out.below hb)
            replace HS1 := Lib.hid (HS1.out.below hb)
            replace HS2 := Lib.hid (HS2.out.below hb)
            clear hb HB6
            have HS3 := Lib.hid hs
            clear hs
            go_wp2_with fail
            refine (valid_b S1 true HV1.out _ _ _ _ _ _ HS1.out).mono ?_
            rintro _ w8 ⟨rfl, hb⟩
            have HB8 := Lib.hid (HB7.out.trans (hb.mono HB7.out.size))
            replace HR := Lib.hid (HR.out.below hb)
            replace HS1 := Lib.hid (HS1.out.below hb)
            replace HS2 := Lib.hid (HS2.out.below hb)
            replace HS3 := Lib.hid (HS3.out.below hb)
            clear hb HB7
            go_wp2_with fail
            refine (rvalid_b S1 true HV1.out _ _ _ _ _ _ HS1.out).mono ?_
            rintro _ w9 ⟨rfl, hb⟩
            have HB9 := Lib.hid (HB8.out.trans (hb.mono HB8.out.size))
            replace HR := Lib.hid (HR.out.below hb)
            replace HS1 := Lib.hid (HS1.out.below hb)
            replace HS2 := Lib.hid (HS2.out.below hb)
            replace HS3 := Lib.hid (HS3.out.below hb)
            clear hb HB8
            go_wp2_with fail
            refine (reduced_true Hv1.out HRd1.out _ _ _ _ _ _ HS1.out).mono ?_
            rintro _ w10 ⟨rfl, hb⟩
            have HB10 := Lib.hid (HB9.out.trans (hb.mono HB9.out.size))
            replace HR := Lib.hid (HR.out.below hb)
            replace HS1 := Lib.hid (HS1.out.below hb)
            replace HS2 := Lib.hid (HS2.out.below hb)
            replace HS3 := Lib.hid (HS3.out.below hb)
            clear hb HB9
            go_wp2
            go_ret
            exact ⟨by first | rfl | (simp; done) | (simp; omega), HB10.out⟩
      · skip
        generalize (addR f g).2 = e1 at *
        rcases Decidable.em ((scaleR f rn rd).2 = 0) with he2 | he2
        · skip
          obtain ⟨h1, h2, _⟩ := scaleR_ok hf he2
          rw [he2] at KS
          generalize (scaleR f rn rd).1 = S2 at *
          have HV2 := Lib.hid (vR_iff.2 h1)
          have Hv2 := Lib.hid h1
          have HRd2 := Lib.hid h2
          clear h1 h2 he2
          rcases Decidable.em ((leastR f g).2 = 0) with he3 | he3
          · skip
            obtain ⟨h1, h2, _⟩ := leastR_ok (g := g) hf he3
            rw [he3] at KL
            generalize (leastR f g).1 = S3 at *
            have HV3 := Lib.hid (vR_iff.2 h1)
            have Hv3 := Lib.hid h1
            have HRd3 := Lib.hid h2
            clear h1 h2 he3
            clear hS hS' hf hg hb hr
            go_enter Try.func8, Try.ntmps8
            go_wp2_with fail
            obtain ⟨hb, hbx⟩ : RowKit.Below w.heap.size w (w.alloc (.cells #[.int .i64 rn, .int .i64 rd] 24)) ∧ NmB (w.alloc (.cells #[.int .i64 rn, .int .i64 rd] 24)) (w.heap.size) rn rd := by
              refine ⟨(by repeat' (first | (with_reducible refine Below.setCell ?_ ?_ _) | (with_reducible refine Below.alloc ?_ ?_ _) | (with_reducible refine Below.drew ?_) | (with_reducible refine below_drewN ?_ _) | (with_reducible exact Below.refl _ _) | omega | (simp; done) | (simp; omega))), ?_⟩
              · have h := NmB.new w rn rd
                exact h
            obtain ⟨w1, hw1⟩ : ∃ w1, w1 = (w.alloc (.cells #[.int .i64 rn, .int .i64 rd] 24)) := ⟨_, rfl⟩
            rw [← hw1] at hb hbx ⊢
            clear hw1
            have kHR := hbx
            have HB1 := Lib.hid (HB0.out.trans (hb.mono HB0.out.size))
            clear hb HB0
            have HR := Lib.hid kHR
            clear kHR
            refine (head_any _).mono ?_
            rintro _ w2 ⟨rfl, hb⟩
            have HB2 := Lib.hid (HB1.out.trans (hb.mono HB1.out.size))
            replace HR := Lib.hid (HR.out.below hb)
            clear hb HB1
            go_wp2_with fail
            refine (KB.out _ HB2.out).mono ?_
            rintro _ w3 ⟨rfl, hb⟩
            have HB3 := Lib.hid (HB2.out.trans (hb.mono HB2.out.size))
            replace HR := Lib.hid (HR.out.below hb)
            clear hb HB2
            obtain ⟨m0, m1⟩ := HR.out.all
            go_wp2_with fail
            refine (KR.out _).mono ?_
            rintro _ w4 ⟨rfl, hb⟩
            have HB4 := Lib.hid (HB3.out.trans (hb.mono HB3.out.size))
            replace HR := Lib.hid (HR.out.below hb)
            clear hb HB3
            clear m0 m1
            go_wp2_with fail
            refine (KA.out _ HB4.out).mono ?_
            rintro _ w5 ⟨p_HS1, b_HS1, o_HS1, n_HS1, c_HS1, rfl, hs, hb⟩
            have HB5 := Lib.hid (HB4.out.trans (hb.mono HB4.out.size))
            replace HR := Lib.hid (HR.out.below hb)
            clear hb HB4
            have HS1 := Lib.hid hs
            clear hs
            obtain ⟨m0, m1⟩ := HR.out.all
            go_wp2_with fail
            refine (KS.out _ HB5.out).mono ?_
            rintro _ w6 ⟨p_HS2, b_HS2, o_HS2, n_HS2, c_HS2, rfl, hs, hb⟩
            have HB6 := Lib.hid (HB5.out.trans (hb.mono HB5.out.size))
            replace HR := Lib.hid (HR.out.below hb)
            replace HS1 := Lib.hid (HS1.out.below hb)
            clear hb HB5
            have HS2 := Lib.hid hs
            clear hs
            clear m0 m1
            go_wp2_with fail
            refine (KL.out _ HB6.out).mono ?_
            rintro _ w7 ⟨p_HS3, b_HS3, o_HS3, n_HS3, c_HS3, rfl, hs, hb⟩
            have HB7 := Lib.hid (HB6.out.trans (hb.mono HB6.out.size))
            replace HR := Lib.hid (HR.out.below hb)
            replace HS1 := Lib.hid (HS1.out.below hb)
            replace HS2 := Lib.hid (HS2.out.below hb)
            clear hb HB6
            have HS3 := Lib.hid hs
            clear hs
            go_wp2_with fail
            refine (valid_b S2 true HV2.out _ _ _ _ _ _ HS2.out).mono ?_
            rintro _ w8 ⟨rfl, hb⟩
            have HB8 := Lib.hid (HB7.out.trans (hb.mono HB7.out.size))
            replace HR := Lib.hid (HR.out.below hb)
            replace HS1 := Lib.hid (HS1.out.below hb)
            replace HS2 := Lib.hid (HS2.out.below hb)
            replace HS3 := Lib.hid (HS3.out.below hb)
            clear hb HB7
            go_wp2_with fail
            refine (rvalid_b S2 true HV2.out _ _ _ _ _ _ HS2.out).mono ?_
            rintro _ w9 ⟨rfl, hb⟩
            have HB9 := Lib.hid (HB8.out.trans (hb.mono HB8.out.size))
            replace HR := Lib.hid (HR.out.below hb)
            replace HS1 := Lib.hid (HS1.out.below hb)
            replace HS2 := Lib.hid (HS2.out.below hb)
            replace HS3 := Lib.hid (HS3.out.below hb)
            clear hb HB8
            go_wp2_with fail
            refine (reduced_true Hv2.out HRd2.out _ _ _ _ _ _ HS2.out).mono ?_
            rintro _ w10 ⟨rfl, hb⟩
            have HB10 := Lib.hid (HB9.out.trans (hb.mono HB9.out.size))
            replace HR := Lib.hid (HR.out.below hb)
            replace HS1 := Lib.hid (HS1.out.below hb)
            replace HS2 := Lib.hid (HS2.out.below hb)
            replace HS3 := Lib.hid (HS3.out.below hb)
            clear hb HB9
            go_wp2_with fail
            refine (valid_b S3 true HV3.out _ _ _ _ _ _ HS3.out).mono ?_
            rintro _ w11 ⟨rfl, hb⟩
            have HB11 := Lib.hid (HB10.out.trans (hb.mono HB10.out.size))
            replace HR := Lib.hid (HR.out.below hb)
            replace HS1 := Lib.hid (HS1.out.below hb)
            replace HS2 := Lib.hid (HS2.out.below hb)
            replace HS3 := Lib.hid (HS3.out.below hb)
            clear hb HB10
            go_wp2_with fail
            refine (rvalid_b S3 true HV3.out _ _ _ _ _ _ HS3.out).mono ?_
            rintro _ w12 ⟨rfl, hb⟩
            have HB12 := Lib.hid (HB11.out.trans (hb.mono HB11.out.size))
            replace HR := Lib.hid (HR.out.below hb)
            replace HS1 := Lib.hid (HS1.out.below hb)
            replace HS2 := Lib.hid (HS2.out.below hb)
            replace HS3 := Lib.hid (HS3.out.below hb)
            clear hb HB11
            go_wp2_with fail
            refine (reduced_true Hv3.out HRd3.out _ _ _ _ _ _ HS3.out).mono ?_
            rintro _ w13 ⟨rfl, hb⟩
            have HB13 := Lib.hid (HB12.out.trans (hb.mono HB12.out.size))
            replace HR := Lib.hid (HR.out.below hb)
            replace HS1 := Lib.hid (HS1.out.below hb)
            replace HS2 := Lib.hid (HS2.out.below hb)
            replace HS3 := Lib.hid (HS3.out.below hb)
            clear hb HB12
            go_wp2
            go_ret
            exact ⟨by first | rfl | (simp; done) | (simp; omega), HB13.out⟩
          · skip
            generalize (leastR f g).2 = e3 at *
            clear hS hS' hf hg hb hr
            go_enter Try.func8, Try.ntmps8
            go_wp2_with fail
            obtain ⟨hb, hbx⟩ : RowKit.Below w.heap.size w (w.alloc (.cells #[.int .i64 rn, .int .i64 rd] 24)) ∧ NmB (w.alloc (.cells #[.int .i64 rn, .int .i64 rd] 24)) (w.heap.size) rn rd := by
              refine ⟨(by repeat' (first | (with_reducible refine Below.setCell ?_ ?_ _) | (with_reducible refine Below.alloc ?_ ?_ _) | (with_reducible refine Below.drew ?_) | (with_reducible refine below_drewN ?_ _) | (with_reducible exact Below.refl _ _) | omega | (simp; done) | (simp; omega))), ?_⟩
              · have h := NmB.new w rn rd
                exact h
            obtain ⟨w1, hw1⟩ : ∃ w1, w1 = (w.alloc (.cells #[.int .i64 rn, .int .i64 rd] 24)) := ⟨_, rfl⟩
            rw [← hw1] at hb hbx ⊢
            clear hw1
            have kHR := hbx
            have HB1 := Lib.hid (HB0.out.trans (hb.mono HB0.out.size))
            clear hb HB0
            have HR := Lib.hid kHR
            clear kHR
            refine (head_any _).mono ?_
            rintro _ w2 ⟨rfl, hb⟩
            have HB2 := Lib.hid (HB1.out.trans (hb.mono HB1.out.size))
            replace HR := Lib.hid (HR.out.below hb)
            clear hb HB1
            go_wp2_with fail
            refine (KB.out _ HB2.out).mono ?_
            rintro _ w3 ⟨rfl, hb⟩
            have HB3 := Lib.hid (HB2.out.trans (hb.mono HB2.out.size))
            replace HR := Lib.hid (HR.out.below hb)
            clear hb HB2
            obtain ⟨m0, m1⟩ := HR.out.all
            go_wp2_with fail
            refine (KR.out _).mono ?_
            rintro _ w4 ⟨rfl, hb⟩
            have HB4 := Lib.hid (HB3.out.trans (hb.mono HB3.out.size))
            replace HR := Lib.hid (HR.out.below hb)
            clear hb HB3
            clear m0 m1
            go_wp2_with fail
            refine (KA.out _ HB4.out).mono ?_
            rintro _ w5 ⟨p_HS1, b_HS1, o_HS1, n_HS1, c_HS1, rfl, hs, hb⟩
            have HB5 := Lib.hid (HB4.out.trans (hb.mono HB4.out.size))
            replace HR := Lib.hid (HR.out.below hb)
            clear hb HB4
            have HS1 := Lib.hid hs
            clear hs
            obtain ⟨m0, m1⟩ := HR.out.all
            go_wp2_with fail
            refine (KS.out _ HB5.out).mono ?_
            rintro _ w6 ⟨p_HS2, b_HS2, o_HS2, n_HS2, c_HS2, rfl, hs, hb⟩
            have HB6 := Lib.hid (HB5.out.trans (hb.mono HB5.out.size))
            replace HR := Lib.hid (HR.out.below hb)
            replace HS1 := Lib.hid (HS1.out.below hb)
            clear hb HB5
            have HS2 := Lib.hid hs
            clear hs
            clear m0 m1
            go_wp2_with fail
            refine (KL.out _ HB6.out).mono ?_
            rintro _ w7 ⟨p_HS3, b_HS3, o_HS3, n_HS3, c_HS3, rfl, hs, hb⟩
            have HB7 := Lib.hid (HB6.out.trans (hb.mono HB6.out.size))
            replace HR := Lib.hid (HR.out.below hb)
            replace HS1 := Lib.hid (HS1.out.below hb)
            replace HS2 := Lib.hid (HS2.out.below hb)
            clear hb HB6
            have HS3 := Lib.hid hs
            clear hs
            go_wp2_with fail
            refine (valid_b S2 true HV2.out _ _ _ _ _ _ HS2.out).mono ?_
            rintro _ w8 ⟨rfl, hb⟩
            have HB8 := Lib.hid (HB7.out.trans (hb.mono HB7.out.size))
            replace HR := Lib.hid (HR.out.below hb)
            replace HS1 := Lib.hid (HS1.out.below hb)
            replace HS2 := Lib.hid (HS2.out.below hb)
            replace HS3 := Lib.hid (HS3.out.below hb)
            clear hb HB7
            go_wp2_with fail
            refine (rvalid_b S2 true HV2.out _ _ _ _ _ _ HS2.out).mono ?_
            rintro _ w9 ⟨rfl, hb⟩
            have HB9 := Lib.hid (HB8.out.trans (hb.mono HB8.out.size))
            replace HR := Lib.hid (HR.out.below hb)
            replace HS1 := Lib.hid (HS1.out.below hb)
            replace HS2 := Lib.hid (HS2.out.below hb)
            replace HS3 := Lib.hid (HS3.out.below hb)
            clear hb HB8
            go_wp2_with fail
            refine (reduced_true Hv2.out HRd2.out _ _ _ _ _ _ HS2.out).mono ?_
            rintro _ w10 ⟨rfl, hb⟩
            have HB10 := Lib.hid (HB9.out.trans (hb.mono HB9.out.size))
            replace HR := Lib.hid (HR.out.below hb)
            replace HS1 := Lib.hid (HS1.out.below hb)
            replace HS2 := Lib.hid (HS2.out.below hb)
            replace HS3 := Lib.hid (HS3.out.below hb)
            clear hb HB9
            go_wp2
            go_ret
            exact ⟨by first | rfl | (simp; done) | (simp; omega), HB10.out⟩
        · skip
          generalize (scaleR f rn rd).2 = e2 at *
          rcases Decidable.em ((leastR f g).2 = 0) with he3 | he3
          · skip
            obtain ⟨h1, h2, _⟩ := leastR_ok (g := g) hf he3
            rw [he3] at KL
            generalize (leastR f g).1 = S3 at *
            have HV3 := Lib.hid (vR_iff.2 h1)
            have Hv3 := Lib.hid h1
            have HRd3 := Lib.hid h2
            clear h1 h2 he3
            clear hS hS' hf hg hb hr
            go_enter Try.func8, Try.ntmps8
            go_wp2_with fail
            obtain ⟨hb, hbx⟩ : RowKit.Below w.heap.size w (w.alloc (.cells #[.int .i64 rn, .int .i64 rd] 24)) ∧ NmB (w.alloc (.cells #[.int .i64 rn, .int .i64 rd] 24)) (w.heap.size) rn rd := by
              refine ⟨(by repeat' (first | (with_reducible refine Below.setCell ?_ ?_ _) | (with_reducible refine Below.alloc ?_ ?_ _) | (with_reducible refine Below.drew ?_) | (with_reducible refine below_drewN ?_ _) | (with_reducible exact Below.refl _ _) | omega | (simp; done) | (simp; omega))), ?_⟩
              · have h := NmB.new w rn rd
                exact h
            obtain ⟨w1, hw1⟩ : ∃ w1, w1 = (w.alloc (.cells #[.int .i64 rn, .int .i64 rd] 24)) := ⟨_, rfl⟩
            rw [← hw1] at hb hbx ⊢
            clear hw1
            have kHR := hbx
            have HB1 := Lib.hid (HB0.out.trans (hb.mono HB0.out.size))
            clear hb HB0
            have HR := Lib.hid kHR
            clear kHR
            refine (head_any _).mono ?_
            rintro _ w2 ⟨rfl, hb⟩
            have HB2 := Lib.hid (HB1.out.trans (hb.mono HB1.out.size))
            replace HR := Lib.hid (HR.out.below hb)
            clear hb HB1
            go_wp2_with fail
            refine (KB.out _ HB2.out).mono ?_
            rintro _ w3 ⟨rfl, hb⟩
            have HB3 := Lib.hid (HB2.out.trans (hb.mono HB2.out.size))
            replace HR := Lib.hid (HR.out.below hb)
            clear hb HB2
            obtain ⟨m0, m1⟩ := HR.out.all
            go_wp2_with fail
            refine (KR.out _).mono ?_
            rintro _ w4 ⟨rfl, hb⟩
            have HB4 := Lib.hid (HB3.out.trans (hb.mono HB3.out.size))
            replace HR := Lib.hid (HR.out.below hb)
            clear hb HB3
            clear m0 m1
            go_wp2_with fail
            refine (KA.out _ HB4.out).mono ?_
            rintro _ w5 ⟨p_HS1, b_HS1, o_HS1, n_HS1, c_HS1, rfl, hs, hb⟩
            have HB5 := Lib.hid (HB4.out.trans (hb.mono HB4.out.size))
            replace HR := Lib.hid (HR.out.below hb)
            clear hb HB4
            have HS1 := Lib.hid hs
            clear hs
            obtain ⟨m0, m1⟩ := HR.out.all
            go_wp2_with fail
            refine (KS.out _ HB5.out).mono ?_
            rintro _ w6 ⟨p_HS2, b_HS2, o_HS2, n_HS2, c_HS2, rfl, hs, hb⟩
            have HB6 := Lib.hid (HB5.out.trans (hb.mono HB5.out.size))
            replace HR := Lib.hid (HR.out.below hb)
            replace HS1 := Lib.hid (HS1.out.below hb)
            clear hb HB5
            have HS2 := Lib.hid hs
            clear hs
            clear m0 m1
            go_wp2_with fail
            refine (KL.out _ HB6.out).mono ?_
            rintro _ w7 ⟨p_HS3, b_HS3, o_HS3, n_HS3, c_HS3, rfl, hs, hb⟩
            have HB7 := Lib.hid (HB6.out.trans (hb.mono HB6.out.size))
            replace HR := Lib.hid (HR.out.below hb)
            replace HS1 := Lib.hid (HS1.out.below hb)
            replace HS2 := Lib.hid (HS2.out.below hb)
            clear hb HB6
            have HS3 := Lib.hid hs
            clear hs
            go_wp2_with fail
            refine (valid_b S3 true HV3.out _ _ _ _ _ _ HS3.out).mono ?_
            rintro _ w8 ⟨rfl, hb⟩
            have HB8 := Lib.hid (HB7.out.trans (hb.mono HB7.out.size))
            replace HR := Lib.hid (HR.out.below hb)
            replace HS1 := Lib.hid (HS1.out.below hb)
            replace HS2 := Lib.hid (HS2.out.below hb)
            replace HS3 := Lib.hid (HS3.out.below hb)
            clear hb HB7
            go_wp2_with fail
            refine (rvalid_b S3 true HV3.out _ _ _ _ _ _ HS3.out).mono ?_
            rintro _ w9 ⟨rfl, hb⟩
            have HB9 := Lib.hid (HB8.out.trans (hb.mono HB8.out.size))
            replace HR := Lib.hid (HR.out.below hb)
            replace HS1 := Lib.hid (HS1.out.below hb)
            replace HS2 := Lib.hid (HS2.out.below hb)
            replace HS3 := Lib.hid (HS3.out.below hb)
            clear hb HB8
            go_wp2_with fail
            refine (reduced_true Hv3.out HRd3.out _ _ _ _ _ _ HS3.out).mono ?_
            rintro _ w10 ⟨rfl, hb⟩
            have HB10 := Lib.hid (HB9.out.trans (hb.mono HB9.out.size))
            replace HR := Lib.hid (HR.out.below hb)
            replace HS1 := Lib.hid (HS1.out.below hb)
            replace HS2 := Lib.hid (HS2.out.below hb)
            replace HS3 := Lib.hid (HS3.out.below hb)
            clear hb HB9
            go_wp2
            go_ret
            exact ⟨by first | rfl | (simp; done) | (simp; omega), HB10.out⟩
          · skip
            generalize (leastR f g).2 = e3 at *
            clear hS hS' hf hg hb hr
            go_enter Try.func8, Try.ntmps8
            go_wp2_with fail
            obtain ⟨hb, hbx⟩ : RowKit.Below w.heap.size w (w.alloc (.cells #[.int .i64 rn, .int .i64 rd] 24)) ∧ NmB (w.alloc (.cells #[.int .i64 rn, .int .i64 rd] 24)) (w.heap.size) rn rd := by
              refine ⟨(by repeat' (first | (with_reducible refine Below.setCell ?_ ?_ _) | (with_reducible refine Below.alloc ?_ ?_ _) | (with_reducible refine Below.drew ?_) | (with_reducible refine below_drewN ?_ _) | (with_reducible exact Below.refl _ _) | omega | (simp; done) | (simp; omega))), ?_⟩
              · have h := NmB.new w rn rd
                exact h
            obtain ⟨w1, hw1⟩ : ∃ w1, w1 = (w.alloc (.cells #[.int .i64 rn, .int .i64 rd] 24)) := ⟨_, rfl⟩
            rw [← hw1] at hb hbx ⊢
            clear hw1
            have kHR := hbx
            have HB1 := Lib.hid (HB0.out.trans (hb.mono HB0.out.size))
            clear hb HB0
            have HR := Lib.hid kHR
            clear kHR
            refine (head_any _).mono ?_
            rintro _ w2 ⟨rfl, hb⟩
            have HB2 := Lib.hid (HB1.out.trans (hb.mono HB1.out.size))
            replace HR := Lib.hid (HR.out.below hb)
            clear hb HB1
            go_wp2_with fail
            refine (KB.out _ HB2.out).mono ?_
            rintro _ w3 ⟨rfl, hb⟩
            have HB3 := Lib.hid (HB2.out.trans (hb.mono HB2.out.size))
            replace HR := Lib.hid (HR.out.below hb)
            clear hb HB2
            obtain ⟨m0, m1⟩ := HR.out.all
            go_wp2_with fail
            refine (KR.out _).mono ?_
            rintro _ w4 ⟨rfl, hb⟩
            have HB4 := Lib.hid (HB3.out.trans (hb.mono HB3.out.size))
            replace HR := Lib.hid (HR.out.below hb)
            clear hb HB3
            clear m0 m1
            go_wp2_with fail
            refine (KA.out _ HB4.out).mono ?_
            rintro _ w5 ⟨p_HS1, b_HS1, o_HS1, n_HS1, c_HS1, rfl, hs, hb⟩
            have HB5 := Lib.hid (HB4.out.trans (hb.mono HB4.out.size))
            replace HR := Lib.hid (HR.out.below hb)
            clear hb HB4
            have HS1 := Lib.hid hs
            clear hs
            obtain ⟨m0, m1⟩ := HR.out.all
            go_wp2_with fail
            refine (KS.out _ HB5.out).mono ?_
            rintro _ w6 ⟨p_HS2, b_HS2, o_HS2, n_HS2, c_HS2, rfl, hs, hb⟩
            have HB6 := Lib.hid (HB5.out.trans (hb.mono HB5.out.size))
            replace HR := Lib.hid (HR.out.below hb)
            replace HS1 := Lib.hid (HS1.out.below hb)
            clear hb HB5
            have HS2 := Lib.hid hs
            clear hs
            clear m0 m1
            go_wp2_with fail
            refine (KL.out _ HB6.out).mono ?_
            rintro _ w7 ⟨p_HS3, b_HS3, o_HS3, n_HS3, c_HS3, rfl, hs, hb⟩
            have HB7 := Lib.hid (HB6.out.trans (hb.mono HB6.out.size))
            replace HR := Lib.hid (HR.out.below hb)
            replace HS1 := Lib.hid (HS1.out.below hb)
            replace HS2 := Lib.hid (HS2.out.below hb)
            clear hb HB6
            have HS3 := Lib.hid hs
            clear hs
            go_wp2
            go_ret
            exact ⟨by first | rfl | (simp; done) | (simp; omega), HB7.out⟩
end Go.Proofs.Ytmjdolgcgbiajaa
