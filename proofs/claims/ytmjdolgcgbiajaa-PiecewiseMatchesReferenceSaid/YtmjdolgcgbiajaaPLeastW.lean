/-
  The walk of the law on the lesser one of two.
-/
import Derived.Test.YtmjdolgcgbiajaaPLaw
namespace Go.Proofs.Ytmjdolgcgbiajaa
open Go.RowKit Go.Shelf Pw

theorem cm_le {a b : Rat} (h : a ≤ b) : cm a b ≤ 0 := by
  unfold cm
  split
  · omega
  · rw [if_neg (Rat.not_lt.2 h)]; omega
theorem cmp_bd {a b : Rat} (h1 : a.num.natAbs ≤ 2000000000000 ∧ (a.den : Int) ≤ 10000) (h2 : b.num.natAbs ≤ 2000000000000 ∧ (b.den : Int) ≤ 10000) : (a.num * b.den).natAbs ≤ 9223372036854775807 ∧ (b.num * a.den).natAbs ≤ 9223372036854775807 := by
  have := sum_bd h1.1 h1.2 h2.1 h2.2
  omega
set_option maxRecDepth 100000 in
set_option maxHeartbeats 8000000 in
theorem least_law (f g : List RP) (pf pg : Option Addr) (bf of cf lf bg og cg lg : Nat) (a : Int) (w : World) (hS : SlP w pf bf of lf f) (hS' : SlP w pg bg og lg g) (a0 : 0 ≤ a) (a1 : a ≤ 4294967295) :
    Calls Try.prog 5 #[.slice pf lf cf, .slice pg lg cg, .int .u32 a] w fun e w' => e = .returned (.bool true) ∧ RowKit.Below w.heap.size w w' := by
  have HB0 : Hid (RowKit.Below w.heap.size w w) := Below.refl _ _
  have KB := Lib.hid (fun w' (h : RowKit.Below w.heap.size w w') => both_any f g pf pg bf of cf lf bg og cg lg w' (hS.below h) (hS'.below h))
  cases hb : bothR f g with
  | false =>
    rw [hb] at KB
    clear hS hS' hb
    go_enter Try.func5, Try.ntmps5
    go_wp2_with fail
    refine (head_any _).mono ?_
    rintro _ w1 ⟨rfl, hb⟩
    have HB1 := Lib.hid (HB0.out.trans (hb.mono HB0.out.size))
    clear hb HB0
    go_wp2_with fail
    refine (KB.out _ HB1.out).mono ?_
    rintro _ w2 ⟨rfl, hb⟩
    have HB2 := Lib.hid (HB1.out.trans (hb.mono HB1.out.size))
    clear hb HB1
    go_wp2
    go_ret
    exact ⟨by first | rfl | (simp; done), HB2.out⟩
  | true =>
    rw [hb] at KB
    obtain ⟨hf, hg⟩ := both_true hb
    have KX := Lib.hid (fun w => place_any a w a0 a1)
    obtain ⟨x, hx⟩ : ∃ x, x = a % 100001 := ⟨_, rfl⟩
    have hx0 := place_bd a
    rw [← hx] at KX hx0
    have HX0 := Lib.hid hx0
    have KA := Lib.hid (fun w' (h : RowKit.Below w.heap.size w w') => least_any f g pf pg bf of cf lf bg og cg lg w' (hS.below h) (hS'.below h))
    rw [show opR f g (leastR f g) = leastR f g from if_pos ⟨hf, hg⟩] at KA
    have HF := Lib.hid hS
    have HG := Lib.hid hS'
    have HVf := Lib.hid hf
    have HVg := Lib.hid hg
    rcases leastR_err f g with he | ⟨hl, he | he⟩
    · obtain ⟨h1, _, h3⟩ := leastR_ok (g := g) hf he
      have h3 := h3 x hx0.1 hx0.2
      rw [he] at KA
      generalize (leastR f g).1 = S at *
      have HVS := Lib.hid (vR_iff.2 h1)
      have HVs := Lib.hid h1
      obtain ⟨n, hn⟩ : ∃ n, n = (vl (AA S) x).num := ⟨_, rfl⟩
      obtain ⟨d, hd⟩ : ∃ d : Int, d = (vl (AA S) x).den := ⟨_, rfl⟩
      obtain ⟨n1, hn1⟩ : ∃ n, n = (vl (AA f) x).num := ⟨_, rfl⟩
      obtain ⟨d1, hd1⟩ : ∃ d : Int, d = (vl (AA f) x).den := ⟨_, rfl⟩
      obtain ⟨n2, hn2⟩ : ∃ n, n = (vl (AA g) x).num := ⟨_, rfl⟩
      obtain ⟨d2, hd2⟩ : ∃ d : Int, d = (vl (AA g) x).den := ⟨_, rfl⟩
      have bb := vl_bd h1 hx0.1 hx0.2
      have bf' := vl_bd hf hx0.1 hx0.2
      have bg' := vl_bd hg hx0.1 hx0.2
      have KC1 := Lib.hid (fun w => rcompare_any (vl (AA S) x) (vl (AA f) x) w (cmp_bd bb bf').1 (cmp_bd bb bf').2)
      have KC2 := Lib.hid (fun w => rcompare_any (vl (AA S) x) (vl (AA g) x) w (cmp_bd bb bg').1 (cmp_bd bb bg').2)
      unfold RV at KC1 KC2
      obtain ⟨c1, hc1⟩ : ∃ c, c = cm (vl (AA S) x) (vl (AA f) x) := ⟨_, rfl⟩
      obtain ⟨c2, hc2⟩ : ∃ c, c = cm (vl (AA S) x) (vl (AA g) x) := ⟨_, rfl⟩
      have lc1 : c1 ≤ 0 := by rw [hc1]; exact cm_le (by rw [h3]; split <;> first | exact Rat.le_refl | exact Rat.le_of_lt (Rat.not_le.1 (by assumption)))
      have lc2 : c2 ≤ 0 := by rw [hc2]; exact cm_le (by rw [h3]; split <;> first | exact Rat.le_refl | assumption)
      rw [← hc1, ← hn, ← hd, ← hn1, ← hd1] at KC1
      rw [← hc2, ← hn, ← hd, ← hn2, ← hd2] at KC2
      by_cases hle : vl (AA f) x ≤ vl (AA g) x
      · rw [if_pos hle] at h3
        obtain rfl : n1 = n := by rw [hn, hn1, h3]
        obtain rfl : d1 = d := by rw [hd, hd1, h3]
        clear hle
        have HN := Lib.hid hn
        have HD := Lib.hid hd
        have HN1 := Lib.hid hn1
        have HD1 := Lib.hid hd1
        have HN2 := Lib.hid hn2
        have HD2 := Lib.hid hd2
        clear hn hd hn1 hd1 hn2 hd2 h3 h1 bb bf' bg' he hf hg hb hS hS' hx hx0 hc1 hc2
        go_enter Try.func5, Try.ntmps5
        go_wp2_with fail
        refine (head_any _).mono ?_
        rintro _ w1 ⟨rfl, hb⟩
        have HB1 := Lib.hid (HB0.out.trans (hb.mono HB0.out.size))
        clear hb HB0
        go_wp2_with fail
        refine (KB.out _ HB1.out).mono ?_
        rintro _ w2 ⟨rfl, hb⟩
        have HB2 := Lib.hid (HB1.out.trans (hb.mono HB1.out.size))
        clear hb HB1
        go_wp2_with fail
        refine (KX.out _).mono ?_
        rintro _ w3 ⟨rfl, hb⟩
        have HB3 := Lib.hid (HB2.out.trans (hb.mono HB2.out.size))
        clear hb HB2
        go_wp2_with fail
        refine (KA.out _ HB3.out).mono ?_
        rintro _ w4 ⟨p_HS, b_HS, o_HS, n_HS, c_HS, rfl, hs, hb⟩
        have HB4 := Lib.hid (HB3.out.trans (hb.mono HB3.out.size))
        clear hb HB3
        have HS := Lib.hid hs
        clear hs
        go_wp2_with fail
        refine (rvalid_b S true HVS.out _ _ _ _ _ _ HS.out).mono ?_
        rintro _ w5 ⟨rfl, hb⟩
        have HB5 := Lib.hid (HB4.out.trans (hb.mono HB4.out.size))
        replace HS := Lib.hid (HS.out.below hb)
        clear hb HB4
        go_wp2_with fail
        refine (val_n HVs.out HN.out HD.out HX0.out.1 HX0.out.2 _ _ _ _ _ _ HS.out).mono ?_
        rintro _ w6 ⟨rfl, hb⟩
        have HB6 := Lib.hid (HB5.out.trans (hb.mono HB5.out.size))
        replace HS := Lib.hid (HS.out.below hb)
        clear hb HB5
        go_wp2_with fail
        refine (val_n HVf.out HN1.out HD1.out HX0.out.1 HX0.out.2 _ _ _ _ _ _ (HF.out.below HB6.out)).mono ?_
        rintro _ w7 ⟨rfl, hb⟩
        have HB7 := Lib.hid (HB6.out.trans (hb.mono HB6.out.size))
        replace HS := Lib.hid (HS.out.below hb)
        clear hb HB6
        go_wp2_with fail
        refine (val_n HVg.out HN2.out HD2.out HX0.out.1 HX0.out.2 _ _ _ _ _ _ (HG.out.below HB7.out)).mono ?_
        rintro _ w8 ⟨rfl, hb⟩
        have HB8 := Lib.hid (HB7.out.trans (hb.mono HB7.out.size))
        replace HS := Lib.hid (HS.out.below hb)
        clear hb HB7
        go_wp2_with fail
        obtain ⟨hb, hbx⟩ : RowKit.Below w8.heap.size w8 (((w8.alloc (.cells #[.int .i64 n1, .int .i64 d1] 24)).alloc (.cells #[.int .i64 n1, .int .i64 d1] 24)).alloc (.cells #[.int .i64 n2, .int .i64 d2] 24)) ∧ NmB (((w8.alloc (.cells #[.int .i64 n1, .int .i64 d1] 24)).alloc (.cells #[.int .i64 n1, .int .i64 d1] 24)).alloc (.cells #[.int .i64 n2, .int .i64 d2] 24)) (w8.heap.size) n1 d1 ∧ NmB (((w8.alloc (.cells #[.int .i64 n1, .int .i64 d1] 24)).alloc (.cells #[.int .i64 n1, .int .i64 d1] 24)).alloc (.cells #[.int .i64 n2, .int .i64 d2] 24)) (w8.heap.size + 1) n1 d1 ∧ NmB (((w8.alloc (.cells #[.int .i64 n1, .int .i64 d1] 24)).alloc (.cells #[.int .i64 n1, .int .i64 d1] 24)).alloc (.cells #[.int .i64 n2, .int .i64 d2] 24)) (w8.heap.size + 1 + 1) n2 d2 := by
          refine ⟨(by repeat' (first | (with_reducible refine Below.setCell ?_ ?_ _) | (with_reducible refine Below.alloc ?_ ?_ _) | (with_reducible refine Below.drew ?_) | (with_reducible refine below_drewN ?_ _) | (with_reducible exact Below.refl _ _) | omega | (simp; done) | (simp; omega))), ?_, ?_, ?_⟩
          · have h := NmB.new w8 n1 d1
            exact ((h.below ((Below.refl _ _).alloc (Nat.le_refl _) _)).below ((Below.refl _ _).alloc (Nat.le_refl _) _))
          · have h := NmB.new (w8.alloc (.cells #[.int .i64 n1, .int .i64 d1] 24)) n1 d1
            simp only [World.size_alloc] at h
            exact (h.below ((Below.refl _ _).alloc (Nat.le_refl _) _))
          · have h := NmB.new ((w8.alloc (.cells #[.int .i64 n1, .int .i64 d1] 24)).alloc (.cells #[.int .i64 n1, .int .i64 d1] 24)) n2 d2
            simp only [World.size_alloc] at h
            exact h
        obtain ⟨w9, hw9⟩ : ∃ w9, w9 = (((w8.alloc (.cells #[.int .i64 n1, .int .i64 d1] 24)).alloc (.cells #[.int .i64 n1, .int .i64 d1] 24)).alloc (.cells #[.int .i64 n2, .int .i64 d2] 24)) := ⟨_, rfl⟩
        rw [← hw9] at hb hbx ⊢
        clear hw9
        obtain ⟨kHM1, kHM2, kHM3⟩ := hbx
        have HB9 := Lib.hid (HB8.out.trans (hb.mono HB8.out.size))
        replace HS := Lib.hid (HS.out.below hb)
        clear hb HB8
        have HM1 := Lib.hid kHM1
        clear kHM1
        have HM2 := Lib.hid kHM2
        clear kHM2
        have HM3 := Lib.hid kHM3
        clear kHM3
        refine (KC1.out _).mono ?_
        rintro _ w10 ⟨rfl, hb⟩
        have HB10 := Lib.hid (HB9.out.trans (hb.mono HB9.out.size))
        replace HS := Lib.hid (HS.out.below hb)
        replace HM1 := Lib.hid (HM1.out.below hb)
        replace HM2 := Lib.hid (HM2.out.below hb)
        replace HM3 := Lib.hid (HM3.out.below hb)
        clear hb HB9
        obtain ⟨m0, m1⟩ := HM1.out.all
        obtain ⟨m2, m3⟩ := HM3.out.all
        go_wp2_with fail
        refine (KC2.out _).mono ?_
        rintro _ w11 ⟨rfl, hb⟩
        have HB11 := Lib.hid (HB10.out.trans (hb.mono HB10.out.size))
        replace HS := Lib.hid (HS.out.below hb)
        replace HM1 := Lib.hid (HM1.out.below hb)
        replace HM2 := Lib.hid (HM2.out.below hb)
        replace HM3 := Lib.hid (HM3.out.below hb)
        clear hb HB10
        clear m0 m1 m2 m3
        go_wp2
        go_ret
        exact ⟨by first | rfl | (simp; done), HB11.out⟩
      · rw [if_neg hle] at h3
        obtain rfl : n2 = n := by rw [hn, hn2, h3]
        obtain rfl : d2 = d := by rw [hd, hd2, h3]
        have hne : ¬ n2 = n1 ∨ (n2 = n1 ∧ ¬ d2 = d1) := by
          by_cases q : n2 = n1
          · refine .inr ⟨q, fun q2 => hle ?_⟩
            rw [← fr_self (vl (AA f) x), ← fr_self (vl (AA g) x), ← hn1, ← hd1, ← hn2, ← hd2, q, q2]
            exact Rat.le_refl
          · exact .inl q
        clear hle
        have HN := Lib.hid hn
        have HD := Lib.hid hd
        have HN1 := Lib.hid hn1
        have HD1 := Lib.hid hd1
        have HN2 := Lib.hid hn2
        have HD2 := Lib.hid hd2
        clear hn hd hn1 hd1 hn2 hd2 h3 h1 bb bf' bg' he hf hg hb hS hS' hx hx0 hc1 hc2
        rcases hne with hne | ⟨rfl, hne⟩
        · skip
          go_enter Try.func5, Try.ntmps5
          go_wp2_with fail
          refine (head_any _).mono ?_
          rintro _ w1 ⟨rfl, hb⟩
          have HB1 := Lib.hid (HB0.out.trans (hb.mono HB0.out.size))
          clear hb HB0
          go_wp2_with fail
          refine (KB.out _ HB1.out).mono ?_
          rintro _ w2 ⟨rfl, hb⟩
          have HB2 := Lib.hid (HB1.out.trans (hb.mono HB1.out.size))
          clear hb HB1
          go_wp2_with fail
          refine (KX.out _).mono ?_
          rintro _ w3 ⟨rfl, hb⟩
          have HB3 := Lib.hid (HB2.out.trans (hb.mono HB2.out.size))
          clear hb HB2
          go_wp2_with fail
          refine (KA.out _ HB3.out).mono ?_
          rintro _ w4 ⟨p_HS, b_HS, o_HS, n_HS, c_HS, rfl, hs, hb⟩
          have HB4 := Lib.hid (HB3.out.trans (hb.mono HB3.out.size))
          clear hb HB3
          have HS := Lib.hid hs
          clear hs
          go_wp2_with fail
          refine (rvalid_b S true HVS.out _ _ _ _ _ _ HS.out).mono ?_
          rintro _ w5 ⟨rfl, hb⟩
          have HB5 := Lib.hid (HB4.out.trans (hb.mono HB4.out.size))
          replace HS := Lib.hid (HS.out.below hb)
          clear hb HB4
          go_wp2_with fail
          refine (val_n HVs.out HN.out HD.out HX0.out.1 HX0.out.2 _ _ _ _ _ _ HS.out).mono ?_
          rintro _ w6 ⟨rfl, hb⟩
          have HB6 := Lib.hid (HB5.out.trans (hb.mono HB5.out.size))
          replace HS := Lib.hid (HS.out.below hb)
          clear hb HB5
          go_wp2_with fail
          refine (val_n HVf.out HN1.out HD1.out HX0.out.1 HX0.out.2 _ _ _ _ _ _ (HF.out.below HB6.out)).mono ?_
          rintro _ w7 ⟨rfl, hb⟩
          have HB7 := Lib.hid (HB6.out.trans (hb.mono HB6.out.size))
          replace HS := Lib.hid (HS.out.below hb)
          clear hb HB6
          go_wp2_with fail
          refine (val_n HVg.out HN2.out HD2.out HX0.out.1 HX0.out.2 _ _ _ _ _ _ (HG.out.below HB7.out)).mono ?_
          rintro _ w8 ⟨rfl, hb⟩
          have HB8 := Lib.hid (HB7.out.trans (hb.mono HB7.out.size))
          replace HS := Lib.hid (HS.out.below hb)
          clear hb HB7
          go_wp2_with fail
          obtain ⟨hb, hbx⟩ : RowKit.Below w8.heap.size w8 (((w8.alloc (.cells #[.int .i64 n2, .int .i64 d2] 24)).alloc (.cells #[.int .i64 n1, .int .i64 d1] 24)).alloc (.cells #[.int .i64 n2, .int .i64 d2] 24)) ∧ NmB (((w8.alloc (.cells #[.int .i64 n2, .int .i64 d2] 24)).alloc (.cells #[.int .i64 n1, .int .i64 d1] 24)).alloc (.cells #[.int .i64 n2, .int .i64 d2] 24)) (w8.heap.size) n2 d2 ∧ NmB (((w8.alloc (.cells #[.int .i64 n2, .int .i64 d2] 24)).alloc (.cells #[.int .i64 n1, .int .i64 d1] 24)).alloc (.cells #[.int .i64 n2, .int .i64 d2] 24)) (w8.heap.size + 1) n1 d1 ∧ NmB (((w8.alloc (.cells #[.int .i64 n2, .int .i64 d2] 24)).alloc (.cells #[.int .i64 n1, .int .i64 d1] 24)).alloc (.cells #[.int .i64 n2, .int .i64 d2] 24)) (w8.heap.size + 1 + 1) n2 d2 := by
            refine ⟨(by repeat' (first | (with_reducible refine Below.setCell ?_ ?_ _) | (with_reducible refine Below.alloc ?_ ?_ _) | (with_reducible refine Below.drew ?_) | (with_reducible refine below_drewN ?_ _) | (with_reducible exact Below.refl _ _) | omega | (simp; done) | (simp; omega))), ?_, ?_, ?_⟩
            · have h := NmB.new w8 n2 d2
              exact ((h.below ((Below.refl _ _).alloc (Nat.le_refl _) _)).below ((Below.refl _ _).alloc (Nat.le_refl _) _))
            · have h := NmB.new (w8.alloc (.cells #[.int .i64 n2, .int .i64 d2] 24)) n1 d1
              simp only [World.size_alloc] at h
              exact (h.below ((Below.refl _ _).alloc (Nat.le_refl _) _))
            · have h := NmB.new ((w8.alloc (.cells #[.int .i64 n2, .int .i64 d2] 24)).alloc (.cells #[.int .i64 n1, .int .i64 d1] 24)) n2 d2
              simp only [World.size_alloc] at h
              exact h
          obtain ⟨w9, hw9⟩ : ∃ w9, w9 = (((w8.alloc (.cells #[.int .i64 n2, .int .i64 d2] 24)).alloc (.cells #[.int .i64 n1, .int .i64 d1] 24)).alloc (.cells #[.int .i64 n2, .int .i64 d2] 24)) := ⟨_, rfl⟩
          rw [← hw9] at hb hbx ⊢
          clear hw9
          obtain ⟨kHM1, kHM2, kHM3⟩ := hbx
          have HB9 := Lib.hid (HB8.out.trans (hb.mono HB8.out.size))
          replace HS := Lib.hid (HS.out.below hb)
          clear hb HB8
          have HM1 := Lib.hid kHM1
          clear kHM1
          have HM2 := Lib.hid kHM2
          clear kHM2
          have HM3 := Lib.hid kHM3
          clear kHM3
          refine (KC1.out _).mono ?_
          rintro _ w10 ⟨rfl, hb⟩
          have HB10 := Lib.hid (HB9.out.trans (hb.mono HB9.out.size))
          replace HS := Lib.hid (HS.out.below hb)
          replace HM1 := Lib.hid (HM1.out.below hb)
          replace HM2 := Lib.hid (HM2.out.below hb)
          replace HM3 := Lib.hid (HM3.out.below hb)
          clear hb HB9
          obtain ⟨m0, m1⟩ := HM1.out.all
          obtain ⟨m2, m3⟩ := HM3.out.all
          go_wp2_with fail
          refine (KC2.out _).mono ?_
          rintro _ w11 ⟨rfl, hb⟩
          have HB11 := Lib.hid (HB10.out.trans (hb.mono HB10.out.size))
          replace HS := Lib.hid (HS.out.below hb)
          replace HM1 := Lib.hid (HM1.out.below hb)
          replace HM2 := Lib.hid (HM2.out.below hb)
          replace HM3 := Lib.hid (HM3.out.below hb)
          clear hb HB10
          clear m0 m1 m2 m3
          go_wp2
          go_ret
          exact ⟨by first | rfl | (simp; done), HB11.out⟩
        · skip
          go_enter Try.func5, Try.ntmps5
          go_wp2_with fail
          refine (head_any _).mono ?_
          rintro _ w1 ⟨rfl, hb⟩
          have HB1 := Lib.hid (HB0.out.trans (hb.mono HB0.out.size))
          clear hb HB0
          go_wp2_with fail
          refine (KB.out _ HB1.out).mono ?_
          rintro _ w2 ⟨rfl, hb⟩
          have HB2 := Lib.hid (HB1.out.trans (hb.mono HB1.out.size))
          clear hb HB1
          go_wp2_with fail
          refine (KX.out _).mono ?_
          rintro _ w3 ⟨rfl, hb⟩
          have HB3 := Lib.hid (HB2.out.trans (hb.mono HB2.out.size))
          clear hb HB2
          go_wp2_with fail
          refine (KA.out _ HB3.out).mono ?_
          rintro _ w4 ⟨p_HS, b_HS, o_HS, n_HS, c_HS, rfl, hs, hb⟩
          have HB4 := Lib.hid (HB3.out.trans (hb.mono HB3.out.size))
          clear hb HB3
          have HS := Lib.hid hs
          clear hs
          go_wp2_with fail
          refine (rvalid_b S true HVS.out _ _ _ _ _ _ HS.out).mono ?_
          rintro _ w5 ⟨rfl, hb⟩
          have HB5 := Lib.hid (HB4.out.trans (hb.mono HB4.out.size))
          replace HS := Lib.hid (HS.out.below hb)
          clear hb HB4
          go_wp2_with fail
          refine (val_n HVs.out HN.out HD.out HX0.out.1 HX0.out.2 _ _ _ _ _ _ HS.out).mono ?_
          rintro _ w6 ⟨rfl, hb⟩
          have HB6 := Lib.hid (HB5.out.trans (hb.mono HB5.out.size))
          replace HS := Lib.hid (HS.out.below hb)
          clear hb HB5
          go_wp2_with fail
          refine (val_n HVf.out HN1.out HD1.out HX0.out.1 HX0.out.2 _ _ _ _ _ _ (HF.out.below HB6.out)).mono ?_
          rintro _ w7 ⟨rfl, hb⟩
          have HB7 := Lib.hid (HB6.out.trans (hb.mono HB6.out.size))
          replace HS := Lib.hid (HS.out.below hb)
          clear hb HB6
          go_wp2_with fail
          refine (val_n HVg.out HN2.out HD2.out HX0.out.1 HX0.out.2 _ _ _ _ _ _ (HG.out.below HB7.out)).mono ?_
          rintro _ w8 ⟨rfl, hb⟩
          have HB8 := Lib.hid (HB7.out.trans (hb.mono HB7.out.size))
          replace HS := Lib.hid (HS.out.below hb)
          clear hb HB7
          go_wp2_with fail
          obtain ⟨hb, hbx⟩ : RowKit.Below w8.heap.size w8 (((w8.alloc (.cells #[.int .i64 n2, .int .i64 d2] 24)).alloc (.cells #[.int .i64 n2, .int .i64 d1] 24)).alloc (.cells #[.int .i64 n2, .int .i64 d2] 24)) ∧ NmB (((w8.alloc (.cells #[.int .i64 n2, .int .i64 d2] 24)).alloc (.cells #[.int .i64 n2, .int .i64 d1] 24)).alloc (.cells #[.int .i64 n2, .int .i64 d2] 24)) (w8.heap.size) n2 d2 ∧ NmB (((w8.alloc (.cells #[.int .i64 n2, .int .i64 d2] 24)).alloc (.cells #[.int .i64 n2, .int .i64 d1] 24)).alloc (.cells #[.int .i64 n2, .int .i64 d2] 24)) (w8.heap.size + 1) n2 d1 ∧ NmB (((w8.alloc (.cells #[.int .i64 n2, .int .i64 d2] 24)).alloc (.cells #[.int .i64 n2, .int .i64 d1] 24)).alloc (.cells #[.int .i64 n2, .int .i64 d2] 24)) (w8.heap.size + 1 + 1) n2 d2 := by
            refine ⟨(by repeat' (first | (with_reducible refine Below.setCell ?_ ?_ _) | (with_reducible refine Below.alloc ?_ ?_ _) | (with_reducible refine Below.drew ?_) | (with_reducible refine below_drewN ?_ _) | (with_reducible exact Below.refl _ _) | omega | (simp; done) | (simp; omega))), ?_, ?_, ?_⟩
            · have h := NmB.new w8 n2 d2
              exact ((h.below ((Below.refl _ _).alloc (Nat.le_refl _) _)).below ((Below.refl _ _).alloc (Nat.le_refl _) _))
            · have h := NmB.new (w8.alloc (.cells #[.int .i64 n2, .int .i64 d2] 24)) n2 d1
              simp only [World.size_alloc] at h
              exact (h.below ((Below.refl _ _).alloc (Nat.le_refl _) _))
            · have h := NmB.new ((w8.alloc (.cells #[.int .i64 n2, .int .i64 d2] 24)).alloc (.cells #[.int .i64 n2, .int .i64 d1] 24)) n2 d2
              simp only [World.size_alloc] at h
              exact h
          obtain ⟨w9, hw9⟩ : ∃ w9, w9 = (((w8.alloc (.cells #[.int .i64 n2, .int .i64 d2] 24)).alloc (.cells #[.int .i64 n2, .int .i64 d1] 24)).alloc (.cells #[.int .i64 n2, .int .i64 d2] 24)) := ⟨_, rfl⟩
          rw [← hw9] at hb hbx ⊢
          clear hw9
          obtain ⟨kHM1, kHM2, kHM3⟩ := hbx
          have HB9 := Lib.hid (HB8.out.trans (hb.mono HB8.out.size))
          replace HS := Lib.hid (HS.out.below hb)
          clear hb HB8
          have HM1 := Lib.hid kHM1
          clear kHM1
          have HM2 := Lib.hid kHM2
          clear kHM2
          have HM3 := Lib.hid kHM3
          clear kHM3
          refine (KC1.out _).mono ?_
          rintro _ w10 ⟨rfl, hb⟩
          have HB10 := Lib.hid (HB9.out.trans (hb.mono HB9.out.size))
          replace HS := Lib.hid (HS.out.below hb)
          replace HM1 := Lib.hid (HM1.out.below hb)
          replace HM2 := Lib.hid (HM2.out.below hb)
          replace HM3 := Lib.hid (HM3.out.below hb)
          clear hb HB9
          obtain ⟨m0, m1⟩ := HM1.out.all
          obtain ⟨m2, m3⟩ := HM3.out.all
          go_wp2_with fail
          refine (KC2.out _).mono ?_
          rintro _ w11 ⟨rfl, hb⟩
          have HB11 := Lib.hid (HB10.out.trans (hb.mono HB10.out.size))
          replace HS := Lib.hid (HS.out.below hb)
          replace HM1 := Lib.hid (HM1.out.below hb)
          replace HM2 := Lib.hid (HM2.out.below hb)
          replace HM3 := Lib.hid (HM3.out.below hb)
          clear hb HB10
          clear m0 m1 m2 m3
          go_wp2
          go_ret
          exact ⟨by first | rfl | (simp; done), HB11.out⟩
    · rw [hl, he] at KA
      clear hS hS' hb hf hg hx hx0 hl he
      go_enter Try.func5, Try.ntmps5
      go_wp2_with fail
      refine (head_any _).mono ?_
      rintro _ w1 ⟨rfl, hb⟩
      have HB1 := Lib.hid (HB0.out.trans (hb.mono HB0.out.size))
      clear hb HB0
      go_wp2_with fail
      refine (KB.out _ HB1.out).mono ?_
      rintro _ w2 ⟨rfl, hb⟩
      have HB2 := Lib.hid (HB1.out.trans (hb.mono HB1.out.size))
      clear hb HB1
      go_wp2_with fail
      refine (KX.out _).mono ?_
      rintro _ w3 ⟨rfl, hb⟩
      have HB3 := Lib.hid (HB2.out.trans (hb.mono HB2.out.size))
      clear hb HB2
      go_wp2_with fail
      refine (KA.out _ HB3.out).mono ?_
      rintro _ w4 ⟨p_HS, b_HS, o_HS, n_HS, c_HS, rfl, hs, hb⟩
      have HB4 := Lib.hid (HB3.out.trans (hb.mono HB3.out.size))
      clear hb HB3
      have HS := Lib.hid hs
      clear hs
      obtain rfl : n_HS = 0 := HS.out.ln.symm
      go_wp2
      go_ret
      exact ⟨by first | rfl | (simp; done), HB4.out⟩
    · rw [hl, he] at KA
      clear hS hS' hb hf hg hx hx0 hl he
      go_enter Try.func5, Try.ntmps5
      go_wp2_with fail
      refine (head_any _).mono ?_
      rintro _ w1 ⟨rfl, hb⟩
      have HB1 := Lib.hid (HB0.out.trans (hb.mono HB0.out.size))
      clear hb HB0
      go_wp2_with fail
      refine (KB.out _ HB1.out).mono ?_
      rintro _ w2 ⟨rfl, hb⟩
      have HB2 := Lib.hid (HB1.out.trans (hb.mono HB1.out.size))
      clear hb HB1
      go_wp2_with fail
      refine (KX.out _).mono ?_
      rintro _ w3 ⟨rfl, hb⟩
      have HB3 := Lib.hid (HB2.out.trans (hb.mono HB2.out.size))
      clear hb HB2
      go_wp2_with fail
      refine (KA.out _ HB3.out).mono ?_
      rintro _ w4 ⟨p_HS, b_HS, o_HS, n_HS, c_HS, rfl, hs, hb⟩
      have HB4 := Lib.hid (HB3.out.trans (hb.mono HB3.out.size))
      clear hb HB3
      have HS := Lib.hid hs
      clear hs
      obtain rfl : n_HS = 0 := HS.out.ln.symm
      go_wp2
      go_ret
      exact ⟨by first | rfl | (simp; done), HB4.out⟩
end Go.Proofs.Ytmjdolgcgbiajaa
