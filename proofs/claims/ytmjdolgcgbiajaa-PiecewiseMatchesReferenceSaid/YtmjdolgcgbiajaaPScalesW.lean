/-
  The walk of the law on multiples.
-/
import Derived.Test.YtmjdolgcgbiajaaPLeastW
namespace Go.Proofs.Ytmjdolgcgbiajaa
open Go.RowKit Go.Shelf Pw

set_option maxRecDepth 100000 in
set_option maxHeartbeats 4000000 in
theorem scales_law (f : List RP) (pf : Option Addr) (bf of cf lf : Nat) (rn rd a : Int) (w : World) (hS : SlP w pf bf of lf f) (hcap : lf ≤ cf) (i1 : In64 rn) (i2 : In64 rd) (a0 : 0 ≤ a) (a1 : a ≤ 4294967295) :
    Calls Try.prog 9 #[.slice pf lf cf, .agg #[.int .i64 rn, .int .i64 rd], .int .u32 a] w fun e w' => e = .returned (.bool true) ∧ RowKit.Below w.heap.size w w' := by
  have HB0 : Hid (RowKit.Below w.heap.size w w) := Below.refl _ _
  have KB := Lib.hid (fun w' (h : RowKit.Below w.heap.size w w') => both_any f f pf pf bf of cf lf bf of cf lf w' (hS.below h) (hS.below h))
  have KR := Lib.hid (fun w' => rvalid_any rn rd w' i1.1 i1.2 i2.1 i2.2)
  cases hb : bothR f f with
  | false =>
    rw [hb] at KB
    clear hS hb hcap i1 i2
    go_enter Try.func9, Try.ntmps9
    go_wp2_with fail
    obtain ⟨hb, hbx⟩ : RowKit.Below w.heap.size w (w.alloc (.cells #[.int .i64 rn, .int .i64 rd] 24)) ∧ NmB (w.alloc (.cells #[.int .i64 rn, .int .i64 rd] 24)) (w.heap.size) rn rd := by
      refine ⟨(by repeat' (first | (with_reducible refine Below.setCell ?_ ?_ _) | (with_reducible refine Below.alloc ?_ ?_ _) | (with_reducible refine Below.drew ?_) | (with_reducible refine below_drewN ?_ _) | (with_reducible exact Below.refl _ _) | omega | (simp; done) | (simp; omega))), ?_⟩
      · have h := NmB.new w rn rd
        exact h
    obtain ⟨w1, hw1⟩ : ∃ w1, w1 = (w.alloc (.cells #[.int .i64 rn, .int .i64 rd] 24)) := ⟨_, rfl⟩
    rw [← hw1] at hb hbx ⊢
    clear hw1
    have kHR := hbx
    have HB1 := Lib.hid (HB0.out.trans (hb.mono HB0.out.size))
    clear hb HB0
    have HR := Lib.hid kHR
    clear kHR
    refine (head_any _).mono ?_
    rintro _ w2 ⟨rfl, hb⟩
    have HB2 := Lib.hid (HB1.out.trans (hb.mono HB1.out.size))
    replace HR := Lib.hid (HR.out.below hb)
    clear hb HB1
    go_wp2_with fail
    refine (KB.out _ HB2.out).mono ?_
    rintro _ w3 ⟨rfl, hb⟩
    have HB3 := Lib.hid (HB2.out.trans (hb.mono HB2.out.size))
    replace HR := Lib.hid (HR.out.below hb)
    clear hb HB2
    go_wp2
    go_ret
    exact ⟨by first | rfl | (simp; done) | (simp; omega), HB3.out⟩
  | true =>
    rw [hb] at KB
    obtain ⟨hf, _⟩ := both_true hb
    cases hr : vld rn rd with
    | false =>
      rw [hr] at KR
      clear hS hb hr hf hcap i1 i2
      go_enter Try.func9, Try.ntmps9
      go_wp2_with fail
      obtain ⟨hb, hbx⟩ : RowKit.Below w.heap.size w (w.alloc (.cells #[.int .i64 rn, .int .i64 rd] 24)) ∧ NmB (w.alloc (.cells #[.int .i64 rn, .int .i64 rd] 24)) (w.heap.size) rn rd := by
        refine ⟨(by repeat' (first | (with_reducible refine Below.setCell ?_ ?_ _) | (with_reducible refine Below.alloc ?_ ?_ _) | (with_reducible refine Below.drew ?_) | (with_reducible refine below_drewN ?_ _) | (with_reducible exact Below.refl _ _) | omega | (simp; done) | (simp; omega))), ?_⟩
        · have h := NmB.new w rn rd
          exact h
      obtain ⟨w1, hw1⟩ : ∃ w1, w1 = (w.alloc (.cells #[.int .i64 rn, .int .i64 rd] 24)) := ⟨_, rfl⟩
      rw [← hw1] at hb hbx ⊢
      clear hw1
      have kHR := hbx
      have HB1 := Lib.hid (HB0.out.trans (hb.mono HB0.out.size))
      clear hb HB0
      have HR := Lib.hid kHR
      clear kHR
      refine (head_any _).mono ?_
      rintro _ w2 ⟨rfl, hb⟩
      have HB2 := Lib.hid (HB1.out.trans (hb.mono HB1.out.size))
      replace HR := Lib.hid (HR.out.below hb)
      clear hb HB1
      go_wp2_with fail
      refine (KB.out _ HB2.out).mono ?_
      rintro _ w3 ⟨rfl, hb⟩
      have HB3 := Lib.hid (HB2.out.trans (hb.mono HB2.out.size))
      replace HR := Lib.hid (HR.out.below hb)
      clear hb HB2
      obtain ⟨m0, m1⟩ := HR.out.all
      go_wp2_with fail
      refine (KR.out _).mono ?_
      rintro _ w4 ⟨rfl, hb⟩
      have HB4 := Lib.hid (HB3.out.trans (hb.mono HB3.out.size))
      replace HR := Lib.hid (HR.out.below hb)
      clear hb HB3
      clear m0 m1
      go_wp2
      go_ret
      exact ⟨by first | rfl | (simp; done) | (simp; omega), HB4.out⟩
    | true =>
      rw [hr] at KR
      have KS := Lib.hid (fun w' (h : RowKit.Below w.heap.size w w') => scale_any f pf bf of cf lf rn rd w' (hS.below h) hcap i1 i2)
      rw [show scaV f rn rd = scaleR f rn rd from if_pos ⟨hf, hr⟩] at KS
      have hq := (vld_iff rn rd).1 hr
      have KX := Lib.hid (fun w => place_any a w a0 a1)
      obtain ⟨x, hx⟩ : ∃ x, x = a % 100001 := ⟨_, rfl⟩
      have hx0 := place_bd a
      rw [← hx] at KX hx0
      have HX0 := Lib.hid hx0
      have HF := Lib.hid hS
      have HVf := Lib.hid hf
      clear hcap i1 i2
      by_cases q1 : 1000 < rn
      · have q1d : decide (1000 < rn) = true := decide_eq_true q1
        clear hS hb hr hf hx hx0 hq
        go_enter Try.func9, Try.ntmps9
        go_wp2_with fail
        obtain ⟨hb, hbx⟩ : RowKit.Below w.heap.size w (w.alloc (.cells #[.int .i64 rn, .int .i64 rd] 24)) ∧ NmB (w.alloc (.cells #[.int .i64 rn, .int .i64 rd] 24)) (w.heap.size) rn rd := by
          refine ⟨(by repeat' (first | (with_reducible refine Below.setCell ?_ ?_ _) | (with_reducible refine Below.alloc ?_ ?_ _) | (with_reducible refine Below.drew ?_) | (with_reducible refine below_drewN ?_ _) | (with_reducible exact Below.refl _ _) | omega | (simp; done) | (simp; omega))), ?_⟩
          · have h := NmB.new w rn rd
            exact h
        obtain ⟨w1, hw1⟩ : ∃ w1, w1 = (w.alloc (.cells #[.int .i64 rn, .int .i64 rd] 24)) := ⟨_, rfl⟩
        rw [← hw1] at hb hbx ⊢
        clear hw1
        have kHR := hbx
        have HB1 := Lib.hid (HB0.out.trans (hb.mono HB0.out.size))
        clear hb HB0
        have HR := Lib.hid kHR
        clear kHR
        refine (head_any _).mono ?_
        rintro _ w2 ⟨rfl, hb⟩
        have HB2 := Lib.hid (HB1.out.trans (hb.mono HB1.out.size))
        replace HR := Lib.hid (HR.out.below hb)
        clear hb HB1
        go_wp2_with fail
        refine (KB.out _ HB2.out).mono ?_
        rintro _ w3 ⟨rfl, hb⟩
        have HB3 := Lib.hid (HB2.out.trans (hb.mono HB2.out.size))
        replace HR := Lib.hid (HR.out.below hb)
        clear hb HB2
        obtain ⟨m0, m1⟩ := HR.out.all
        go_wp2_with fail
        refine (KR.out _).mono ?_
        rintro _ w4 ⟨rfl, hb⟩
        have HB4 := Lib.hid (HB3.out.trans (hb.mono HB3.out.size))
        replace HR := Lib.hid (HR.out.below hb)
        clear hb HB3
        clear m0 m1
        obtain ⟨m0, m1⟩ := HR.out.all
        go_wp2
        go_ret
        exact ⟨by first | rfl | (simp; done) | (simp; omega), HB4.out⟩
      have q1d : decide (1000 < rn) = false := decide_eq_false q1
      by_cases q2 : rn < -1000
      · have q2d : decide (rn < -1000) = true := decide_eq_true q2
        clear hS hb hr hf hx hx0 hq q1
        go_enter Try.func9, Try.ntmps9
        go_wp2_with fail
        obtain ⟨hb, hbx⟩ : RowKit.Below w.heap.size w (w.alloc (.cells #[.int .i64 rn, .int .i64 rd] 24)) ∧ NmB (w.alloc (.cells #[.int .i64 rn, .int .i64 rd] 24)) (w.heap.size) rn rd := by
          refine ⟨(by repeat' (first | (with_reducible refine Below.setCell ?_ ?_ _) | (with_reducible refine Below.alloc ?_ ?_ _) | (with_reducible refine Below.drew ?_) | (with_reducible refine below_drewN ?_ _) | (with_reducible exact Below.refl _ _) | omega | (simp; done) | (simp; omega))), ?_⟩
          · have h := NmB.new w rn rd
            exact h
        obtain ⟨w1, hw1⟩ : ∃ w1, w1 = (w.alloc (.cells #[.int .i64 rn, .int .i64 rd] 24)) := ⟨_, rfl⟩
        rw [← hw1] at hb hbx ⊢
        clear hw1
        have kHR := hbx
        have HB1 := Lib.hid (HB0.out.trans (hb.mono HB0.out.size))
        clear hb HB0
        have HR := Lib.hid kHR
        clear kHR
        refine (head_any _).mono ?_
        rintro _ w2 ⟨rfl, hb⟩
        have HB2 := Lib.hid (HB1.out.trans (hb.mono HB1.out.size))
        replace HR := Lib.hid (HR.out.below hb)
        clear hb HB1
        go_wp2_with fail
        refine (KB.out _ HB2.out).mono ?_
        rintro _ w3 ⟨rfl, hb⟩
        have HB3 := Lib.hid (HB2.out.trans (hb.mono HB2.out.size))
        replace HR := Lib.hid (HR.out.below hb)
        clear hb HB2
        obtain ⟨m0, m1⟩ := HR.out.all
        go_wp2_with fail
        refine (KR.out _).mono ?_
        rintro _ w4 ⟨rfl, hb⟩
        have HB4 := Lib.hid (HB3.out.trans (hb.mono HB3.out.size))
        replace HR := Lib.hid (HR.out.below hb)
        clear hb HB3
        clear m0 m1
        obtain ⟨m0, m1⟩ := HR.out.all
        go_wp2
        go_ret
        exact ⟨by first | rfl | (simp; done) | (simp; omega), HB4.out⟩
      have q2d : decide (rn < -1000) = false := decide_eq_false q2
      by_cases q3 : 1000 < rd
      · have q3d : decide (1000 < rd) = true := decide_eq_true q3
        clear hS hb hr hf hx hx0 hq q1 q2
        go_enter Try.func9, Try.ntmps9
        go_wp2_with fail
        obtain ⟨hb, hbx⟩ : RowKit.Below w.heap.size w (w.alloc (.cells #[.int .i64 rn, .int .i64 rd] 24)) ∧ NmB (w.alloc (.cells #[.int .i64 rn, .int .i64 rd] 24)) (w.heap.size) rn rd := by
          refine ⟨(by repeat' (first | (with_reducible refine Below.setCell ?_ ?_ _) | (with_reducible refine Below.alloc ?_ ?_ _) | (with_reducible refine Below.drew ?_) | (with_reducible refine below_drewN ?_ _) | (with_reducible exact Below.refl _ _) | omega | (simp; done) | (simp; omega))), ?_⟩
          · have h := NmB.new w rn rd
            exact h
        obtain ⟨w1, hw1⟩ : ∃ w1, w1 = (w.alloc (.cells #[.int .i64 rn, .int .i64 rd] 24)) := ⟨_, rfl⟩
        rw [← hw1] at hb hbx ⊢
        clear hw1
        have kHR := hbx
        have HB1 := Lib.hid (HB0.out.trans (hb.mono HB0.out.size))
        clear hb HB0
        have HR := Lib.hid kHR
        clear kHR
        refine (head_any _).mono ?_
        rintro _ w2 ⟨rfl, hb⟩
        have HB2 := Lib.hid (HB1.out.trans (hb.mono HB1.out.size))
        replace HR := Lib.hid (HR.out.below hb)
        clear hb HB1
        go_wp2_with fail
        refine (KB.out _ HB2.out).mono ?_
        rintro _ w3 ⟨rfl, hb⟩
        have HB3 := Lib.hid (HB2.out.trans (hb.mono HB2.out.size))
        replace HR := Lib.hid (HR.out.below hb)
        clear hb HB2
        obtain ⟨m0, m1⟩ := HR.out.all
        go_wp2_with fail
        refine (KR.out _).mono ?_
        rintro _ w4 ⟨rfl, hb⟩
        have HB4 := Lib.hid (HB3.out.trans (hb.mono HB3.out.size))
        replace HR := Lib.hid (HR.out.below hb)
        clear hb HB3
        clear m0 m1
        obtain ⟨m0, m1⟩ := HR.out.all
        go_wp2
        go_ret
        exact ⟨by first | rfl | (simp; done) | (simp; omega), HB4.out⟩
      have q3d : decide (1000 < rd) = false := decide_eq_false q3
      have hrd : 0 < rd := by have := hq.2.2.1; omega
      rcases scaleR_err hf rn rd with he | ⟨hl, he⟩
      · obtain ⟨h1, _, h3⟩ := scaleR_ok hf he
        have h3 := h3 x
        rw [he] at KS
        generalize (scaleR f rn rd).1 = S at *
        have HVS := Lib.hid (vR_iff.2 h1)
        have HVs := Lib.hid h1
        obtain ⟨b1, b2⟩ := vl_bd hf hx0.1 hx0.2
        obtain ⟨n, hn⟩ : ∃ n, n = (vl (AA S) x).num := ⟨_, rfl⟩
        obtain ⟨d, hd⟩ : ∃ d : Int, d = (vl (AA S) x).den := ⟨_, rfl⟩
        obtain ⟨n1, hn1⟩ : ∃ n, n = (vl (AA f) x).num := ⟨_, rfl⟩
        obtain ⟨d1, hd1⟩ : ∃ d : Int, d = (vl (AA f) x).den := ⟨_, rfl⟩
        have p1 := den_pos (vl (AA f) x)
        rw [← hn1] at b1
        rw [← hd1] at b2 p1
        have m1 := mul_bd (a := n1) (b := rn) (A := 2000000000000) (B := 1000) b1 (by omega)
        have m2 := mul_bd (a := d1) (b := rd) (A := 10000) (B := 1000) (by omega) (by omega)
        have m3 : 0 < d1 * rd := Int.mul_pos p1 hrd
        obtain ⟨u1, hu1⟩ : ∃ u, u = n1 * rn := ⟨_, rfl⟩
        obtain ⟨u2, hu2⟩ : ∃ u, u = d1 * rd := ⟨_, rfl⟩
        have e1 : IntKind.i64.wrap (n1 * rn) = u1 := by rw [hu1]; exact w64_id (x := n1 * rn) (by omega)
        have e2 : IntKind.i64.wrap (d1 * rd) = u2 := by rw [hu2]; exact w64_id (x := d1 * rd) (by omega)
        have KQ := fun w => rreduce_any (n1 * rn) (d1 * rd) w (by omega) (by omega) (by omega) (by omega)
        obtain ⟨g1, g2⟩ := rND (n := n1 * rn) (d := d1 * rd) (by omega) (by omega)
        have ev : fr (n1 * rn) (d1 * rd) = vl (AA S) x := by rw [h3, ← fr_mul p1 hrd, hn1, hd1, fr_self]
        rw [ev, ← hn] at g1
        rw [ev, ← hd] at g2
        rw [g1, g2] at KQ
        rw [← hu1, ← hu2] at KQ
        replace KQ := Lib.hid KQ
        have HN := Lib.hid hn
        have HD := Lib.hid hd
        have HN1 := Lib.hid hn1
        have HD1 := Lib.hid hd1
        clear hu1 hu2 hn hd hn1 hd1 h3 h1 b1 b2 m1 m2 m3 p1 g1 g2 ev he hf hb hS hx hx0 hq hr hrd q1 q2 q3
        go_enter Try.func9, Try.ntmps9
        go_wp2_with fail
        obtain ⟨hb, hbx⟩ : RowKit.Below w.heap.size w (w.alloc (.cells #[.int .i64 rn, .int .i64 rd] 24)) ∧ NmB (w.alloc (.cells #[.int .i64 rn, .int .i64 rd] 24)) (w.heap.size) rn rd := by
          refine ⟨(by repeat' (first | (with_reducible refine Below.setCell ?_ ?_ _) | (with_reducible refine Below.alloc ?_ ?_ _) | (with_reducible refine Below.drew ?_) | (with_reducible refine below_drewN ?_ _) | (with_reducible exact Below.refl _ _) | omega | (simp; done) | (simp; omega))), ?_⟩
          · have h := NmB.new w rn rd
            exact h
        obtain ⟨w1, hw1⟩ : ∃ w1, w1 = (w.alloc (.cells #[.int .i64 rn, .int .i64 rd] 24)) := ⟨_, rfl⟩
        rw [← hw1] at hb hbx ⊢
        clear hw1
        have kHR := hbx
        have HB1 := Lib.hid (HB0.out.trans (hb.mono HB0.out.size))
        clear hb HB0
        have HR := Lib.hid kHR
        clear kHR
        refine (head_any _).mono ?_
        rintro _ w2 ⟨rfl, hb⟩
        have HB2 := Lib.hid (HB1.out.trans (hb.mono HB1.out.size))
        replace HR := Lib.hid (HR.out.below hb)
        clear hb HB1
        go_wp2_with fail
        refine (KB.out _ HB2.out).mono ?_
        rintro _ w3 ⟨rfl, hb⟩
        have HB3 := Lib.hid (HB2.out.trans (hb.mono HB2.out.size))
        replace HR := Lib.hid (HR.out.below hb)
        clear hb HB2
        obtain ⟨m0, m1⟩ := HR.out.all
        go_wp2_with fail
        refine (KR.out _).mono ?_
        rintro _ w4 ⟨rfl, hb⟩
        have HB4 := Lib.hid (HB3.out.trans (hb.mono HB3.out.size))
        replace HR := Lib.hid (HR.out.below hb)
        clear hb HB3
        clear m0 m1
        obtain ⟨m0, m1⟩ := HR.out.all
        go_wp2_with fail
        refine (KX.out _).mono ?_
        rintro _ w5 ⟨rfl, hb⟩
        have HB5 := Lib.hid (HB4.out.trans (hb.mono HB4.out.size))
        replace HR := Lib.hid (HR.out.below hb)
        clear hb HB4
        clear m0 m1
        obtain ⟨m0, m1⟩ := HR.out.all
        go_wp2_with fail
        refine (KS.out _ HB5.out).mono ?_
        rintro _ w6 ⟨p_HS, b_HS, o_HS, n_HS, c_HS, rfl, hs, hb⟩
        have HB6 := Lib.hid (HB5.out.trans (hb.mono HB5.out.size))
        replace HR := Lib.hid (HR.out.below hb)
        clear hb HB5
        have HS := Lib.hid hs
        clear hs
        clear m0 m1
        go_wp2_with fail
        refine (val_n HVf.out HN1.out HD1.out HX0.out.1 HX0.out.2 _ _ _ _ _ _ (HF.out.below HB6.out)).mono ?_
        rintro _ w7 ⟨rfl, hb⟩
        have HB7 := Lib.hid (HB6.out.trans (hb.mono HB6.out.size))
        replace HR := Lib.hid (HR.out.below hb)
        replace HS := Lib.hid (HS.out.below hb)
        clear hb HB6
        go_wp2_with fail
        obtain ⟨hb, hbx⟩ : RowKit.Below w7.heap.size w7 (w7.alloc (.cells #[.int .i64 n1, .int .i64 d1] 24)) ∧ NmB (w7.alloc (.cells #[.int .i64 n1, .int .i64 d1] 24)) (w7.heap.size) n1 d1 := by
          refine ⟨(by repeat' (first | (with_reducible refine Below.setCell ?_ ?_ _) | (with_reducible refine Below.alloc ?_ ?_ _) | (with_reducible refine Below.drew ?_) | (with_reducible refine below_drewN ?_ _) | (with_reducible exact Below.refl _ _) | omega | (simp; done) | (simp; omega))), ?_⟩
          · have h := NmB.new w7 n1 d1
            exact h
        obtain ⟨w8, hw8⟩ : ∃ w8, w8 = (w7.alloc (.cells #[.int .i64 n1, .int .i64 d1] 24)) := ⟨_, rfl⟩
        rw [← hw8] at hb hbx ⊢
        clear hw8
        have kHM := hbx
        have HB8 := Lib.hid (HB7.out.trans (hb.mono HB7.out.size))
        replace HR := Lib.hid (HR.out.below hb)
        replace HS := Lib.hid (HS.out.below hb)
        clear hb HB7
        have HM := Lib.hid kHM
        clear kHM
        have KV1 := Lib.hid (fun p : Bw w8 => rvalid_b S true HVS.out _ _ _ c_HS _ p.w' (HS.out.below p.h))
        have KV2 := Lib.hid (fun p : Bw w8 => val_n HVs.out HN.out HD.out HX0.out.1 HX0.out.2 _ _ _ c_HS _ p.w' (HS.out.below p.h))
        obtain ⟨m0, m1⟩ := HR.out.all
        obtain ⟨m2, m3⟩ := HM.out.all
        have z1 := (Array.getElem?_eq_some_iff.1 HR.out).1
        have z2 := (Array.getElem?_eq_some_iff.1 HM.out).1
        replace m0 := cell_bw z1 m0
        replace m1 := cell_bw z1 m1
        replace m2 := cell_bw z2 m2
        replace m3 := cell_bw z2 m3
        refine wp_region_bw mixed (by kernel_rfl) ?_
        repeat (go_big_quiet_step ((first | (with_reducible refine Calls.bw_of (KV1.out _)) | (with_reducible refine Calls.bw_of (KV2.out _)) | (with_reducible refine Calls.bw_of (KQ.out _)))))
        refine wpQuiet_nil ?_
        intro W HW
        replace HW := bw_out HW
        go_wp2
        go_ret
        exact ⟨by first | rfl | (simp; done) | (simp; omega), HB8.out.trans (HW.mono HB8.out.size)⟩
      · rw [hl, he] at KS
        clear hS hb hf hx hx0 hl he hq hr hrd q1 q2 q3
        go_enter Try.func9, Try.ntmps9
        go_wp2_with fail
        obtain ⟨hb, hbx⟩ : RowKit.Below w.heap.size w (w.alloc (.cells #[.int .i64 rn, .int .i64 rd] 24)) ∧ NmB (w.alloc (.cells #[.int .i64 rn, .int .i64 rd] 24)) (w.heap.size) rn rd := by
          refine ⟨(by repeat' (first | (with_reducible refine Below.setCell ?_ ?_ _) | (with_reducible refine Below.alloc ?_ ?_ _) | (with_reducible refine Below.drew ?_) | (with_reducible refine below_drewN ?_ _) | (with_reducible exact Below.refl _ _) | omega | (simp; done) | (simp; omega))), ?_⟩
          · have h := NmB.new w rn rd
            exact h
        obtain ⟨w1, hw1⟩ : ∃ w1, w1 = (w.alloc (.cells #[.int .i64 rn, .int .i64 rd] 24)) := ⟨_, rfl⟩
        rw [← hw1] at hb hbx ⊢
        clear hw1
        have kHR := hbx
        have HB1 := Lib.hid (HB0.out.trans (hb.mono HB0.out.size))
        clear hb HB0
        have HR := Lib.hid kHR
        clear kHR
        refine (head_any _).mono ?_
        rintro _ w2 ⟨rfl, hb⟩
        have HB2 := Lib.hid (HB1.out.trans (hb.mono HB1.out.size))
        replace HR := Lib.hid (HR.out.below hb)
        clear hb HB1
        go_wp2_with fail
        refine (KB.out _ HB2.out).mono ?_
        rintro _ w3 ⟨rfl, hb⟩
        have HB3 := Lib.hid (HB2.out.trans (hb.mono HB2.out.size))
        replace HR := Lib.hid (HR.out.below hb)
        clear hb HB2
        obtain ⟨m0, m1⟩ := HR.out.all
        go_wp2_with fail
        refine (KR.out _).mono ?_
        rintro _ w4 ⟨rfl, hb⟩
        have HB4 := Lib.hid (HB3.out.trans (hb.mono HB3.out.size))
        replace HR := Lib.hid (HR.out.below hb)
        clear hb HB3
        clear m0 m1
        obtain ⟨m0, m1⟩ := HR.out.all
        go_wp2_with fail
        refine (KX.out _).mono ?_
        rintro _ w5 ⟨rfl, hb⟩
        have HB5 := Lib.hid (HB4.out.trans (hb.mono HB4.out.size))
        replace HR := Lib.hid (HR.out.below hb)
        clear hb HB4
        clear m0 m1
        obtain ⟨m0, m1⟩ := HR.out.all
        go_wp2_with fail
        refine (KS.out _ HB5.out).mono ?_
        rintro _ w6 ⟨p_HS, b_HS, o_HS, n_HS, c_HS, rfl, hs, hb⟩
        have HB6 := Lib.hid (HB5.out.trans (hb.mono HB5.out.size))
        replace HR := Lib.hid (HR.out.below hb)
        clear hb HB5
        have HS := Lib.hid hs
        clear hs
        clear m0 m1
        obtain rfl : n_HS = 0 := HS.out.ln.symm
        go_wp2
        go_ret
        exact ⟨by first | rfl | (simp; done) | (simp; omega), HB6.out⟩
end Go.Proofs.Ytmjdolgcgbiajaa
