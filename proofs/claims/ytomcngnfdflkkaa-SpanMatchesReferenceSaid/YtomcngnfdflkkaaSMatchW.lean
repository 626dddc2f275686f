/-
  The walk of the law on the reference implementation.
-/
import Derived.Test.YtomcngnfdflkkaaSRef2
import Derived.Test.YtomcngnfdflkkaaSLaw
namespace Go.Proofs.Ytomcngnfdflkkaa
open Go.RowKit Spn Go.Sort

theorem out2_at {w w' : World} {l : List (Int × Int)} {er : Int} {e : Ending} (h : Out2 w l er e w') : ∃ p b cap, e = .returned (.tuple #[.slice p l.length cap, .int .i64 er]) ∧ Sl w' p b 0 l.length l ∧ RowKit.Below w.heap.size w w' := by
  obtain ⟨p, b, len, cap, rfl, hs, hb⟩ := h
  have := hs.1
  subst this
  exact ⟨p, b, cap, rfl, hs, hb⟩

set_option maxRecDepth 100000 in
set_option maxHeartbeats 8000000 in
theorem match_law (a : List (Int × Int)) (p : Option Addr) (bl off cap len : Nat) (b : List (Int × Int)) (p' : Option Addr) (bl' off' cap' len' : Nat) (day : Int) (w : World) (hS : Sl w p bl off len a) (hS' : Sl w p' bl' off' len' b) (_d0 : -9223372036854775808 ≤ day) (_d1 : day ≤ 9223372036854775807) :
    Calls Try.prog 3 #[.slice p len cap, .slice p' len' cap', .int .i64 day] w fun e w' => e = .returned (.bool true) ∧ RowKit.Below w.heap.size w w' := by
  have hm := hS.2.2.2.2.1
  have hm' := hS'.2.2.2.2.1
  by_cases h1 : len ≤ 1200
  · by_cases h2 : len' ≤ 1200
    · have z1 : decide ((1200 : Int) < (len : Int)) = false := decide_eq_false (by omega)
      have z2 : ¬ (1200 : Int) < (len' : Int) := by omega
      have z2' : decide ((1200 : Int) < (len' : Int)) = false := decide_eq_false (by omega)
      obtain ⟨cv, hcv⟩ : ∃ c, c = vl a := ⟨_, rfl⟩
      have hcc : (cv == cv) = true := by simp
      have KV := Lib.hid (fun w' (h : RowKit.Below w.heap.size w w') => valid_b a p bl off cap len cv hcv.symm w' (hS.below h))
      have KV2 := Lib.hid (fun w' (h : RowKit.Below w.heap.size w w') => rValid_b a p bl off cap len cv hcv.symm w' (hS.below h))
      obtain ⟨vN, hvN⟩ : ∃ v, v = noV a := ⟨_, rfl⟩
      obtain ⟨eN, heN⟩ : ∃ v, v = noE a := ⟨_, rfl⟩
      have hqN : (eN == eN) = true := by simp
      have KN := Lib.hid (fun w' (h : RowKit.Below w.heap.size w w') => (show Calls Try.prog 12 #[.slice p len cap] w' fun e w'' => ∃ q g c, e = .returned (.tuple #[.slice q vN.length c, .int .i64 eN]) ∧ Sl w'' q g 0 vN.length vN ∧ RowKit.Below w'.heap.size w' w'' by rw [hvN, heN]; exact (Normal_any a p bl off cap len w' (hS.below h) (by omega)).mono fun _ _ h => out2_at h))
      have KN2 := Lib.hid (fun w' (h : RowKit.Below w.heap.size w w') => (show Calls Try.prog 13 #[.slice p len cap] w' fun e w'' => ∃ q g c, e = .returned (.tuple #[.slice q vN.length c, .int .i64 eN]) ∧ Sl w'' q g 0 vN.length vN ∧ RowKit.Below w'.heap.size w' w'' by rw [hvN, heN]; exact (rNormal_any a p bl off cap len w' (hS.below h)).mono fun _ _ h => out2_at h))
      obtain ⟨vU, hvU⟩ : ∃ v, v = opV kU a b := ⟨_, rfl⟩
      obtain ⟨eU, heU⟩ : ∃ v, v = opE kU a b := ⟨_, rfl⟩
      have hqU : (eU == eU) = true := by simp
      have KU := Lib.hid (fun w' (h : RowKit.Below w.heap.size w w') => (show Calls Try.prog 15 #[.slice p len cap, .slice p' len' cap'] w' fun e w'' => ∃ q g c, e = .returned (.tuple #[.slice q vU.length c, .int .i64 eU]) ∧ Sl w'' q g 0 vU.length vU ∧ RowKit.Below w'.heap.size w' w'' by rw [hvU, heU]; exact (Union_any a b p p' bl off cap len bl' off' cap' len' w' (hS.below h) (hS'.below h)).mono fun _ _ h => out2_at h))
      have KU2 := Lib.hid (fun w' (h : RowKit.Below w.heap.size w w') => (show Calls Try.prog 16 #[.slice p len cap, .slice p' len' cap'] w' fun e w'' => ∃ q g c, e = .returned (.tuple #[.slice q vU.length c, .int .i64 eU]) ∧ Sl w'' q g 0 vU.length vU ∧ RowKit.Below w'.heap.size w' w'' by rw [hvU, heU]; exact (rUnion_any a b p p' bl off cap len bl' off' cap' len' w' (hS.below h) (hS'.below h)).mono fun _ _ h => out2_at h))
      obtain ⟨vM, hvM⟩ : ∃ v, v = opV kM a b := ⟨_, rfl⟩
      obtain ⟨eM, heM⟩ : ∃ v, v = opE kM a b := ⟨_, rfl⟩
      have hqM : (eM == eM) = true := by simp
      have KM := Lib.hid (fun w' (h : RowKit.Below w.heap.size w w') => (show Calls Try.prog 17 #[.slice p len cap, .slice p' len' cap'] w' fun e w'' => ∃ q g c, e = .returned (.tuple #[.slice q vM.length c, .int .i64 eM]) ∧ Sl w'' q g 0 vM.length vM ∧ RowKit.Below w'.heap.size w' w'' by rw [hvM, heM]; exact (Meet_any a b p p' bl off cap len bl' off' cap' len' w' (hS.below h) (hS'.below h)).mono fun _ _ h => out2_at h))
      have KM2 := Lib.hid (fun w' (h : RowKit.Below w.heap.size w w') => (show Calls Try.prog 18 #[.slice p len cap, .slice p' len' cap'] w' fun e w'' => ∃ q g c, e = .returned (.tuple #[.slice q vM.length c, .int .i64 eM]) ∧ Sl w'' q g 0 vM.length vM ∧ RowKit.Below w'.heap.size w' w'' by rw [hvM, heM]; exact (rMeet_any a b p p' bl off cap len bl' off' cap' len' w' (hS.below h) (hS'.below h)).mono fun _ _ h => out2_at h))
      obtain ⟨vW, hvW⟩ : ∃ v, v = opV kW a b := ⟨_, rfl⟩
      obtain ⟨eW, heW⟩ : ∃ v, v = opE kW a b := ⟨_, rfl⟩
      have hqW : (eW == eW) = true := by simp
      have KW := Lib.hid (fun w' (h : RowKit.Below w.heap.size w w') => (show Calls Try.prog 19 #[.slice p len cap, .slice p' len' cap'] w' fun e w'' => ∃ q g c, e = .returned (.tuple #[.slice q vW.length c, .int .i64 eW]) ∧ Sl w'' q g 0 vW.length vW ∧ RowKit.Below w'.heap.size w' w'' by rw [hvW, heW]; exact (Without_any a b p p' bl off cap len bl' off' cap' len' w' (hS.below h) (hS'.below h)).mono fun _ _ h => out2_at h))
      have KW2 := Lib.hid (fun w' (h : RowKit.Below w.heap.size w w') => (show Calls Try.prog 20 #[.slice p len cap, .slice p' len' cap'] w' fun e w'' => ∃ q g c, e = .returned (.tuple #[.slice q vW.length c, .int .i64 eW]) ∧ Sl w'' q g 0 vW.length vW ∧ RowKit.Below w'.heap.size w' w'' by rw [hvW, heW]; exact (rWithout_any a b p p' bl off cap len bl' off' cap' len' w' (hS.below h) (hS'.below h)).mono fun _ _ h => out2_at h))
      obtain ⟨hb, hhb⟩ : ∃ v, v = hsV a day := ⟨_, rfl⟩
      obtain ⟨hx, hhx⟩ : ∃ v, v = hsE a := ⟨_, rfl⟩
      have hbb : (hb == hb) = true := by simp
      have hxx : (hx == hx) = true := by simp
      obtain ⟨cb, hcb⟩ : ∃ v, v = ctV a := ⟨_, rfl⟩
      obtain ⟨cx, hcx⟩ : ∃ v, v = ctE a := ⟨_, rfl⟩
      have cbb : (cb == cb) = true := by simp
      have cxx : (cx == cx) = true := by simp
      have KH := Lib.hid (fun w' (h : RowKit.Below w.heap.size w w') => (show Calls Try.prog 21 #[.slice p len cap, .int .i64 day] w' fun e w'' => e = .returned (.tuple #[.bool hb, .int .i64 hx]) ∧ RowKit.Below w'.heap.size w' w'' by rw [hhb, hhx]; exact Has_any a day p bl off cap len w' (hS.below h)))
      have KC := Lib.hid (fun w' (h : RowKit.Below w.heap.size w w') => (show Calls Try.prog 23 #[.slice p len cap] w' fun e w'' => e = .returned (.tuple #[.int .i64 cb, .int .i64 cx]) ∧ RowKit.Below w'.heap.size w' w'' by rw [hcb, hcx]; exact Count_any a p bl off cap len w' (hS.below h)))
      have KH2 := Lib.hid (fun w' (h : RowKit.Below w.heap.size w w') => (show Calls Try.prog 22 #[.slice p len cap, .int .i64 day] w' fun e w'' => e = .returned (.tuple #[.bool hb, .int .i64 hx]) ∧ RowKit.Below w'.heap.size w' w'' by rw [hhb, hhx]; exact rHas_any a day p bl off cap len w' (hS.below h)))
      have KC2 := Lib.hid (fun w' (h : RowKit.Below w.heap.size w w') => (show Calls Try.prog 24 #[.slice p len cap] w' fun e w'' => e = .returned (.tuple #[.int .i64 cb, .int .i64 cx]) ∧ RowKit.Below w'.heap.size w' w'' by rw [hcb, hcx]; exact rCount_any a p bl off cap len w' (hS.below h)))
      clear hcv hvN heN hvU heU hvM heM hvW heW hhb hhx hcb hcx hS hS'
      have HB0 : Hid (RowKit.Below w.heap.size w w) := Below.refl _ _
      go_enter Try.func3, Try.ntmps3
      go_wp2_with fail
      refine (head_any _).mono ?_
      rintro _ w1 ⟨rfl, hb⟩
      have HB1 := Lib.hid (HB0.out.trans (hb.mono HB0.out.size))
      clear hb HB0
      go_wp2_with fail
      refine (KV.out _ HB1.out).mono ?_
      rintro _ w2 ⟨rfl, hb⟩
      have HB2 := Lib.hid (HB1.out.trans (hb.mono HB1.out.size))
      clear hb HB1
      go_wp2_with fail
      refine (KV2.out _ HB2.out).mono ?_
      rintro _ w3 ⟨rfl, hb⟩
      have HB3 := Lib.hid (HB2.out.trans (hb.mono HB2.out.size))
      clear hb HB2
      go_wp2_with fail
      refine (KN.out _ HB3.out).mono ?_
      rintro _ w4 ⟨q4, g4, c4, rfl, hs, hb⟩
      have HB4 := Lib.hid (HB3.out.trans (hb.mono HB3.out.size))
      clear hb HB3
      have RX := Lib.hid (hs.rd (cap := c4))
      clear hs
      go_wp2_with fail
      refine (KN2.out _ HB4.out).mono ?_
      rintro _ w5 ⟨q5, g5, c5, rfl, hs, hb⟩
      have HB5 := Lib.hid (HB4.out.trans (hb.mono HB4.out.size))
      have RX' := Lib.hid (RX.out.below hb)
      clear RX
      have RX := RX'
      clear RX'
      clear hb HB4
      have RY := Lib.hid (hs.rd (cap := c5))
      clear hs
      go_wp2_with fail
      refine (sameR true (decide_eq_true rfl) _ _ _ RX.out RY.out).mono ?_
      rintro _ w6 ⟨rfl, hb⟩
      have HB6 := Lib.hid (HB5.out.trans (hb.mono HB5.out.size))
      have RX' := Lib.hid (RX.out.below hb)
      clear RX
      have RX := RX'
      clear RX'
      have RY' := Lib.hid (RY.out.below hb)
      clear RY
      have RY := RY'
      clear RY'
      clear hb HB5
      clear RX RY
      go_wp2_with fail
      refine (KU.out _ HB6.out).mono ?_
      rintro _ w7 ⟨q7, g7, c7, rfl, hs, hb⟩
      have HB7 := Lib.hid (HB6.out.trans (hb.mono HB6.out.size))
      clear hb HB6
      have RX := Lib.hid (hs.rd (cap := c7))
      clear hs
      go_wp2_with fail
      refine (KU2.out _ HB7.out).mono ?_
      rintro _ w8 ⟨q8, g8, c8, rfl, hs, hb⟩
      have HB8 := Lib.hid (HB7.out.trans (hb.mono HB7.out.size))
      have RX' := Lib.hid (RX.out.below hb)
      clear RX
      have RX := RX'
      clear RX'
      clear hb HB7
      have RY := Lib.hid (hs.rd (cap := c8))
      clear hs
      go_wp2_with fail
      refine (sameR true (decide_eq_true rfl) _ _ _ RX.out RY.out).mono ?_
      rintro _ w9 ⟨rfl, hb⟩
      have HB9 := Lib.hid (HB8.out.trans (hb.mono HB8.out.size))
      have RX' := Lib.hid (RX.out.below hb)
      clear RX
      have RX := RX'
      clear RX'
      have RY' := Lib.hid (RY.out.below hb)
      clear RY
      have RY := RY'
      clear RY'
      clear hb HB8
      clear RX RY
      go_wp2_with fail
      refine (KM.out _ HB9.out).mono ?_
      rintro _ w10 ⟨q10, g10, c10, rfl, hs, hb⟩
      have HB10 := Lib.hid (HB9.out.trans (hb.mono HB9.out.size))
      clear hb HB9
      have RX := Lib.hid (hs.rd (cap := c10))
      clear hs
      go_wp2_with fail
      refine (KM2.out _ HB10.out).mono ?_
      rintro _ w11 ⟨q11, g11, c11, rfl, hs, hb⟩
      have HB11 := Lib.hid (HB10.out.trans (hb.mono HB10.out.size))
      have RX' := Lib.hid (RX.out.below hb)
      clear RX
      have RX := RX'
      clear RX'
      clear hb HB10
      have RY := Lib.hid (hs.rd (cap := c11))
      clear hs
      go_wp2_with fail
      refine (sameR true (decide_eq_true rfl) _ _ _ RX.out RY.out).mono ?_
      rintro _ w12 ⟨rfl, hb⟩
      have HB12 := Lib.hid (HB11.out.trans (hb.mono HB11.out.size))
      have RX' := Lib.hid (RX.out.below hb)
      clear RX
      have RX := RX'
      clear RX'
      have RY' := Lib.hid (RY.out.below hb)
      clear RY
      have RY := RY'
      clear RY'
      clear hb HB11
      clear RX RY
      go_wp2_with fail
      refine (KW.out _ HB12.out).mono ?_
      rintro _ w13 ⟨q13, g13, c13, rfl, hs, hb⟩
      have HB13 := Lib.hid (HB12.out.trans (hb.mono HB12.out.size))
      clear hb HB12
      have RX := Lib.hid (hs.rd (cap := c13))
      clear hs
      go_wp2_with fail
      refine (KW2.out _ HB13.out).mono ?_
      rintro _ w14 ⟨q14, g14, c14, rfl, hs, hb⟩
      have HB14 := Lib.hid (HB13.out.trans (hb.mono HB13.out.size))
      have RX' := Lib.hid (RX.out.below hb)
      clear RX
      have RX := RX'
      clear RX'
      clear hb HB13
      have RY := Lib.hid (hs.rd (cap := c14))
      clear hs
      go_wp2_with fail
      refine (sameR true (decide_eq_true rfl) _ _ _ RX.out RY.out).mono ?_
      rintro _ w15 ⟨rfl, hb⟩
      have HB15 := Lib.hid (HB14.out.trans (hb.mono HB14.out.size))
      have RX' := Lib.hid (RX.out.below hb)
      clear RX
      have RX := RX'
      clear RX'
      have RY' := Lib.hid (RY.out.below hb)
      clear RY
      have RY := RY'
      clear RY'
      clear hb HB14
      clear RX RY
      go_wp2_with fail
      refine (KH.out _ HB15.out).mono ?_
      rintro _ w16 ⟨rfl, hb⟩
      have HB16 := Lib.hid (HB15.out.trans (hb.mono HB15.out.size))
      clear hb HB15
      go_wp2_with fail
      refine (KH2.out _ HB16.out).mono ?_
      rintro _ w17 ⟨rfl, hb⟩
      have HB17 := Lib.hid (HB16.out.trans (hb.mono HB16.out.size))
      clear hb HB16
      go_wp2_with fail
      refine (KC.out _ HB17.out).mono ?_
      rintro _ w18 ⟨rfl, hb⟩
      have HB18 := Lib.hid (HB17.out.trans (hb.mono HB17.out.size))
      clear hb HB17
      go_wp2_with fail
      refine (KC2.out _ HB18.out).mono ?_
      rintro _ w19 ⟨rfl, hb⟩
      have HB19 := Lib.hid (HB18.out.trans (hb.mono HB18.out.size))
      clear hb HB18
      go_wp2
      go_ret
      exact ⟨by first | rfl | (simp; done), HB19.out⟩
    · have z1 : decide ((1200 : Int) < (len : Int)) = false := decide_eq_false (by omega)
      have z2 : (1200 : Int) < (len' : Int) := by omega
      clear hS hS'
      have HB0 : Hid (RowKit.Below w.heap.size w w) := Below.refl _ _
      go_enter Try.func3, Try.ntmps3
      go_wp2_with fail
      refine (head_any _).mono ?_
      rintro _ w1 ⟨rfl, hb⟩
      have HB1 := Lib.hid (HB0.out.trans (hb.mono HB0.out.size))
      clear hb HB0
      go_wp2
      go_ret
      exact ⟨by first | rfl | (simp; done), HB1.out⟩
  · have z1 : (1200 : Int) < (len : Int) := by omega
    clear hS hS'
    have HB0 : Hid (RowKit.Below w.heap.size w w) := Below.refl _ _
    go_enter Try.func3, Try.ntmps3
    go_wp2_with fail
    refine (head_any _).mono ?_
    rintro _ w1 ⟨rfl, hb⟩
    have HB1 := Lib.hid (HB0.out.trans (hb.mono HB0.out.size))
    clear hb HB0
    go_wp2
    go_ret
    exact ⟨by first | rfl | (simp; done), HB1.out⟩
end Go.Proofs.Ytomcngnfdflkkaa
