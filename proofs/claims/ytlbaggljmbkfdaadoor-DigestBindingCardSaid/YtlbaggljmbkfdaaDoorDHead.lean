/-
  The head of the laws of layer 6: the examples.
-/
import Derived.Test.YtlbaggljmbkfdaaDoorDCon
namespace Go.Proofs.YtlbaggljmbkfdaaDoor
open Go.RowKit Dg

theorem bytes_lf (x : Nat) : Bytes (lfB x) := fun c hc => by
  rcases List.mem_cons.1 hc with rfl | hc
  · decide
  · exact by8_bytes x c hc
theorem bytes_pr (x y : Nat) : Bytes (prB x y) := fun c hc => by
  rcases List.mem_cons.1 hc with rfl | hc
  · decide
  · rcases List.mem_append.1 hc with hc | hc
    · exact by8_bytes x c hc
    · exact by8_bytes y c hc
theorem blk_lf (x : Nat) : 0 :: blk [x] = lfB x := by unfold lfB; simp [blk]
theorem blk_pr (x y : Nat) : 1 :: blk [x, y] = prB x y := by unfold prB; simp [blk]

set_option maxRecDepth 100000 in
set_option maxHeartbeats 4000000 in
theorem head_any (w : World) (hT : Tab w) : Calls Tryd.prog 10 #[] w fun e w' => e = .returned (.bool true) ∧ RowKit.Below w.heap.size w w' := by
  have HT0 := Lib.hid hT
  obtain ⟨A, hA⟩ : ∃ A, A = lfN 5 := ⟨_, rfl⟩
  obtain ⟨B, hB⟩ : ∃ A, A = lfN 6 := ⟨_, rfl⟩
  obtain ⟨C, hC⟩ : ∃ A, A = lfN 7 := ⟨_, rfl⟩
  obtain ⟨AB, hAB⟩ : ∃ X, X = prN A B := ⟨_, rfl⟩
  obtain ⟨R, hR⟩ : ∃ X, X = prN AB C := ⟨_, rfl⟩
  obtain ⟨N9, hN9⟩ : ∃ N, N = 9 := ⟨_, rfl⟩
  obtain ⟨N17, hN17⟩ : ∃ N, N = 17 := ⟨_, rfl⟩
  obtain ⟨N1, hN1⟩ : ∃ N, N = 1 := ⟨_, rfl⟩
  obtain ⟨LA, hLA⟩ : ∃ L, L = lfB 5 := ⟨_, rfl⟩
  obtain ⟨LB, hLB⟩ : ∃ L, L = lfB 6 := ⟨_, rfl⟩
  obtain ⟨LC, hLC⟩ : ∃ L, L = lfB 7 := ⟨_, rfl⟩
  obtain ⟨LAB, hLAB⟩ : ∃ L, L = prB A B := ⟨_, rfl⟩
  obtain ⟨LR, hLR⟩ : ∃ L, L = prB AB C := ⟨_, rfl⟩
  obtain ⟨IH, hIH⟩ : ∃ D, D = dig (txs [12, -3]) := ⟨_, rfl⟩
  have hrt : rt [5, 6, 7] = R := by rw [rt_567, hR, hAB, hA, hB, hC]
  have hpt : pt [5, 6, 7] 2 = [AB] := by rw [pt_567, hAB, hA, hB]
  have HIH : Hid (dig (txs [12, -3]) = IH) := hIH.symm
  have HIS : Hid (dig [49, 50, 32, 45, 51, 32] = IH) := by show _ = _; rw [hIH, txs_head]
  have HR : Hid (rtR [5, 6, 7] = R) := by show _ = _; unfold rtR; rw [if_pos (by decide), hrt]
  have HP2 : Hid (ptR [5, 6, 7] 2 = [AB]) := by show _ = _; unfold ptR; rw [if_pos (by decide)]; exact hpt
  have HPn : Hid ([AB].length = N1) := hN1.symm
  have HBA : Hid (0 :: blk [5] = LA) := by show _ = _; rw [hLA, blk_lf]
  have HBB : Hid (0 :: blk [6] = LB) := by show _ = _; rw [hLB, blk_lf]
  have HBC : Hid (0 :: blk [7] = LC) := by show _ = _; rw [hLC, blk_lf]
  have HBAB : Hid (1 :: blk [A, B] = LAB) := by show _ = _; rw [hLAB, blk_pr]
  have HBR : Hid (1 :: blk [AB, C] = LR) := by show _ = _; rw [hLR, blk_pr]
  have HNA : Hid (LA.length = N9) := by show _ = _; rw [hLA, hN9]; rfl
  have HNB : Hid (LB.length = N9) := by show _ = _; rw [hLB, hN9]; rfl
  have HNC : Hid (LC.length = N9) := by show _ = _; rw [hLC, hN9]; rfl
  have HNAB : Hid (LAB.length = N17) := by show _ = _; rw [hLAB, hN17]; rfl
  have HNR : Hid (LR.length = N17) := by show _ = _; rw [hLR, hN17]; rfl
  have HDA : Hid (dig LA = A) := by show _ = _; rw [hLA, hA]; rfl
  have HDB : Hid (dig LB = B) := by show _ = _; rw [hLB, hB]; rfl
  have HDC : Hid (dig LC = C) := by show _ = _; rw [hLC, hC]; rfl
  have HDAB : Hid (dig LAB = AB) := by show _ = _; rw [hLAB, hAB]; rfl
  have HDR : Hid (dig LR = R) := by show _ = _; rw [hLR, hR]; rfl
  have HYA : Hid (Bytes LA) := by rw [hLA]; exact bytes_lf _
  have HYB : Hid (Bytes LB) := by rw [hLB]; exact bytes_lf _
  have HYC : Hid (Bytes LC) := by rw [hLC]; exact bytes_lf _
  have HYAB : Hid (Bytes LAB) := by rw [hLAB]; exact bytes_pr _ _
  have HYR : Hid (Bytes LR) := by rw [hLR]; exact bytes_pr _ _
  have HCK : Hid (ck R 7 2 3 [AB] = true) := by
    have := ck_yes (l := [5, 6, 7]) (i := 2) (by decide) (by decide)
    rw [hrt, hpt] at this
    exact this
  clear hA hB hC hAB hR hN9 hN17 hN1 hLA hLB hLC hLAB hLR hIH hrt hpt
  have hcv := conv_lit
  go_enter Tryd.func10, Tryd.ntmps10
  have HB0 : Hid (RowKit.Below w.heap.size w w) := Below.refl _ _
  go_wp2_with fail
  refine (sumK dig_0 (by unfold Bytes; decide) (SlF.nil _ none)).mono ?_
  rintro _ w1 ⟨rfl, hb⟩
  have HB1 := Lib.hid (HB0.out.trans (hb.mono HB0.out.size))
  have HT1 := Lib.hid (HT0.out.below hb)
  clear hb
  have HB2 := Lib.hid (HB1.out.alloc HB1.out.size (.cells (([97] : List _).map u8v).toArray 5 (1, 2)))
  have HS2 := Lib.hid (SlF.lit w1 u8v [97] 5 (fr := (1, 2)))
  have HT2 := Lib.hid (HT1.out.below ((Below.refl _ _).alloc (Nat.le_refl _) (.cells (([97] : List _).map u8v).toArray 5 (1, 2))))
  go_wp2_with fail
  refine (sumK dig_a (by unfold Bytes; decide) HS2.out).mono ?_
  rintro _ w3 ⟨rfl, hb⟩
  have HB3 := Lib.hid (HB2.out.trans (hb.mono HB2.out.size))
  have HT3 := Lib.hid (HT2.out.below hb)
  have HS3 := Lib.hid (HS2.out.bel hb)
  clear hb
  have HB4 := Lib.hid (HB3.out.alloc HB3.out.size (.cells (([102, 111, 111, 98, 97, 114] : List _).map u8v).toArray 5 (6, 7)))
  have HS4 := Lib.hid (SlF.lit w3 u8v [102, 111, 111, 98, 97, 114] 5 (fr := (6, 7)))
  have HT4 := Lib.hid (HT3.out.below ((Below.refl _ _).alloc (Nat.le_refl _) (.cells (([102, 111, 111, 98, 97, 114] : List _).map u8v).toArray 5 (6, 7))))
  go_wp2_with fail
  refine (sumK dig_foobar (by unfold Bytes; decide) HS4.out).mono ?_
  rintro _ w5 ⟨rfl, hb⟩
  have HB5 := Lib.hid (HB4.out.trans (hb.mono HB4.out.size))
  have HT5 := Lib.hid (HT4.out.below hb)
  have HS5 := Lib.hid (HS4.out.bel hb)
  clear hb
  have HB6 := Lib.hid (HB5.out.alloc HB5.out.size (.cells (([12, -3] : List _).map i64v).toArray 3))
  have HS6 := Lib.hid (SlF.lit w5 i64v [12, -3] 3 (fr := (0, 0)))
  have HT6 := Lib.hid (HT5.out.below ((Below.refl _ _).alloc (Nat.le_refl _) (.cells (([12, -3] : List _).map i64v).toArray 3)))
  go_wp2_with fail
  refine (intsK HIH.out (by unfold I64s; decide) HS6.out HT6.out).mono ?_
  rintro _ w7 ⟨rfl, hb⟩
  have HB7 := Lib.hid (HB6.out.trans (hb.mono HB6.out.size))
  have HT7 := Lib.hid (HT6.out.below hb)
  have HS7 := Lib.hid (HS6.out.bel hb)
  clear hb
  have HB8 := Lib.hid (HB7.out.alloc HB7.out.size (.cells (([49, 50, 32, 45, 51, 32] : List _).map u8v).toArray 5 (6, 7)))
  have HS8 := Lib.hid (SlF.lit w7 u8v [49, 50, 32, 45, 51, 32] 5 (fr := (6, 7)))
  have HT8 := Lib.hid (HT7.out.below ((Below.refl _ _).alloc (Nat.le_refl _) (.cells (([49, 50, 32, 45, 51, 32] : List _).map u8v).toArray 5 (6, 7))))
  go_wp2_with fail
  refine (sumK HIS.out (by unfold Bytes; decide) HS8.out).mono ?_
  rintro _ w9 ⟨rfl, hb⟩
  have HB9 := Lib.hid (HB8.out.trans (hb.mono HB8.out.size))
  have HT9 := Lib.hid (HT8.out.below hb)
  have HS9 := Lib.hid (HS8.out.bel hb)
  clear hb
  have HB10 := Lib.hid (HB9.out.alloc HB9.out.size (.cells (([5, 6, 7] : List _).map u64v).toArray 25))
  have HL10 := Lib.hid (SlF.lit w9 u64v [5, 6, 7] 25 (fr := (0, 0)))
  have HT10 := Lib.hid (HT9.out.below ((Below.refl _ _).alloc (Nat.le_refl _) (.cells (([5, 6, 7] : List _).map u64v).toArray 25)))
  go_wp2_with fail
  refine (rootK (E := 0) HR.out (by decide) HL10.out).mono ?_
  rintro _ w11 ⟨rfl, hb⟩
  have HB11 := Lib.hid (HB10.out.trans (hb.mono HB10.out.size))
  have HT11 := Lib.hid (HT10.out.below hb)
  have HL11 := Lib.hid (HL10.out.bel hb)
  clear hb
  go_wp2_with fail
  refine (pathK (E := 0) HP2.out (by decide) HPn.out HL11.out).mono ?_
  rintro _ w12 ⟨q12, b12, cap12, rfl, hs, hc12, hb⟩
  have hcP := Lib.hid hc12
  have HB12 := Lib.hid (HB11.out.trans (hb.mono HB11.out.size))
  have HT12 := Lib.hid (HT11.out.below hb)
  have HL12 := Lib.hid (HL11.out.bel hb)
  clear hb
  have HP12 := Lib.hid hs
  clear hs
  have HB13 := Lib.hid (HB12.out.alloc HB12.out.size (.cells (([5] : List _).map u64v).toArray 25))
  have HL13 := Lib.hid (HL12.out.alloc (.cells (([5] : List _).map u64v).toArray 25))
  have HP13 := Lib.hid (HP12.out.alloc (.cells (([5] : List _).map u64v).toArray 25))
  have HS13 := Lib.hid (SlF.lit w12 u64v [5] 25 (fr := (0, 0)))
  have HT13 := Lib.hid (HT12.out.below ((Below.refl _ _).alloc (Nat.le_refl _) (.cells (([5] : List _).map u64v).toArray 25)))
  go_wp2_with fail
  refine (bytesK HBA.out HNA.out HS13.out (by simp)).mono ?_
  rintro _ w14 ⟨q14, b14, cap14, rfl, hs, hc14, hb⟩
  have HB14 := Lib.hid (HB13.out.trans (hb.mono HB13.out.size))
  have HT14 := Lib.hid (HT13.out.below hb)
  have HL14 := Lib.hid (HL13.out.bel hb)
  have HP14 := Lib.hid (HP13.out.bel hb)
  have HS14 := Lib.hid (HS13.out.bel hb)
  clear hb
  have HQ14 := Lib.hid hs
  clear hs
  go_wp2_with fail
  refine (sumK HDA.out HYA.out HQ14.out).mono ?_
  rintro _ w15 ⟨rfl, hb⟩
  have HB15 := Lib.hid (HB14.out.trans (hb.mono HB14.out.size))
  have HT15 := Lib.hid (HT14.out.below hb)
  have HL15 := Lib.hid (HL14.out.bel hb)
  have HP15 := Lib.hid (HP14.out.bel hb)
  have HQ15 := Lib.hid (HQ14.out.bel hb)
  clear hb
  have HB16 := Lib.hid (HB15.out.alloc HB15.out.size (.cells (([6] : List _).map u64v).toArray 25))
  have HL16 := Lib.hid (HL15.out.alloc (.cells (([6] : List _).map u64v).toArray 25))
  have HP16 := Lib.hid (HP15.out.alloc (.cells (([6] : List _).map u64v).toArray 25))
  have HS16 := Lib.hid (SlF.lit w15 u64v [6] 25 (fr := (0, 0)))
  have HT16 := Lib.hid (HT15.out.below ((Below.refl _ _).alloc (Nat.le_refl _) (.cells (([6] : List _).map u64v).toArray 25)))
  go_wp2_with fail
  refine (bytesK HBB.out HNB.out HS16.out (by simp)).mono ?_
  rintro _ w17 ⟨q17, b17, cap17, rfl, hs, hc17, hb⟩
  have HB17 := Lib.hid (HB16.out.trans (hb.mono HB16.out.size))
  have HT17 := Lib.hid (HT16.out.below hb)
  have HL17 := Lib.hid (HL16.out.bel hb)
  have HP17 := Lib.hid (HP16.out.bel hb)
  have HS17 := Lib.hid (HS16.out.bel hb)
  clear hb
  have HQ17 := Lib.hid hs
  clear hs
  go_wp2_with fail
  refine (sumK HDB.out HYB.out HQ17.out).mono ?_
  rintro _ w18 ⟨rfl, hb⟩
  have HB18 := Lib.hid (HB17.out.trans (hb.mono HB17.out.size))
  have HT18 := Lib.hid (HT17.out.below hb)
  have HL18 := Lib.hid (HL17.out.bel hb)
  have HP18 := Lib.hid (HP17.out.bel hb)
  have HQ18 := Lib.hid (HQ17.out.bel hb)
  clear hb
  have HB19 := Lib.hid (HB18.out.alloc HB18.out.size (.cells (([7] : List _).map u64v).toArray 25))
  have HL19 := Lib.hid (HL18.out.alloc (.cells (([7] : List _).map u64v).toArray 25))
  have HP19 := Lib.hid (HP18.out.alloc (.cells (([7] : List _).map u64v).toArray 25))
  have HS19 := Lib.hid (SlF.lit w18 u64v [7] 25 (fr := (0, 0)))
  have HT19 := Lib.hid (HT18.out.below ((Below.refl _ _).alloc (Nat.le_refl _) (.cells (([7] : List _).map u64v).toArray 25)))
  go_wp2_with fail
  refine (bytesK HBC.out HNC.out HS19.out (by simp)).mono ?_
  rintro _ w20 ⟨q20, b20, cap20, rfl, hs, hc20, hb⟩
  have HB20 := Lib.hid (HB19.out.trans (hb.mono HB19.out.size))
  have HT20 := Lib.hid (HT19.out.below hb)
  have HL20 := Lib.hid (HL19.out.bel hb)
  have HP20 := Lib.hid (HP19.out.bel hb)
  have HS20 := Lib.hid (HS19.out.bel hb)
  clear hb
  have HQ20 := Lib.hid hs
  clear hs
  go_wp2_with fail
  refine (sumK HDC.out HYC.out HQ20.out).mono ?_
  rintro _ w21 ⟨rfl, hb⟩
  have HB21 := Lib.hid (HB20.out.trans (hb.mono HB20.out.size))
  have HT21 := Lib.hid (HT20.out.below hb)
  have HL21 := Lib.hid (HL20.out.bel hb)
  have HP21 := Lib.hid (HP20.out.bel hb)
  have HQ21 := Lib.hid (HQ20.out.bel hb)
  clear hb
  have HB22 := Lib.hid (HB21.out.alloc HB21.out.size (.cells (([A, B] : List _).map u64v).toArray 25))
  have HL22 := Lib.hid (HL21.out.alloc (.cells (([A, B] : List _).map u64v).toArray 25))
  have HP22 := Lib.hid (HP21.out.alloc (.cells (([A, B] : List _).map u64v).toArray 25))
  have HS22 := Lib.hid (SlF.lit w21 u64v [A, B] 25 (fr := (0, 0)))
  have HT22 := Lib.hid (HT21.out.below ((Below.refl _ _).alloc (Nat.le_refl _) (.cells (([A, B] : List _).map u64v).toArray 25)))
  go_wp2_with fail
  refine (bytesK HBAB.out HNAB.out HS22.out (by simp)).mono ?_
  rintro _ w23 ⟨q23, b23, cap23, rfl, hs, hc23, hb⟩
  have HB23 := Lib.hid (HB22.out.trans (hb.mono HB22.out.size))
  have HT23 := Lib.hid (HT22.out.below hb)
  have HL23 := Lib.hid (HL22.out.bel hb)
  have HP23 := Lib.hid (HP22.out.bel hb)
  have HS23 := Lib.hid (HS22.out.bel hb)
  clear hb
  have HQ23 := Lib.hid hs
  clear hs
  go_wp2_with fail
  refine (sumK HDAB.out HYAB.out HQ23.out).mono ?_
  rintro _ w24 ⟨rfl, hb⟩
  have HB24 := Lib.hid (HB23.out.trans (hb.mono HB23.out.size))
  have HT24 := Lib.hid (HT23.out.below hb)
  have HL24 := Lib.hid (HL23.out.bel hb)
  have HP24 := Lib.hid (HP23.out.bel hb)
  have HQ24 := Lib.hid (HQ23.out.bel hb)
  clear hb
  go_wp2_with fail
  refine (rootK (l := []) (D := 0) (E := 1) rfl rfl (SlF.nil _ none)).mono ?_
  rintro _ w25 ⟨rfl, hb⟩
  have HB25 := Lib.hid (HB24.out.trans (hb.mono HB24.out.size))
  have HT25 := Lib.hid (HT24.out.below hb)
  have HL25 := Lib.hid (HL24.out.bel hb)
  have HP25 := Lib.hid (HP24.out.bel hb)
  clear hb
  go_wp2_with fail
  refine (pathK (P := []) (n := 0) (E := 1) rfl (by decide) rfl HL25.out).mono ?_
  rintro _ w26 ⟨q26, b26, cap26, rfl, hs, hc26, hb⟩
  have HB26 := Lib.hid (HB25.out.trans (hb.mono HB25.out.size))
  have HT26 := Lib.hid (HT25.out.below hb)
  have HL26 := Lib.hid (HL25.out.bel hb)
  have HP26 := Lib.hid (HP25.out.bel hb)
  clear hb
  have HZ26 := Lib.hid hs
  clear hs
  have HB27 := Lib.hid (HB26.out.alloc HB26.out.size (.cells (([AB, C] : List _).map u64v).toArray 25))
  have HP27 := Lib.hid (HP26.out.alloc (.cells (([AB, C] : List _).map u64v).toArray 25))
  have HS27 := Lib.hid (SlF.lit w26 u64v [AB, C] 25 (fr := (0, 0)))
  have HT27 := Lib.hid (HT26.out.below ((Below.refl _ _).alloc (Nat.le_refl _) (.cells (([AB, C] : List _).map u64v).toArray 25)))
  go_wp2_with fail
  refine (bytesK HBR.out HNR.out HS27.out (by simp)).mono ?_
  rintro _ w28 ⟨q28, b28, cap28, rfl, hs, hc28, hb⟩
  have HB28 := Lib.hid (HB27.out.trans (hb.mono HB27.out.size))
  have HT28 := Lib.hid (HT27.out.below hb)
  have HP28 := Lib.hid (HP27.out.bel hb)
  have HS28 := Lib.hid (HS27.out.bel hb)
  clear hb
  have HQ28 := Lib.hid hs
  clear hs
  go_wp2_with fail
  refine (sumK HDR.out HYR.out HQ28.out).mono ?_
  rintro _ w29 ⟨rfl, hb⟩
  have HB29 := Lib.hid (HB28.out.trans (hb.mono HB28.out.size))
  have HT29 := Lib.hid (HT28.out.below hb)
  have HP29 := Lib.hid (HP28.out.bel hb)
  have HQ29 := Lib.hid (HQ28.out.bel hb)
  clear hb
  have HB30 := Lib.hid (HB29.out.alloc HB29.out.size (.cells (([AB] : List _).map u64v).toArray 25))
  have HP30 := Lib.hid (HP29.out.alloc (.cells (([AB] : List _).map u64v).toArray 25))
  have HS30 := Lib.hid (SlF.lit w29 u64v [AB] 25 (fr := (0, 0)))
  have HT30 := Lib.hid (HT29.out.below ((Below.refl _ _).alloc (Nat.le_refl _) (.cells (([AB] : List _).map u64v).toArray 25)))
  go_wp2_with fail
  refine (sameK (decide_eq_true rfl) HP30.out HS30.out).mono ?_
  rintro _ w31 ⟨rfl, hb⟩
  have HB31 := Lib.hid (HB30.out.trans (hb.mono HB30.out.size))
  have HT31 := Lib.hid (HT30.out.below hb)
  have HP31 := Lib.hid (HP30.out.bel hb)
  have HS31 := Lib.hid (HS30.out.bel hb)
  clear hb
  go_wp2_with fail
  refine (checkK HCK.out HP31.out hcP.out).mono ?_
  rintro _ w32 ⟨rfl, hb⟩
  have HB32 := Lib.hid (HB31.out.trans (hb.mono HB31.out.size))
  have HT32 := Lib.hid (HT31.out.below hb)
  have HP32 := Lib.hid (HP31.out.bel hb)
  clear hb
  go_wp2
  go_ret
  exact ⟨rfl, HB32.out⟩
end Go.Proofs.YtlbaggljmbkfdaaDoor
