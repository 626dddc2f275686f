/-
  The walk of the law on the order of both functions.
-/
import Derived.Test.YtmjdolgcgbiajaaPLeastW
namespace Go.Proofs.Ytmjdolgcgbiajaa
open Go.RowKit Go.Shelf Pw

theorem min_comm' (a b : Rat) : (if a ≤ b then a else b) = (if b ≤ a then b else a) := by
  split
  · rename_i h
    split
    · rename_i h'; exact Rat.le_antisymm h h'
    · rfl
  · rename_i h
    rw [if_pos (Rat.le_of_lt (Rat.not_le.1 h))]
theorem min_le1 (a b : Rat) : (if a ≤ b then a else b) ≤ a := by
  split
  · exact Rat.le_refl
  · rename_i h; exact Rat.le_of_lt (Rat.not_le.1 h)
theorem min_le2 (a b : Rat) : (if a ≤ b then a else b) ≤ b := by
  split
  · assumption
  · exact Rat.le_refl
theorem bel_nowhere {f c : List RP} (hf : VR f) (hc : VR c) (h : ∀ z, 0 ≤ z → z ≤ 100000 → vl (AA c) z ≤ vl (AA f) z) (pf pg : Option Addr) (bf of cf lf bg og cg lg : Nat) (w : World) (hS : SlP w pf bf of lf f) (hS' : SlP w pg bg og lg c) :
    Calls Try.prog 23 #[.slice pf lf cf, .slice pg lg cg, .agg #[.int .i64 0, .int .i64 100000]] w fun e w' => e = .returned (.tuple #[.int .i64 0, .bool false, .int .i64 0]) ∧ RowKit.Below w.heap.size w w' := by
  have k := below_any f c pf pg bf of cf lf bg og cg lg 0 100000 w hS hS'
  have e : belV f c 0 100000 = (0, false, 0) := by
    rw [show belV f c 0 100000 = _ from if_pos ⟨hf, hc, by omega, by omega, by omega⟩, belR_no fun y a b => ?_]
    unfold lss
    exact decide_eq_false (Rat.not_lt.2 (h y a b))
  rw [e] at k
  exact k
set_option maxRecDepth 100000 in
set_option maxHeartbeats 4000000 in
theorem order_law (f g : List RP) (pf pg : Option Addr) (bf of cf lf bg og cg lg : Nat) (a : Int) (w : World) (hS : SlP w pf bf of lf f) (hS' : SlP w pg bg og lg g) (a0 : 0 ≤ a) (a1 : a ≤ 4294967295) :
    Calls Try.prog 7 #[.slice pf lf cf, .slice pg lg cg, .int .u32 a] w fun e w' => e = .returned (.bool true) ∧ RowKit.Below w.heap.size w w' := by
  have HB0 : Hid (RowKit.Below w.heap.size w w) := Below.refl _ _
  have KB := Lib.hid (fun w' (h : RowKit.Below w.heap.size w w') => both_any f g pf pg bf of cf lf bg og cg lg w' (hS.below h) (hS'.below h))
  cases hb : bothR f g with
  | false =>
    rw [hb] at KB
    clear hS hS' hb
    go_enter Try.func7, Try.ntmps7
    go_wp2_with fail
    refine (head_any _).mono ?_
    rintro _ w1 ⟨rfl, hb⟩
    have HB1 := Lib.hid (HB0.out.trans (hb.mono HB0.out.size))
    clear hb HB0
    go_wp2_with fail
    refine (KB.out _ HB1.out).mono ?_
    rintro _ w2 ⟨rfl, hb⟩
    have HB2 := Lib.hid (HB1.out.trans (hb.mono HB1.out.size))
    clear hb HB1
    go_wp2
    go_ret
    exact ⟨by first | rfl | (simp; done) | (simp; omega), HB2.out⟩
  | true =>
    rw [hb] at KB
    obtain ⟨hf, hg⟩ := both_true hb
    have KX := Lib.hid (fun w => place_any a w a0 a1)
    obtain ⟨x, hx⟩ : ∃ x, x = a % 100001 := ⟨_, rfl⟩
    have hx0 := place_bd a
    rw [← hx] at KX hx0
    have HX0 := Lib.hid hx0
    have KA1 := Lib.hid (fun w' (h : RowKit.Below w.heap.size w w') => add_any f g pf pg bf of cf lf bg og cg lg w' (hS.below h) (hS'.below h))
    have KA2 := Lib.hid (fun w' (h : RowKit.Below w.heap.size w w') => add_any g f pg pf bg og cg lg bf of cf lf w' (hS'.below h) (hS.below h))
    rw [show opR f g (addR f g) = addR f g from if_pos ⟨hf, hg⟩] at KA1
    rw [show opR g f (addR g f) = addR g f from if_pos ⟨hg, hf⟩, addR_comm g f] at KA2
    have KL1 := Lib.hid (fun w' (h : RowKit.Below w.heap.size w w') => least_any f g pf pg bf of cf lf bg og cg lg w' (hS.below h) (hS'.below h))
    have KL2 := Lib.hid (fun w' (h : RowKit.Below w.heap.size w w') => least_any g f pg pf bg og cg lg bf of cf lf w' (hS'.below h) (hS.below h))
    have KL3 := Lib.hid (fun w' (h : RowKit.Below w.heap.size w w') => least_any f f pf pf bf of cf lf bf of cf lf w' (hS.below h) (hS.below h))
    rw [show opR f g (leastR f g) = leastR f g from if_pos ⟨hf, hg⟩] at KL1
    rw [show opR g f (leastR g f) = leastR g f from if_pos ⟨hg, hf⟩] at KL2
    rw [show opR f f (leastR f f) = leastR f f from if_pos ⟨hf, hf⟩] at KL3
    have HF := Lib.hid hS
    have HG := Lib.hid hS'
    have HVf := Lib.hid hf
    have HVg := Lib.hid hg
    obtain ⟨l1, _, l3⟩ := leastR_ok (g := f) hf (leastR_self hf)
    have l3 := l3 x hx0.1 hx0.2
    rw [leastR_self hf] at KL3
    rw [if_pos Rat.le_refl] at l3
    generalize (leastR f f).1 = L at *
    have HVL := Lib.hid (vR_iff.2 l1)
    have HVl := Lib.hid l1
    obtain ⟨n1, hn1⟩ : ∃ n, n = (vl (AA f) x).num := ⟨_, rfl⟩
    obtain ⟨d1, hd1⟩ : ∃ d : Int, d = (vl (AA f) x).den := ⟨_, rfl⟩
    have HN1 := Lib.hid hn1
    have HD1 := Lib.hid hd1
    have HN5 : Hid (n1 = (vl (AA L) x).num) := by show _ = _; rw [hn1, l3]
    have HD5 : Hid (d1 = (vl (AA L) x).den) := by show _ = _; rw [hd1, l3]
    clear l1 l3 hn1 hd1
    rcases Decidable.em ((addR f g).2 = 0) with he | he
    · obtain ⟨h1, _, h3⟩ := addR_ok hf he
      rw [he] at KA1 KA2
      generalize (addR f g).1 = S at *
      have HVS := Lib.hid (vR_iff.2 h1)
      have HVs := Lib.hid h1
      obtain ⟨n, hn⟩ : ∃ n, n = (vl (AA S) x).num := ⟨_, rfl⟩
      obtain ⟨d, hd⟩ : ∃ d : Int, d = (vl (AA S) x).den := ⟨_, rfl⟩
      have HN := Lib.hid hn
      have HD := Lib.hid hd
      clear hn hd h1 h3 he
      rcases Decidable.em ((leastR f g).2 = 0) with hi | hi
      · rcases Decidable.em ((leastR g f).2 = 0) with hj | hj
        · skip
          obtain ⟨c1, _, c3⟩ := leastR_ok (g := g) hf hi
          obtain ⟨d1', _, d3'⟩ := leastR_ok (g := f) hg hj
          rw [hi] at KL1
          rw [hj] at KL2
          generalize (leastR f g).1 = C at *
          generalize (leastR g f).1 = D at *
          have HVC := Lib.hid (vR_iff.2 c1)
          have HVc := Lib.hid c1
          have HVD := Lib.hid (vR_iff.2 d1')
          have HVd := Lib.hid d1'
          obtain ⟨n3, hn3⟩ : ∃ n, n = (vl (AA C) x).num := ⟨_, rfl⟩
          obtain ⟨d3, hd3⟩ : ∃ d : Int, d = (vl (AA C) x).den := ⟨_, rfl⟩
          have heq : vl (AA C) x = vl (AA D) x := by rw [c3 x hx0.1 hx0.2, d3' x hx0.1 hx0.2]; exact min_comm' _ _
          have HN3 := Lib.hid hn3
          have HD3 := Lib.hid hd3
          have HN4 : Hid (n3 = (vl (AA D) x).num) := by show _ = _; rw [hn3, heq]
          have HD4 : Hid (d3 = (vl (AA D) x).den) := by show _ = _; rw [hd3, heq]
          have KF := Lib.hid (bel_nowhere hf c1 fun z z0 z1 => by rw [c3 z z0 z1]; exact min_le1 _ _)
          have KG := Lib.hid (bel_nowhere hg c1 fun z z0 z1 => by rw [c3 z z0 z1]; exact min_le2 _ _)
          clear c1 c3 d1' d3' hn3 hd3 heq hi hj
          clear hS hS' hf hg hb hx hx0
          go_enter Try.func7, Try.ntmps7
          go_wp2_with fail
          refine (head_any _).mono ?_
          rintro _ w1 ⟨rfl, hb⟩
          have HB1 := Lib.hid (HB0.out.trans (hb.mono HB0.out.size))
          clear hb HB0
          go_wp2_with fail
          refine (KB.out _ HB1.out).mono ?_
          rintro _ w2 ⟨rfl, hb⟩
          have HB2 := Lib.hid (HB1.out.trans (hb.mono HB1.out.size))
          clear hb HB1
          go_wp2_with fail
          refine (KX.out _).mono ?_
          rintro _ w3 ⟨rfl, hb⟩
          have HB3 := Lib.hid (HB2.out.trans (hb.mono HB2.out.size))
          clear hb HB2
          go_wp2_with fail
          refine (KA1.out _ HB3.out).mono ?_
          rintro _ w4 ⟨p_HS1, b_HS1, o_HS1, n_HS1, c_HS1, rfl, hs, hb⟩
          have HB4 := Lib.hid (HB3.out.trans (hb.mono HB3.out.size))
          clear hb HB3
          have HS1 := Lib.hid hs
          clear hs
          go_wp2_with fail
          refine (KA2.out _ HB4.out).mono ?_
          rintro _ w5 ⟨p_HS2, b_HS2, o_HS2, n_HS2, c_HS2, rfl, hs, hb⟩
          have HB5 := Lib.hid (HB4.out.trans (hb.mono HB4.out.size))
          replace HS1 := Lib.hid (HS1.out.below hb)
          clear hb HB4
          have HS2 := Lib.hid hs
          clear hs
          go_wp2_with fail
          refine (rvalid_b S true HVS.out _ _ _ _ _ _ HS1.out).mono ?_
          rintro _ w6 ⟨rfl, hb⟩
          have HB6 := Lib.hid (HB5.out.trans (hb.mono HB5.out.size))
          replace HS1 := Lib.hid (HS1.out.below hb)
          replace HS2 := Lib.hid (HS2.out.below hb)
          clear hb HB5
          go_wp2_with fail
          refine (rvalid_b S true HVS.out _ _ _ _ _ _ HS2.out).mono ?_
          rintro _ w7 ⟨rfl, hb⟩
          have HB7 := Lib.hid (HB6.out.trans (hb.mono HB6.out.size))
          replace HS1 := Lib.hid (HS1.out.below hb)
          replace HS2 := Lib.hid (HS2.out.below hb)
          clear hb HB6
          go_wp2_with fail
          refine (val_n HVs.out HN.out HD.out HX0.out.1 HX0.out.2 _ _ _ _ _ _ HS1.out).mono ?_
          rintro _ w8 ⟨rfl, hb⟩
          have HB8 := Lib.hid (HB7.out.trans (hb.mono HB7.out.size))
          replace HS1 := Lib.hid (HS1.out.below hb)
          replace HS2 := Lib.hid (HS2.out.below hb)
          clear hb HB7
          go_wp2_with fail
          refine (val_n HVs.out HN.out HD.out HX0.out.1 HX0.out.2 _ _ _ _ _ _ HS2.out).mono ?_
          rintro _ w9 ⟨rfl, hb⟩
          have HB9 := Lib.hid (HB8.out.trans (hb.mono HB8.out.size))
          replace HS1 := Lib.hid (HS1.out.below hb)
          replace HS2 := Lib.hid (HS2.out.below hb)
          clear hb HB8
          go_wp2_with fail
          refine (KL1.out _ HB9.out).mono ?_
          rintro _ w10 ⟨p_HC, b_HC, o_HC, n_HC, c_HC, rfl, hs, hb⟩
          have HB10 := Lib.hid (HB9.out.trans (hb.mono HB9.out.size))
          replace HS1 := Lib.hid (HS1.out.below hb)
          replace HS2 := Lib.hid (HS2.out.below hb)
          clear hb HB9
          have HC := Lib.hid hs
          clear hs
          go_wp2_with fail
          refine (KL2.out _ HB10.out).mono ?_
          rintro _ w11 ⟨p_HD_, b_HD_, o_HD_, n_HD_, c_HD_, rfl, hs, hb⟩
          have HB11 := Lib.hid (HB10.out.trans (hb.mono HB10.out.size))
          replace HS1 := Lib.hid (HS1.out.below hb)
          replace HS2 := Lib.hid (HS2.out.below hb)
          replace HC := Lib.hid (HC.out.below hb)
          clear hb HB10
          have HD_ := Lib.hid hs
          clear hs
          go_wp2_with fail
          refine (rvalid_b C true HVC.out _ _ _ _ _ _ HC.out).mono ?_
          rintro _ w12 ⟨rfl, hb⟩
          have HB12 := Lib.hid (HB11.out.trans (hb.mono HB11.out.size))
          replace HS1 := Lib.hid (HS1.out.below hb)
          replace HS2 := Lib.hid (HS2.out.below hb)
          replace HC := Lib.hid (HC.out.below hb)
          replace HD_ := Lib.hid (HD_.out.below hb)
          clear hb HB11
          go_wp2_with fail
          refine (rvalid_b D true HVD.out _ _ _ _ _ _ HD_.out).mono ?_
          rintro _ w13 ⟨rfl, hb⟩
          have HB13 := Lib.hid (HB12.out.trans (hb.mono HB12.out.size))
          replace HS1 := Lib.hid (HS1.out.below hb)
          replace HS2 := Lib.hid (HS2.out.below hb)
          replace HC := Lib.hid (HC.out.below hb)
          replace HD_ := Lib.hid (HD_.out.below hb)
          clear hb HB12
          go_wp2_with fail
          refine (val_n HVc.out HN3.out HD3.out HX0.out.1 HX0.out.2 _ _ _ _ _ _ HC.out).mono ?_
          rintro _ w14 ⟨rfl, hb⟩
          have HB14 := Lib.hid (HB13.out.trans (hb.mono HB13.out.size))
          replace HS1 := Lib.hid (HS1.out.below hb)
          replace HS2 := Lib.hid (HS2.out.below hb)
          replace HC := Lib.hid (HC.out.below hb)
          replace HD_ := Lib.hid (HD_.out.below hb)
          clear hb HB13
          go_wp2_with fail
          refine (val_n HVd.out HN4.out HD4.out HX0.out.1 HX0.out.2 _ _ _ _ _ _ HD_.out).mono ?_
          rintro _ w15 ⟨rfl, hb⟩
          have HB15 := Lib.hid (HB14.out.trans (hb.mono HB14.out.size))
          replace HS1 := Lib.hid (HS1.out.below hb)
          replace HS2 := Lib.hid (HS2.out.below hb)
          replace HC := Lib.hid (HC.out.below hb)
          replace HD_ := Lib.hid (HD_.out.below hb)
          clear hb HB14
          go_wp2_with fail
          refine (KF.out _ _ _ _ _ _ _ _ _ _ _ (HF.out.below HB15.out) HC.out).mono ?_
          rintro _ w16 ⟨rfl, hb⟩
          have HB16 := Lib.hid (HB15.out.trans (hb.mono HB15.out.size))
          replace HS1 := Lib.hid (HS1.out.below hb)
          replace HS2 := Lib.hid (HS2.out.below hb)
          replace HC := Lib.hid (HC.out.below hb)
          replace HD_ := Lib.hid (HD_.out.below hb)
          clear hb HB15
          go_wp2_with fail
          refine (KG.out _ _ _ _ _ _ _ _ _ _ _ (HG.out.below HB16.out) HC.out).mono ?_
          rintro _ w17 ⟨rfl, hb⟩
          have HB17 := Lib.hid (HB16.out.trans (hb.mono HB16.out.size))
          replace HS1 := Lib.hid (HS1.out.below hb)
          replace HS2 := Lib.hid (HS2.out.below hb)
          replace HC := Lib.hid (HC.out.below hb)
          replace HD_ := Lib.hid (HD_.out.below hb)
          clear hb HB16
          go_wp2_with fail
          refine (KL3.out _ HB17.out).mono ?_
          rintro _ w18 ⟨p_HL, b_HL, o_HL, n_HL, c_HL, rfl, hs, hb⟩
          have HB18 := Lib.hid (HB17.out.trans (hb.mono HB17.out.size))
          replace HS1 := Lib.hid (HS1.out.below hb)
          replace HS2 := Lib.hid (HS2.out.below hb)
          replace HC := Lib.hid (HC.out.below hb)
          replace HD_ := Lib.hid (HD_.out.below hb)
          clear hb HB17
          have HL := Lib.hid hs
          clear hs
          go_wp2_with fail
          refine (rvalid_b L true HVL.out _ _ _ _ _ _ HL.out).mono ?_
          rintro _ w19 ⟨rfl, hb⟩
          have HB19 := Lib.hid (HB18.out.trans (hb.mono HB18.out.size))
          replace HS1 := Lib.hid (HS1.out.below hb)
          replace HS2 := Lib.hid (HS2.out.below hb)
          replace HC := Lib.hid (HC.out.below hb)
          replace HD_ := Lib.hid (HD_.out.below hb)
          replace HL := Lib.hid (HL.out.below hb)
          clear hb HB18
          go_wp2_with fail
          refine (val_n HVl.out HN5.out HD5.out HX0.out.1 HX0.out.2 _ _ _ _ _ _ HL.out).mono ?_
          rintro _ w20 ⟨rfl, hb⟩
          have HB20 := Lib.hid (HB19.out.trans (hb.mono HB19.out.size))
          replace HS1 := Lib.hid (HS1.out.below hb)
          replace HS2 := Lib.hid (HS2.out.below hb)
          replace HC := Lib.hid (HC.out.below hb)
          replace HD_ := Lib.hid (HD_.out.below hb)
          replace HL := Lib.hid (HL.out.below hb)
          clear hb HB19
          go_wp2_with fail
          refine (val_n HVf.out HN1.out HD1.out HX0.out.1 HX0.out.2 _ _ _ _ _ _ (HF.out.below HB20.out)).mono ?_
          rintro _ w21 ⟨rfl, hb⟩
          have HB21 := Lib.hid (HB20.out.trans (hb.mono HB20.out.size))
          replace HS1 := Lib.hid (HS1.out.below hb)
          replace HS2 := Lib.hid (HS2.out.below hb)
          replace HC := Lib.hid (HC.out.below hb)
          replace HD_ := Lib.hid (HD_.out.below hb)
          replace HL := Lib.hid (HL.out.below hb)
          clear hb HB20
          go_wp2
          go_ret
          exact ⟨by first | rfl | (simp; done) | (simp; omega), HB21.out⟩
        · generalize (leastR g f).2 = j at *
          rw [hi] at KL1
          clear hi
          clear hS hS' hf hg hb hx hx0
          go_enter Try.func7, Try.ntmps7
          go_wp2_with fail
          refine (head_any _).mono ?_
          rintro _ w1 ⟨rfl, hb⟩
          have HB1 := Lib.hid (HB0.out.trans (hb.mono HB0.out.size))
          clear hb HB0
          go_wp2_with fail
          refine (KB.out _ HB1.out).mono ?_
          rintro _ w2 ⟨rfl, hb⟩
          have HB2 := Lib.hid (HB1.out.trans (hb.mono HB1.out.size))
          clear hb HB1
          go_wp2_with fail
          refine (KX.out _).mono ?_
          rintro _ w3 ⟨rfl, hb⟩
          have HB3 := Lib.hid (HB2.out.trans (hb.mono HB2.out.size))
          clear hb HB2
          go_wp2_with fail
          refine (KA1.out _ HB3.out).mono ?_
          rintro _ w4 ⟨p_HS1, b_HS1, o_HS1, n_HS1, c_HS1, rfl, hs, hb⟩
          have HB4 := Lib.hid (HB3.out.trans (hb.mono HB3.out.size))
          clear hb HB3
          have HS1 := Lib.hid hs
          clear hs
          go_wp2_with fail
          refine (KA2.out _ HB4.out).mono ?_
          rintro _ w5 ⟨p_HS2, b_HS2, o_HS2, n_HS2, c_HS2, rfl, hs, hb⟩
          have HB5 := Lib.hid (HB4.out.trans (hb.mono HB4.out.size))
          replace HS1 := Lib.hid (HS1.out.below hb)
          clear hb HB4
          have HS2 := Lib.hid hs
          clear hs
          go_wp2_with fail
          refine (rvalid_b S true HVS.out _ _ _ _ _ _ HS1.out).mono ?_
          rintro _ w6 ⟨rfl, hb⟩
          have HB6 := Lib.hid (HB5.out.trans (hb.mono HB5.out.size))
          replace HS1 := Lib.hid (HS1.out.below hb)
          replace HS2 := Lib.hid (HS2.out.below hb)
          clear hb HB5
          go_wp2_with fail
          refine (rvalid_b S true HVS.out _ _ _ _ _ _ HS2.out).mono ?_
          rintro _ w7 ⟨rfl, hb⟩
          have HB7 := Lib.hid (HB6.out.trans (hb.mono HB6.out.size))
          replace HS1 := Lib.hid (HS1.out.below hb)
          replace HS2 := Lib.hid (HS2.out.below hb)
          clear hb HB6
          go_wp2_with fail
          refine (val_n HVs.out HN.out HD.out HX0.out.1 HX0.out.2 _ _ _ _ _ _ HS1.out).mono ?_
          rintro _ w8 ⟨rfl, hb⟩
          have HB8 := Lib.hid (HB7.out.trans (hb.mono HB7.out.size))
          replace HS1 := Lib.hid (HS1.out.below hb)
          replace HS2 := Lib.hid (HS2.out.below hb)
          clear hb HB7
          go_wp2_with fail
          refine (val_n HVs.out HN.out HD.out HX0.out.1 HX0.out.2 _ _ _ _ _ _ HS2.out).mono ?_
          rintro _ w9 ⟨rfl, hb⟩
          have HB9 := Lib.hid (HB8.out.trans (hb.mono HB8.out.size))
          replace HS1 := Lib.hid (HS1.out.below hb)
          replace HS2 := Lib.hid (HS2.out.below hb)
          clear hb HB8
          go_wp2_with fail
          refine (KL1.out _ HB9.out).mono ?_
          rintro _ w10 ⟨p_HC, b_HC, o_HC, n_HC, c_HC, rfl, hs, hb⟩
          have HB10 := Lib.hid (HB9.out.trans (hb.mono HB9.out.size))
          replace HS1 := Lib.hid (HS1.out.below hb)
          replace HS2 := Lib.hid (HS2.out.below hb)
          clear hb HB9
          have HC := Lib.hid hs
          clear hs
          go_wp2_with fail
          refine (KL2.out _ HB10.out).mono ?_
          rintro _ w11 ⟨p_HD_, b_HD_, o_HD_, n_HD_, c_HD_, rfl, hs, hb⟩
          have HB11 := Lib.hid (HB10.out.trans (hb.mono HB10.out.size))
          replace HS1 := Lib.hid (HS1.out.below hb)
          replace HS2 := Lib.hid (HS2.out.below hb)
          replace HC := Lib.hid (HC.out.below hb)
          clear hb HB10
          have HD_ := Lib.hid hs
          clear hs
          go_wp2_with fail
          refine (KL3.out _ HB11.out).mono ?_
          rintro _ w12 ⟨p_HL, b_HL, o_HL, n_HL, c_HL, rfl, hs, hb⟩
          have HB12 := Lib.hid (HB11.out.trans (hb.mono HB11.out.size))
          replace HS1 := Lib.hid (HS1.out.below hb)
          replace HS2 := Lib.hid (HS2.out.below hb)
          replace HC := Lib.hid (HC.out.below hb)
          replace HD_ := Lib.hid (HD_.out.below hb)
          clear hb HB11
          have HL := Lib.hid hs
          clear hs
          go_wp2_with fail
          refine (rvalid_b L true HVL.out _ _ _ _ _ _ HL.out).mono ?_
          rintro _ w13 ⟨rfl, hb⟩
          have HB13 := Lib.hid (HB12.out.trans (hb.mono HB12.out.size))
          replace HS1 := Lib.hid (HS1.out.below hb)
          replace HS2 := Lib.hid (HS2.out.below hb)
          replace HC := Lib.hid (HC.out.below hb)
          replace HD_ := Lib.hid (HD_.out.below hb)
          replace HL := Lib.hid (HL.out.below hb)
          clear hb HB12
          go_wp2_with fail
          refine (val_n HVl.out HN5.out HD5.out HX0.out.1 HX0.out.2 _ _ _ _ _ _ HL.out).mono ?_
          rintro _ w14 ⟨rfl, hb⟩
          have HB14 := Lib.hid (HB13.out.trans (hb.mono HB13.out.size))
          replace HS1 := Lib.hid (HS1.out.below hb)
          replace HS2 := Lib.hid (HS2.out.below hb)
          replace HC := Lib.hid (HC.out.below hb)
          replace HD_ := Lib.hid (HD_.out.below hb)
          replace HL := Lib.hid (HL.out.below hb)
          clear hb HB13
          go_wp2_with fail
          refine (val_n HVf.out HN1.out HD1.out HX0.out.1 HX0.out.2 _ _ _ _ _ _ (HF.out.below HB14.out)).mono ?_
          rintro _ w15 ⟨rfl, hb⟩
          have HB15 := Lib.hid (HB14.out.trans (hb.mono HB14.out.size))
          replace HS1 := Lib.hid (HS1.out.below hb)
          replace HS2 := Lib.hid (HS2.out.below hb)
          replace HC := Lib.hid (HC.out.below hb)
          replace HD_ := Lib.hid (HD_.out.below hb)
          replace HL := Lib.hid (HL.out.below hb)
          clear hb HB14
          go_wp2
          go_ret
          exact ⟨by first | rfl | (simp; done) | (simp; omega), HB15.out⟩
      · generalize (leastR f g).2 = i at *
        clear hS hS' hf hg hb hx hx0
        go_enter Try.func7, Try.ntmps7
        go_wp2_with fail
        refine (head_any _).mono ?_
        rintro _ w1 ⟨rfl, hb⟩
        have HB1 := Lib.hid (HB0.out.trans (hb.mono HB0.out.size))
        clear hb HB0
        go_wp2_with fail
        refine (KB.out _ HB1.out).mono ?_
        rintro _ w2 ⟨rfl, hb⟩
        have HB2 := Lib.hid (HB1.out.trans (hb.mono HB1.out.size))
        clear hb HB1
        go_wp2_with fail
        refine (KX.out _).mono ?_
        rintro _ w3 ⟨rfl, hb⟩
        have HB3 := Lib.hid (HB2.out.trans (hb.mono HB2.out.size))
        clear hb HB2
        go_wp2_with fail
        refine (KA1.out _ HB3.out).mono ?_
        rintro _ w4 ⟨p_HS1, b_HS1, o_HS1, n_HS1, c_HS1, rfl, hs, hb⟩
        have HB4 := Lib.hid (HB3.out.trans (hb.mono HB3.out.size))
        clear hb HB3
        have HS1 := Lib.hid hs
        clear hs
        go_wp2_with fail
        refine (KA2.out _ HB4.out).mono ?_
        rintro _ w5 ⟨p_HS2, b_HS2, o_HS2, n_HS2, c_HS2, rfl, hs, hb⟩
        have HB5 := Lib.hid (HB4.out.trans (hb.mono HB4.out.size))
        replace HS1 := Lib.hid (HS1.out.below hb)
        clear hb HB4
        have HS2 := Lib.hid hs
        clear hs
        go_wp2_with fail
        refine (rvalid_b S true HVS.out _ _ _ _ _ _ HS1.out).mono ?_
        rintro _ w6 ⟨rfl, hb⟩
        have HB6 := Lib.hid (HB5.out.trans (hb.mono HB5.out.size))
        replace HS1 := Lib.hid (HS1.out.below hb)
        replace HS2 := Lib.hid (HS2.out.below hb)
        clear hb HB5
        go_wp2_with fail
        refine (rvalid_b S true HVS.out _ _ _ _ _ _ HS2.out).mono ?_
        rintro _ w7 ⟨rfl, hb⟩
        have HB7 := Lib.hid (HB6.out.trans (hb.mono HB6.out.size))
        replace HS1 := Lib.hid (HS1.out.below hb)
        replace HS2 := Lib.hid (HS2.out.below hb)
        clear hb HB6
        go_wp2_with fail
        refine (val_n HVs.out HN.out HD.out HX0.out.1 HX0.out.2 _ _ _ _ _ _ HS1.out).mono ?_
        rintro _ w8 ⟨rfl, hb⟩
        have HB8 := Lib.hid (HB7.out.trans (hb.mono HB7.out.size))
        replace HS1 := Lib.hid (HS1.out.below hb)
        replace HS2 := Lib.hid (HS2.out.below hb)
        clear hb HB7
        go_wp2_with fail
        refine (val_n HVs.out HN.out HD.out HX0.out.1 HX0.out.2 _ _ _ _ _ _ HS2.out).mono ?_
        rintro _ w9 ⟨rfl, hb⟩
        have HB9 := Lib.hid (HB8.out.trans (hb.mono HB8.out.size))
        replace HS1 := Lib.hid (HS1.out.below hb)
        replace HS2 := Lib.hid (HS2.out.below hb)
        clear hb HB8
        go_wp2_with fail
        refine (KL1.out _ HB9.out).mono ?_
        rintro _ w10 ⟨p_HC, b_HC, o_HC, n_HC, c_HC, rfl, hs, hb⟩
        have HB10 := Lib.hid (HB9.out.trans (hb.mono HB9.out.size))
        replace HS1 := Lib.hid (HS1.out.below hb)
        replace HS2 := Lib.hid (HS2.out.below hb)
        clear hb HB9
        have HC := Lib.hid hs
        clear hs
        go_wp2_with fail
        refine (KL2.out _ HB10.out).mono ?_
        rintro _ w11 ⟨p_HD_, b_HD_, o_HD_, n_HD_, c_HD_, rfl, hs, hb⟩
        have HB11 := Lib.hid (HB10.out.trans (hb.mono HB10.out.size))
        replace HS1 := Lib.hid (HS1.out.below hb)
        replace HS2 := Lib.hid (HS2.out.below hb)
        replace HC := Lib.hid (HC.out.below hb)
        clear hb HB10
        have HD_ := Lib.hid hs
        clear hs
        go_wp2_with fail
        refine (KL3.out _ HB11.out).mono ?_
        rintro _ w12 ⟨p_HL, b_HL, o_HL, n_HL, c_HL, rfl, hs, hb⟩
        have HB12 := Lib.hid (HB11.out.trans (hb.mono HB11.out.size))
        replace HS1 := Lib.hid (HS1.out.below hb)
        replace HS2 := Lib.hid (HS2.out.below hb)
        replace HC := Lib.hid (HC.out.below hb)
        replace HD_ := Lib.hid (HD_.out.below hb)
        clear hb HB11
        have HL := Lib.hid hs
        clear hs
        go_wp2_with fail
        refine (rvalid_b L true HVL.out _ _ _ _ _ _ HL.out).mono ?_
        rintro _ w13 ⟨rfl, hb⟩
        have HB13 := Lib.hid (HB12.out.trans (hb.mono HB12.out.size))
        replace HS1 := Lib.hid (HS1.out.below hb)
        replace HS2 := Lib.hid (HS2.out.below hb)
        replace HC := Lib.hid (HC.out.below hb)
        replace HD_ := Lib.hid (HD_.out.below hb)
        replace HL := Lib.hid (HL.out.below hb)
        clear hb HB12
        go_wp2_with fail
        refine (val_n HVl.out HN5.out HD5.out HX0.out.1 HX0.out.2 _ _ _ _ _ _ HL.out).mono ?_
        rintro _ w14 ⟨rfl, hb⟩
        have HB14 := Lib.hid (HB13.out.trans (hb.mono HB13.out.size))
        replace HS1 := Lib.hid (HS1.out.below hb)
        replace HS2 := Lib.hid (HS2.out.below hb)
        replace HC := Lib.hid (HC.out.below hb)
        replace HD_ := Lib.hid (HD_.out.below hb)
        replace HL := Lib.hid (HL.out.below hb)
        clear hb HB13
        go_wp2_with fail
        refine (val_n HVf.out HN1.out HD1.out HX0.out.1 HX0.out.2 _ _ _ _ _ _ (HF.out.below HB14.out)).mono ?_
        rintro _ w15 ⟨rfl, hb⟩
        have HB15 := Lib.hid (HB14.out.trans (hb.mono HB14.out.size))
        replace HS1 := Lib.hid (HS1.out.below hb)
        replace HS2 := Lib.hid (HS2.out.below hb)
        replace HC := Lib.hid (HC.out.below hb)
        replace HD_ := Lib.hid (HD_.out.below hb)
        replace HL := Lib.hid (HL.out.below hb)
        clear hb HB14
        go_wp2
        go_ret
        exact ⟨by first | rfl | (simp; done) | (simp; omega), HB15.out⟩
    · generalize (addR f g).2 = er at *
      rcases Decidable.em ((leastR f g).2 = 0) with hi | hi
      · rcases Decidable.em ((leastR g f).2 = 0) with hj | hj
        · skip
          obtain ⟨c1, _, c3⟩ := leastR_ok (g := g) hf hi
          obtain ⟨d1', _, d3'⟩ := leastR_ok (g := f) hg hj
          rw [hi] at KL1
          rw [hj] at KL2
          generalize (leastR f g).1 = C at *
          generalize (leastR g f).1 = D at *
          have HVC := Lib.hid (vR_iff.2 c1)
          have HVc := Lib.hid c1
          have HVD := Lib.hid (vR_iff.2 d1')
          have HVd := Lib.hid d1'
          obtain ⟨n3, hn3⟩ : ∃ n, n = (vl (AA C) x).num := ⟨_, rfl⟩
          obtain ⟨d3, hd3⟩ : ∃ d : Int, d = (vl (AA C) x).den := ⟨_, rfl⟩
          have heq : vl (AA C) x = vl (AA D) x := by rw [c3 x hx0.1 hx0.2, d3' x hx0.1 hx0.2]; exact min_comm' _ _
          have HN3 := Lib.hid hn3
          have HD3 := Lib.hid hd3
          have HN4 : Hid (n3 = (vl (AA D) x).num) := by show _ = _; rw [hn3, heq]
          have HD4 : Hid (d3 = (vl (AA D) x).den) := by show _ = _; rw [hd3, heq]
          have KF := Lib.hid (bel_nowhere hf c1 fun z z0 z1 => by rw [c3 z z0 z1]; exact min_le1 _ _)
          have KG := Lib.hid (bel_nowhere hg c1 fun z z0 z1 => by rw [c3 z z0 z1]; exact min_le2 _ _)
          clear c1 c3 d1' d3' hn3 hd3 heq hi hj
          clear hS hS' hf hg hb hx hx0
          go_enter Try.func7, Try.ntmps7
          go_wp2_with fail
          refine (head_any _).mono ?_
          rintro _ w1 ⟨rfl, hb⟩
          have HB1 := Lib.hid (HB0.out.trans (hb.mono HB0.out.size))
          clear hb HB0
          go_wp2_with fail
          refine (KB.out _ HB1.out).mono ?_
          rintro _ w2 ⟨rfl, hb⟩
          have HB2 := Lib.hid (HB1.out.trans (hb.mono HB1.out.size))
          clear hb HB1
          go_wp2_with fail
          refine (KX.out _).mono ?_
          rintro _ w3 ⟨rfl, hb⟩
          have HB3 := Lib.hid (HB2.out.trans (hb.mono HB2.out.size))
          clear hb HB2
          go_wp2_with fail
          refine (KA1.out _ HB3.out).mono ?_
          rintro _ w4 ⟨p_HS1, b_HS1, o_HS1, n_HS1, c_HS1, rfl, hs, hb⟩
          have HB4 := Lib.hid (HB3.out.trans (hb.mono HB3.out.size))
          clear hb HB3
          have HS1 := Lib.hid hs
          clear hs
          go_wp2_with fail
          refine (KA2.out _ HB4.out).mono ?_
          rintro _ w5 ⟨p_HS2, b_HS2, o_HS2, n_HS2, c_HS2, rfl, hs, hb⟩
          have HB5 := Lib.hid (HB4.out.trans (hb.mono HB4.out.size))
          replace HS1 := Lib.hid (HS1.out.below hb)
          clear hb HB4
          have HS2 := Lib.hid hs
          clear hs
          go_wp2_with fail
          refine (KL1.out _ HB5.out).mono ?_
          rintro _ w6 ⟨p_HC, b_HC, o_HC, n_HC, c_HC, rfl, hs, hb⟩
          have HB6 := Lib.hid (HB5.out.trans (hb.mono HB5.out.size))
          replace HS1 := Lib.hid (HS1.out.below hb)
          replace HS2 := Lib.hid (HS2.out.below hb)
          clear hb HB5
          have HC := Lib.hid hs
          clear hs
          go_wp2_with fail
          refine (KL2.out _ HB6.out).mono ?_
          rintro _ w7 ⟨p_HD_, b_HD_, o_HD_, n_HD_, c_HD_, rfl, hs, hb⟩
          have HB7 := Lib.hid (HB6.out.trans (hb.mono HB6.out.size))
          replace HS1 := Lib.hid (HS1.out.below hb)
          replace HS2 := Lib.hid (HS2.out.below hb)
          replace HC := Lib.hid (HC.out.below hb)
          clear hb HB6
          have HD_ := Lib.hid hs
          clear hs
          go_wp2_with fail
          refine (rvalid_b C true HVC.out _ _ _ _ _ _ HC.out).mono ?_
          rintro _ w8 ⟨rfl, hb⟩
          have HB8 := Lib.hid (HB7.out.trans (hb.mono HB7.out.size))
          replace HS1 := Lib.hid (HS1.out.below hb)
          replace HS2 := Lib.hid (HS2.out.below hb)
          replace HC := Lib.hid (HC.out.below hb)
          replace HD_ := Lib.hid (HD_.out.below hb)
          clear hb HB7
          go_wp2_with fail
          refine (rvalid_b D true HVD.out _ _ _ _ _ _ HD_.out).mono ?_
          rintro _ w9 ⟨rfl, hb⟩
          have HB9 := Lib.hid (HB8.out.trans (hb.mono HB8.out.size))
          replace HS1 := Lib.hid (HS1.out.below hb)
          replace HS2 := Lib.hid (HS2.out.below hb)
          replace HC := Lib.hid (HC.out.below hb)
          replace HD_ := Lib.hid (HD_.out.below hb)
          clear hb HB8
          go_wp2_with fail
          refine (val_n HVc.out HN3.out HD3.out HX0.out.1 HX0.out.2 _ _ _ _ _ _ HC.out).mono ?_
          rintro _ w10 ⟨rfl, hb⟩
          have HB10 := Lib.hid (HB9.out.trans (hb.mono HB9.out.size))
          replace HS1 := Lib.hid (HS1.out.below hb)
          replace HS2 := Lib.hid (HS2.out.below hb)
          replace HC := Lib.hid (HC.out.below hb)
          replace HD_ := Lib.hid (HD_.out.below hb)
          clear hb HB9
          go_wp2_with fail
          refine (val_n HVd.out HN4.out HD4.out HX0.out.1 HX0.out.2 _ _ _ _ _ _ HD_.out).mono ?_
          rintro _ w11 ⟨rfl, hb⟩
          have HB11 := Lib.hid (HB10.out.trans (hb.mono HB10.out.size))
          replace HS1 := Lib.hid (HS1.out.below hb)
          replace HS2 := Lib.hid (HS2.out.below hb)
          replace HC := Lib.hid (HC.out.below hb)
          replace HD_ := Lib.hid (HD_.out.below hb)
          clear hb HB10
          go_wp2_with fail
          refine (KF.out _ _ _ _ _ _ _ _ _ _ _ (HF.out.below HB11.out) HC.out).mono ?_
          rintro _ w12 ⟨rfl, hb⟩
          have HB12 := Lib.hid (HB11.out.trans (hb.mono HB11.out.size))
          replace HS1 := Lib.hid (HS1.out.below hb)
          replace HS2 := Lib.hid (HS2.out.below hb)
          replace HC := Lib.hid (HC.out.below hb)
          replace HD_ := Lib.hid (HD_.out.below hb)
          clear hb HB11
          go_wp2_with fail
          refine (KG.out _ _ _ _ _ _ _ _ _ _ _ (HG.out.below HB12.out) HC.out).mono ?_
          rintro _ w13 ⟨rfl, hb⟩
          have HB13 := Lib.hid (HB12.out.trans (hb.mono HB12.out.size))
          replace HS1 := Lib.hid (HS1.out.below hb)
          replace HS2 := Lib.hid (HS2.out.below hb)
          replace HC := Lib.hid (HC.out.below hb)
          replace HD_ := Lib.hid (HD_.out.below hb)
          clear hb HB12
          go_wp2_with fail
          refine (KL3.out _ HB13.out).mono ?_
          rintro _ w14 ⟨p_HL, b_HL, o_HL, n_HL, c_HL, rfl, hs, hb⟩
          have HB14 := Lib.hid (HB13.out.trans (hb.mono HB13.out.size))
          replace HS1 := Lib.hid (HS1.out.below hb)
          replace HS2 := Lib.hid (HS2.out.below hb)
          replace HC := Lib.hid (HC.out.below hb)
          replace HD_ := Lib.hid (HD_.out.below hb)
          clear hb HB13
          have HL := Lib.hid hs
          clear hs
          go_wp2_with fail
          refine (rvalid_b L true HVL.out _ _ _ _ _ _ HL.out).mono ?_
          rintro _ w15 ⟨rfl, hb⟩
          have HB15 := Lib.hid (HB14.out.trans (hb.mono HB14.out.size))
          replace HS1 := Lib.hid (HS1.out.below hb)
          replace HS2 := Lib.hid (HS2.out.below hb)
          replace HC := Lib.hid (HC.out.below hb)
          replace HD_ := Lib.hid (HD_.out.below hb)
          replace HL := Lib.hid (HL.out.below hb)
          clear hb HB14
          go_wp2_with fail
          refine (val_n HVl.out HN5.out HD5.out HX0.out.1 HX0.out.2 _ _ _ _ _ _ HL.out).mono ?_
          rintro _ w16 ⟨rfl, hb⟩
          have HB16 := Lib.hid (HB15.out.trans (hb.mono HB15.out.size))
          replace HS1 := Lib.hid (HS1.out.below hb)
          replace HS2 := Lib.hid (HS2.out.below hb)
          replace HC := Lib.hid (HC.out.below hb)
          replace HD_ := Lib.hid (HD_.out.below hb)
          replace HL := Lib.hid (HL.out.below hb)
          clear hb HB15
          go_wp2_with fail
          refine (val_n HVf.out HN1.out HD1.out HX0.out.1 HX0.out.2 _ _ _ _ _ _ (HF.out.below HB16.out)).mono ?_
          rintro _ w17 ⟨rfl, hb⟩
          have HB17 := Lib.hid (HB16.out.trans (hb.mono HB16.out.size))
          replace HS1 := Lib.hid (HS1.out.below hb)
          replace HS2 := Lib.hid (HS2.out.below hb)
          replace HC := Lib.hid (HC.out.below hb)
          replace HD_ := Lib.hid (HD_.out.below hb)
          replace HL := Lib.hid (HL.out.below hb)
          clear hb HB16
          go_wp2
          go_ret
          exact ⟨by first | rfl | (simp; done) | (simp; omega), HB17.out⟩
        · generalize (leastR g f).2 = j at *
          rw [hi] at KL1
          clear hi
          clear hS hS' hf hg hb hx hx0
          go_enter Try.func7, Try.ntmps7
          go_wp2_with fail
          refine (head_any _).mono ?_
          rintro _ w1 ⟨rfl, hb⟩
          have HB1 := Lib.hid (HB0.out.trans (hb.mono HB0.out.size))
          clear hb HB0
          go_wp2_with fail
          refine (KB.out _ HB1.out).mono ?_
          rintro _ w2 ⟨rfl, hb⟩
          have HB2 := Lib.hid (HB1.out.trans (hb.mono HB1.out.size))
          clear hb HB1
          go_wp2_with fail
          refine (KX.out _).mono ?_
          rintro _ w3 ⟨rfl, hb⟩
          have HB3 := Lib.hid (HB2.out.trans (hb.mono HB2.out.size))
          clear hb HB2
          go_wp2_with fail
          refine (KA1.out _ HB3.out).mono ?_
          rintro _ w4 ⟨p_HS1, b_HS1, o_HS1, n_HS1, c_HS1, rfl, hs, hb⟩
          have HB4 := Lib.hid (HB3.out.trans (hb.mono HB3.out.size))
          clear hb HB3
          have HS1 := Lib.hid hs
          clear hs
          go_wp2_with fail
          refine (KA2.out _ HB4.out).mono ?_
          rintro _ w5 ⟨p_HS2, b_HS2, o_HS2, n_HS2, c_HS2, rfl, hs, hb⟩
          have HB5 := Lib.hid (HB4.out.trans (hb.mono HB4.out.size))
          replace HS1 := Lib.hid (HS1.out.below hb)
          clear hb HB4
          have HS2 := Lib.hid hs
          clear hs
          go_wp2_with fail
          refine (KL1.out _ HB5.out).mono ?_
          rintro _ w6 ⟨p_HC, b_HC, o_HC, n_HC, c_HC, rfl, hs, hb⟩
          have HB6 := Lib.hid (HB5.out.trans (hb.mono HB5.out.size))
          replace HS1 := Lib.hid (HS1.out.below hb)
          replace HS2 := Lib.hid (HS2.out.below hb)
          clear hb HB5
          have HC := Lib.hid hs
          clear hs
          go_wp2_with fail
          refine (KL2.out _ HB6.out).mono ?_
          rintro _ w7 ⟨p_HD_, b_HD_, o_HD_, n_HD_, c_HD_, rfl, hs, hb⟩
          have HB7 := Lib.hid (HB6.out.trans (hb.mono HB6.out.size))
          replace HS1 := Lib.hid (HS1.out.below hb)
          replace HS2 := Lib.hid (HS2.out.below hb)
          replace HC := Lib.hid (HC.out.below hb)
          clear hb HB6
          have HD_ := Lib.hid hs
          clear hs
          go_wp2_with fail
          refine (KL3.out _ HB7.out).mono ?_
          rintro _ w8 ⟨p_HL, b_HL, o_HL, n_HL, c_HL, rfl, hs, hb⟩
          have HB8 := Lib.hid (HB7.out.trans (hb.mono HB7.out.size))
          replace HS1 := Lib.hid (HS1.out.below hb)
          replace HS2 := Lib.hid (HS2.out.below hb)
          replace HC := Lib.hid (HC.out.below hb)
          replace HD_ := Lib.hid (HD_.out.below hb)
          clear hb HB7
          have HL := Lib.hid hs
          clear hs
          go_wp2_with fail
          refine (rvalid_b L true HVL.out _ _ _ _ _ _ HL.out).mono ?_
          rintro _ w9 ⟨rfl, hb⟩
          have HB9 := Lib.hid (HB8.out.trans (hb.mono HB8.out.size))
          replace HS1 := Lib.hid (HS1.out.below hb)
          replace HS2 := Lib.hid (HS2.out.below hb)
          replace HC := Lib.hid (HC.out.below hb)
          replace HD_ := Lib.hid (HD_.out.below hb)
          replace HL := Lib.hid (HL.out.below hb)
          clear hb HB8
          go_wp2_with fail
          refine (val_n HVl.out HN5.out HD5.out HX0.out.1 HX0.out.2 _ _ _ _ _ _ HL.out).mono ?_
          rintro _ w10 ⟨rfl, hb⟩
          have HB10 := Lib.hid (HB9.out.trans (hb.mono HB9.out.size))
          replace HS1 := Lib.hid (HS1.out.below hb)
          replace HS2 := Lib.hid (HS2.out.below hb)
          replace HC := Lib.hid (HC.out.below hb)
          replace HD_ := Lib.hid (HD_.out.below hb)
          replace HL := Lib.hid (HL.out.below hb)
          clear hb HB9
          go_wp2_with fail
          refine (val_n HVf.out HN1.out HD1.out HX0.out.1 HX0.out.2 _ _ _ _ _ _ (HF.out.below HB10.out)).mono ?_
          rintro _ w11 ⟨rfl, hb⟩
          have HB11 := Lib.hid (HB10.out.trans (hb.mono HB10.out.size))
          replace HS1 := Lib.hid (HS1.out.below hb)
          replace HS2 := Lib.hid (HS2.out.below hb)
          replace HC := Lib.hid (HC.out.below hb)
          replace HD_ := Lib.hid (HD_.out.below hb)
          replace HL := Lib.hid (HL.out.below hb)
          clear hb HB10
          go_wp2
          go_ret
          exact ⟨by first | rfl | (simp; done) | (simp; omega), HB11.out⟩
      · generalize (leastR f g).2 = i at *
        clear hS hS' hf hg hb hx hx0
        go_enter Try.func7, Try.ntmps7
        go_wp2_with fail
        refine (head_any _).mono ?_
        rintro _ w1 ⟨rfl, hb⟩
        have HB1 := Lib.hid (HB0.out.trans (hb.mono HB0.out.size))
        clear hb HB0
        go_wp2_with fail
        refine (KB.out _ HB1.out).mono ?_
        rintro _ w2 ⟨rfl, hb⟩
        have HB2 := Lib.hid (HB1.out.trans (hb.mono HB1.out.size))
        clear hb HB1
        go_wp2_with fail
        refine (KX.out _).mono ?_
        rintro _ w3 ⟨rfl, hb⟩
        have HB3 := Lib.hid (HB2.out.trans (hb.mono HB2.out.size))
        clear hb HB2
        go_wp2_with fail
        refine (KA1.out _ HB3.out).mono ?_
        rintro _ w4 ⟨p_HS1, b_HS1, o_HS1, n_HS1, c_HS1, rfl, hs, hb⟩
        have HB4 := Lib.hid (HB3.out.trans (hb.mono HB3.out.size))
        clear hb HB3
        have HS1 := Lib.hid hs
        clear hs
        go_wp2_with fail
        refine (KA2.out _ HB4.out).mono ?_
        rintro _ w5 ⟨p_HS2, b_HS2, o_HS2, n_HS2, c_HS2, rfl, hs, hb⟩
        have HB5 := Lib.hid (HB4.out.trans (hb.mono HB4.out.size))
        replace HS1 := Lib.hid (HS1.out.below hb)
        clear hb HB4
        have HS2 := Lib.hid hs
        clear hs
        go_wp2_with fail
        refine (KL1.out _ HB5.out).mono ?_
        rintro _ w6 ⟨p_HC, b_HC, o_HC, n_HC, c_HC, rfl, hs, hb⟩
        have HB6 := Lib.hid (HB5.out.trans (hb.mono HB5.out.size))
        replace HS1 := Lib.hid (HS1.out.below hb)
        replace HS2 := Lib.hid (HS2.out.below hb)
        clear hb HB5
        have HC := Lib.hid hs
        clear hs
        go_wp2_with fail
        refine (KL2.out _ HB6.out).mono ?_
        rintro _ w7 ⟨p_HD_, b_HD_, o_HD_, n_HD_, c_HD_, rfl, hs, hb⟩
        have HB7 := Lib.hid (HB6.out.trans (hb.mono HB6.out.size))
        replace HS1 := Lib.hid (HS1.out.below hb)
        replace HS2 := Lib.hid (HS2.out.below hb)
        replace HC := Lib.hid (HC.out.below hb)
        clear hb HB6
        have HD_ := Lib.hid hs
        clear hs
        go_wp2_with fail
        refine (KL3.out _ HB7.out).mono ?_
        rintro _ w8 ⟨p_HL, b_HL, o_HL, n_HL, c_HL, rfl, hs, hb⟩
        have HB8 := Lib.hid (HB7.out.trans (hb.mono HB7.out.size))
        replace HS1 := Lib.hid (HS1.out.below hb)
        replace HS2 := Lib.hid (HS2.out.below hb)
        replace HC := Lib.hid (HC.out.below hb)
        replace HD_ := Lib.hid (HD_.out.below hb)
        clear hb HB7
        have HL := Lib.hid hs
        clear hs
        go_wp2_with fail
        refine (rvalid_b L true HVL.out _ _ _ _ _ _ HL.out).mono ?_
        rintro _ w9 ⟨rfl, hb⟩
        have HB9 := Lib.hid (HB8.out.trans (hb.mono HB8.out.size))
        replace HS1 := Lib.hid (HS1.out.below hb)
        replace HS2 := Lib.hid (HS2.out.below hb)
        replace HC := Lib.hid (HC.out.below hb)
        replace HD_ := Lib.hid (HD_.out.below hb)
        replace HL := Lib.hid (HL.out.below hb)
        clear hb HB8
        go_wp2_with fail
        refine (val_n HVl.out HN5.out HD5.out HX0.out.1 HX0.out.2 _ _ _ _ _ _ HL.out).mono ?_
        rintro _ w10 ⟨rfl, hb⟩
        have HB10 := Lib.hid (HB9.out.trans (hb.mono HB9.out.size))
        replace HS1 := Lib.hid (HS1.out.below hb)
        replace HS2 := Lib.hid (HS2.out.below hb)
        replace HC := Lib.hid (HC.out.below hb)
        replace HD_ := Lib.hid (HD_.out.below hb)
        replace HL := Lib.hid (HL.out.below hb)
        clear hb HB9
        go_wp2_with fail
        refine (val_n HVf.out HN1.out HD1.out HX0.out.1 HX0.out.2 _ _ _ _ _ _ (HF.out.below HB10.out)).mono ?_
        rintro _ w11 ⟨rfl, hb⟩
        have HB11 := Lib.hid (HB10.out.trans (hb.mono HB10.out.size))
        replace HS1 := Lib.hid (HS1.out.below hb)
        replace HS2 := Lib.hid (HS2.out.below hb)
        replace HC := Lib.hid (HC.out.below hb)
        replace HD_ := Lib.hid (HD_.out.below hb)
        replace HL := Lib.hid (HL.out.below hb)
        clear hb HB10
        go_wp2
        go_ret
        exact ⟨by first | rfl | (simp; done) | (simp; omega), HB11.out⟩
end Go.Proofs.Ytmjdolgcgbiajaa
