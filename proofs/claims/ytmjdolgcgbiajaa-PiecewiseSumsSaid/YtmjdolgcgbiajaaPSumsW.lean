/-
  The walk of the law on sums.
-/
import Derived.Test.YtmjdolgcgbiajaaPLaw
namespace Go.Proofs.Ytmjdolgcgbiajaa
open Go.RowKit Go.Shelf Pw

set_option maxRecDepth 100000 in
set_option maxHeartbeats 4000000 in
theorem sums_law (f g : List RP) (pf pg : Option Addr) (bf of cf lf bg og cg lg : Nat) (a : Int) (w : World) (hS : SlP w pf bf of lf f) (hS' : SlP w pg bg og lg g) (a0 : 0 ≤ a) (a1 : a ≤ 4294967295) :
    Calls Try.prog 4 #[.slice pf lf cf, .slice pg lg cg, .int .u32 a] w fun e w' => e = .returned (.bool true) ∧ RowKit.Below w.heap.size w w' := by
  have HB0 : Hid (RowKit.Below w.heap.size w w) := Below.refl _ _
  have KB := Lib.hid (fun w' (h : RowKit.Below w.heap.size w w') => both_any f g pf pg bf of cf lf bg og cg lg w' (hS.below h) (hS'.below h))
  cases hb : bothR f g with
  | false =>
    rw [hb] at KB
    clear hS hS' hb
    go_enter Try.func4, Try.ntmps4
    go_wp2_with fail
    refine (head_any _).mono ?_
    rintro _ w1 ⟨rfl, hb⟩
    have HB1 := Lib.hid (HB0.out.trans (hb.mono HB0.out.size))
    clear hb HB0
    go_wp2_with fail
    refine (KB.out _ HB1.out).mono ?_
    rintro _ w2 ⟨rfl, hb⟩
    have HB2 := Lib.hid (HB1.out.trans (hb.mono HB1.out.size))
    clear hb HB1
    go_wp2
    go_ret
    exact ⟨by first | rfl | (simp; done), HB2.out⟩
  | true =>
    rw [hb] at KB
    obtain ⟨hf, hg⟩ := both_true hb
    have KX := Lib.hid (fun w => place_any a w a0 a1)
    obtain ⟨x, hx⟩ : ∃ x, x = a % 100001 := ⟨_, rfl⟩
    have hx0 := place_bd a
    rw [← hx] at KX hx0
    have HX0 := Lib.hid hx0
    have KA := Lib.hid (fun w' (h : RowKit.Below w.heap.size w w') => add_any f g pf pg bf of cf lf bg og cg lg w' (hS.below h) (hS'.below h))
    rw [show opR f g (addR f g) = addR f g from if_pos ⟨hf, hg⟩] at KA
    have HF := Lib.hid hS
    have HG := Lib.hid hS'
    have HVf := Lib.hid hf
    have HVg := Lib.hid hg
    rcases addR_err f g with he | ⟨hl, he | he⟩
    · obtain ⟨h1, _, h3⟩ := addR_ok hf he
      have h3 := h3 x hx0.1 hx0.2
      rw [he] at KA
      generalize (addR f g).1 = S at *
      have HVS := Lib.hid (vR_iff.2 h1)
      have HVs := Lib.hid h1
      obtain ⟨b1, b2⟩ := vl_bd hf hx0.1 hx0.2
      obtain ⟨b3, b4⟩ := vl_bd hg hx0.1 hx0.2
      obtain ⟨s1, s2, s3⟩ := sum_bd b1 b2 b3 b4
      have KSum := Lib.hid (fun w => rsum_any (vl (AA f) x) (vl (AA g) x) w s1 s2 s3)
      unfold RV at KSum
      rw [← h3] at KSum
      obtain ⟨n, hn⟩ : ∃ n, n = (vl (AA S) x).num := ⟨_, rfl⟩
      obtain ⟨d, hd⟩ : ∃ d : Int, d = (vl (AA S) x).den := ⟨_, rfl⟩
      obtain ⟨n1, hn1⟩ : ∃ n, n = (vl (AA f) x).num := ⟨_, rfl⟩
      obtain ⟨d1, hd1⟩ : ∃ d : Int, d = (vl (AA f) x).den := ⟨_, rfl⟩
      obtain ⟨n2, hn2⟩ : ∃ n, n = (vl (AA g) x).num := ⟨_, rfl⟩
      obtain ⟨d2, hd2⟩ : ∃ d : Int, d = (vl (AA g) x).den := ⟨_, rfl⟩
      rw [← hn, ← hd, ← hn1, ← hd1, ← hn2, ← hd2] at KSum
      have HN := Lib.hid hn
      have HD := Lib.hid hd
      have HN1 := Lib.hid hn1
      have HD1 := Lib.hid hd1
      have HN2 := Lib.hid hn2
      have HD2 := Lib.hid hd2
      clear hn hd hn1 hd1 hn2 hd2 h3 h1 b1 b2 b3 b4 s1 s2 s3 he hf hg hb hS hS' hx hx0
      go_enter Try.func4, Try.ntmps4
      go_wp2_with fail
      refine (head_any _).mono ?_
      rintro _ w1 ⟨rfl, hb⟩
      have HB1 := Lib.hid (HB0.out.trans (hb.mono HB0.out.size))
      clear hb HB0
      go_wp2_with fail
      refine (KB.out _ HB1.out).mono ?_
      rintro _ w2 ⟨rfl, hb⟩
      have HB2 := Lib.hid (HB1.out.trans (hb.mono HB1.out.size))
      clear hb HB1
      go_wp2_with fail
      refine (KX.out _).mono ?_
      rintro _ w3 ⟨rfl, hb⟩
      have HB3 := Lib.hid (HB2.out.trans (hb.mono HB2.out.size))
      clear hb HB2
      go_wp2_with fail
      refine (KA.out _ HB3.out).mono ?_
      rintro _ w4 ⟨p_HS, b_HS, o_HS, n_HS, c_HS, rfl, hs, hb⟩
      have HB4 := Lib.hid (HB3.out.trans (hb.mono HB3.out.size))
      clear hb HB3
      have HS := Lib.hid hs
      clear hs
      go_wp2_with fail
      refine (rvalid_b S true HVS.out _ _ _ _ _ _ HS.out).mono ?_
      rintro _ w5 ⟨rfl, hb⟩
      have HB5 := Lib.hid (HB4.out.trans (hb.mono HB4.out.size))
      replace HS := Lib.hid (HS.out.below hb)
      clear hb HB4
      go_wp2_with fail
      refine (val_n HVs.out HN.out HD.out HX0.out.1 HX0.out.2 _ _ _ _ _ _ HS.out).mono ?_
      rintro _ w6 ⟨rfl, hb⟩
      have HB6 := Lib.hid (HB5.out.trans (hb.mono HB5.out.size))
      replace HS := Lib.hid (HS.out.below hb)
      clear hb HB5
      go_wp2_with fail
      refine (val_n HVf.out HN1.out HD1.out HX0.out.1 HX0.out.2 _ _ _ _ _ _ (HF.out.below HB6.out)).mono ?_
      rintro _ w7 ⟨rfl, hb⟩
      have HB7 := Lib.hid (HB6.out.trans (hb.mono HB6.out.size))
      replace HS := Lib.hid (HS.out.below hb)
      clear hb HB6
      go_wp2_with fail
      refine (val_n HVg.out HN2.out HD2.out HX0.out.1 HX0.out.2 _ _ _ _ _ _ (HG.out.below HB7.out)).mono ?_
      rintro _ w8 ⟨rfl, hb⟩
      have HB8 := Lib.hid (HB7.out.trans (hb.mono HB7.out.size))
      replace HS := Lib.hid (HS.out.below hb)
      clear hb HB7
      go_wp2_with fail
      refine (KSum.out _).mono ?_
      rintro _ w9 ⟨rfl, hb⟩
      have HB9 := Lib.hid (HB8.out.trans (hb.mono HB8.out.size))
      replace HS := Lib.hid (HS.out.below hb)
      clear hb HB8
      go_wp2
      go_ret
      exact ⟨by first | rfl | (simp; done), HB9.out⟩
    · rw [hl, he] at KA
      clear hS hS' hb hf hg hx hx0 hl he
      go_enter Try.func4, Try.ntmps4
      go_wp2_with fail
      refine (head_any _).mono ?_
      rintro _ w1 ⟨rfl, hb⟩
      have HB1 := Lib.hid (HB0.out.trans (hb.mono HB0.out.size))
      clear hb HB0
      go_wp2_with fail
      refine (KB.out _ HB1.out).mono ?_
      rintro _ w2 ⟨rfl, hb⟩
      have HB2 := Lib.hid (HB1.out.trans (hb.mono HB1.out.size))
      clear hb HB1
      go_wp2_with fail
      refine (KX.out _).mono ?_
      rintro _ w3 ⟨rfl, hb⟩
      have HB3 := Lib.hid (HB2.out.trans (hb.mono HB2.out.size))
      clear hb HB2
      go_wp2_with fail
      refine (KA.out _ HB3.out).mono ?_
      rintro _ w4 ⟨p_HS, b_HS, o_HS, n_HS, c_HS, rfl, hs, hb⟩
      have HB4 := Lib.hid (HB3.out.trans (hb.mono HB3.out.size))
      clear hb HB3
      have HS := Lib.hid hs
      clear hs
      obtain rfl : n_HS = 0 := HS.out.ln.symm
      go_wp2
      go_ret
      exact ⟨by first | rfl | (simp; done), HB4.out⟩
    · rw [hl, he] at KA
      clear hS hS' hb hf hg hx hx0 hl he
      go_enter Try.func4, Try.ntmps4
      go_wp2_with fail
      refine (head_any _).mono ?_
      rintro _ w1 ⟨rfl, hb⟩
      have HB1 := Lib.hid (HB0.out.trans (hb.mono HB0.out.size))
      clear hb HB0
      go_wp2_with fail
      refine (KB.out _ HB1.out).mono ?_
      rintro _ w2 ⟨rfl, hb⟩
      have HB2 := Lib.hid (HB1.out.trans (hb.mono HB1.out.size))
      clear hb HB1
      go_wp2_with fail
      refine (KX.out _).mono ?_
      rintro _ w3 ⟨rfl, hb⟩
      have HB3 := Lib.hid (HB2.out.trans (hb.mono HB2.out.size))
      clear hb HB2
      go_wp2_with fail
      refine (KA.out _ HB3.out).mono ?_
      rintro _ w4 ⟨p_HS, b_HS, o_HS, n_HS, c_HS, rfl, hs, hb⟩
      have HB4 := Lib.hid (HB3.out.trans (hb.mono HB3.out.size))
      clear hb HB3
      have HS := Lib.hid hs
      clear hs
      obtain rfl : n_HS = 0 := HS.out.ln.symm
      go_wp2
      go_ret
      exact ⟨by first | rfl | (simp; done), HB4.out⟩
end Go.Proofs.Ytmjdolgcgbiajaa
