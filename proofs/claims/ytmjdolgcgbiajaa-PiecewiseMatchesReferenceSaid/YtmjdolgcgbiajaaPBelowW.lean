/-
  The walk of the law on where one function is below another.
-/
import Derived.Test.YtmjdolgcgbiajaaPLeastW
namespace Go.Proofs.Ytmjdolgcgbiajaa
open Go.RowKit Go.Shelf Pw

theorem cm_neg {a b : Rat} : cm a b < 0 ↔ a < b := by
  unfold cm
  split
  · rename_i h; exact ⟨fun _ => h, fun _ => by omega⟩
  · rename_i h
    refine ⟨fun k => ?_, fun k => absurd k h⟩
    split at k <;> omega
theorem rem_bd (t m : Int) (h1 : 0 < m) : 0 ≤ t % m ∧ t % m < m := ⟨Int.emod_nonneg _ (by omega), Int.emod_lt_of_pos _ h1⟩
set_option maxRecDepth 100000 in
set_option maxHeartbeats 2000000 in
theorem below_law (f g : List RP) (pf pg : Option Addr) (bf of cf lf bg og cg lg : Nat) (a s t : Int) (w : World) (hS : SlP w pf bf of lf f) (hS' : SlP w pg bg og lg g) (a0 : 0 ≤ a) (a1 : a ≤ 4294967295) (s0 : 0 ≤ s) (s1 : s ≤ 4294967295) (t0 : 0 ≤ t) (t1 : t ≤ 4294967295) :
    Calls Try.prog 6 #[.slice pf lf cf, .slice pg lg cg, .int .u32 a, .int .u32 s, .int .u32 t] w fun e w' => e = .returned (.bool true) ∧ RowKit.Below w.heap.size w w' := by
  have HB0 : Hid (RowKit.Below w.heap.size w w) := Below.refl _ _
  have KB := Lib.hid (fun w' (h : RowKit.Below w.heap.size w w') => both_any f g pf pg bf of cf lf bg og cg lg w' (hS.below h) (hS'.below h))
  cases hb : bothR f g with
  | false =>
    rw [hb] at KB
    clear hS hS' hb
    go_enter Try.func6, Try.ntmps6
    go_wp2_with fail
    refine (head_any _).mono ?_
    rintro _ w1 ⟨rfl, hb⟩
    have HB1 := Lib.hid (HB0.out.trans (hb.mono HB0.out.size))
    clear hb HB0
    go_wp2_with fail
    refine (KB.out _ HB1.out).mono ?_
    rintro _ w2 ⟨rfl, hb⟩
    have HB2 := Lib.hid (HB1.out.trans (hb.mono HB1.out.size))
    clear hb HB1
    go_wp2
    go_ret
    exact ⟨by first | rfl | (simp; done) | (simp; omega), HB2.out⟩
  | true =>
    rw [hb] at KB
    obtain ⟨hf, hg⟩ := both_true hb
    have KX1 := Lib.hid (fun w => place_any a w a0 a1)
    have KX2 := Lib.hid (fun w => place_any s w s0 s1)
    have hl0 := place_bd a
    have hs0 := place_bd s
    generalize a % 100001 = lo at *
    generalize s % 100001 = sz at *
    obtain ⟨hi, hhi⟩ : ∃ hi, hi = min 100000 (lo + sz) := ⟨_, rfl⟩
    have hh : lo ≤ hi ∧ hi ≤ 100000 := by omega
    obtain ⟨y, hy⟩ : ∃ y, y = lo + t % (hi - lo + 1) := ⟨_, rfl⟩
    have hr := rem_bd t (hi - lo + 1) (by omega)
    have hy0 : 0 ≤ y ∧ y ≤ 100000 := by omega
    have hyl : lo ≤ y ∧ y ≤ hi := by omega
    have hcase : (lo + sz < 100000 ∧ hi = lo + sz) ∨ (100000 ≤ lo + sz ∧ hi = 100000) := by omega
    have hye : lo + t % (hi - lo + 1) = y := hy.symm
    clear hhi hy
    have KA := Lib.hid (fun w' (h : RowKit.Below w.heap.size w w') => below_any f g pf pg bf of cf lf bg og cg lg lo hi w' (hS.below h) (hS'.below h))
    rw [show belV f g lo hi = _ from if_pos ⟨hf, hg, hl0.1, hh.1, hh.2⟩] at KA
    have HF := Lib.hid hS
    have HG := Lib.hid hS'
    have HVf := Lib.hid hf
    have HVg := Lib.hid hg
    have HY0 := Lib.hid hy0
    obtain ⟨n1, hn1⟩ : ∃ n, n = (vl (AA f) y).num := ⟨_, rfl⟩
    obtain ⟨d1, hd1⟩ : ∃ d : Int, d = (vl (AA f) y).den := ⟨_, rfl⟩
    obtain ⟨n2, hn2⟩ : ∃ n, n = (vl (AA g) y).num := ⟨_, rfl⟩
    obtain ⟨d2, hd2⟩ : ∃ d : Int, d = (vl (AA g) y).den := ⟨_, rfl⟩
    have bf' := vl_bd hf hy0.1 hy0.2
    have bg' := vl_bd hg hy0.1 hy0.2
    have KC := Lib.hid (fun w => rcompare_any (vl (AA f) y) (vl (AA g) y) w (cmp_bd bf' bg').1 (cmp_bd bf' bg').2)
    unfold RV at KC
    obtain ⟨c, hc⟩ : ∃ c, c = cm (vl (AA f) y) (vl (AA g) y) := ⟨_, rfl⟩
    rw [← hc, ← hn1, ← hd1, ← hn2, ← hd2] at KC
    have HN1 := Lib.hid hn1
    have HD1 := Lib.hid hd1
    have HN2 := Lib.hid hn2
    have HD2 := Lib.hid hd2
    have hcl : c < 0 ↔ lss (AA f) (AA g) y = true := by rw [hc, cm_neg]; unfold lss; rw [decide_eq_true_eq]
    clear hn1 hd1 hn2 hd2 bf' bg' hc
    have HLO := Lib.hid (And.intro hl0 (And.intro hh hyl))
    rcases bel_is (F := AA f) (G := AA g) (n := (hi + 1 - lo).toNat) (lo := lo) with ⟨k1, k2⟩ | ⟨X, k1, k2, k3, k4, k5⟩
    · rw [show belR (AA f) (AA g) lo hi = (0, false) from k1] at KA
      have hcn : ¬ c < 0 := fun h => by have := hcl.1 h; rw [k2 y (by omega) (by omega)] at this; cases this
      clear k1 k2 hcl hS hS' hf hg hb hy0
      obtain ⟨hm, rfl⟩ | ⟨hm, rfl⟩ := hcase
      · skip
        have hy1 := hyl.1
        have hy2 := hyl.2
        go_enter Try.func6, Try.ntmps6
        go_wp2_with fail
        refine (head_any _).mono ?_
        rintro _ w1 ⟨rfl, hb⟩
        have HB1 := Lib.hid (HB0.out.trans (hb.mono HB0.out.size))
        clear hb HB0
        go_wp2_with fail
        refine (KB.out _ HB1.out).mono ?_
        rintro _ w2 ⟨rfl, hb⟩
        have HB2 := Lib.hid (HB1.out.trans (hb.mono HB1.out.size))
        clear hb HB1
        go_wp2_with fail
        refine (KX1.out _).mono ?_
        rintro _ w3 ⟨rfl, hb⟩
        have HB3 := Lib.hid (HB2.out.trans (hb.mono HB2.out.size))
        clear hb HB2
        go_wp2_with fail
        refine (KX2.out _).mono ?_
        rintro _ w4 ⟨rfl, hb⟩
        have HB4 := Lib.hid (HB3.out.trans (hb.mono HB3.out.size))
        clear hb HB3
        go_wp2_with fail
        refine (KA.out _ HB4.out).mono ?_
        rintro _ w5 ⟨rfl, hb⟩
        have HB5 := Lib.hid (HB4.out.trans (hb.mono HB4.out.size))
        clear hb HB4
        go_wp2_with fail
        refine (val_n HVf.out HN1.out HD1.out HY0.out.1 HY0.out.2 _ _ _ _ _ _ (HF.out.below HB5.out)).mono ?_
        rintro _ w6 ⟨rfl, hb⟩
        have HB6 := Lib.hid (HB5.out.trans (hb.mono HB5.out.size))
        clear hb HB5
        go_wp2_with fail
        refine (val_n HVg.out HN2.out HD2.out HY0.out.1 HY0.out.2 _ _ _ _ _ _ (HG.out.below HB6.out)).mono ?_
        rintro _ w7 ⟨rfl, hb⟩
        have HB7 := Lib.hid (HB6.out.trans (hb.mono HB6.out.size))
        clear hb HB6
        go_wp2_with fail
        refine (KC.out _).mono ?_
        rintro _ w8 ⟨rfl, hb⟩
        have HB8 := Lib.hid (HB7.out.trans (hb.mono HB7.out.size))
        clear hb HB7
        go_wp2
        go_ret
        exact ⟨by first | rfl | (simp; done) | (simp; omega), HB8.out⟩
      · skip
        have hy1 := hyl.1
        have hy2 := hyl.2
        go_enter Try.func6, Try.ntmps6
        go_wp2_with fail
        refine (head_any _).mono ?_
        rintro _ w1 ⟨rfl, hb⟩
        have HB1 := Lib.hid (HB0.out.trans (hb.mono HB0.out.size))
        clear hb HB0
        go_wp2_with fail
        refine (KB.out _ HB1.out).mono ?_
        rintro _ w2 ⟨rfl, hb⟩
        have HB2 := Lib.hid (HB1.out.trans (hb.mono HB1.out.size))
        clear hb HB1
        go_wp2_with fail
        refine (KX1.out _).mono ?_
        rintro _ w3 ⟨rfl, hb⟩
        have HB3 := Lib.hid (HB2.out.trans (hb.mono HB2.out.size))
        clear hb HB2
        go_wp2_with fail
        refine (KX2.out _).mono ?_
        rintro _ w4 ⟨rfl, hb⟩
        have HB4 := Lib.hid (HB3.out.trans (hb.mono HB3.out.size))
        clear hb HB3
        go_wp2_with fail
        refine (KA.out _ HB4.out).mono ?_
        rintro _ w5 ⟨rfl, hb⟩
        have HB5 := Lib.hid (HB4.out.trans (hb.mono HB4.out.size))
        clear hb HB4
        go_wp2_with fail
        refine (val_n HVf.out HN1.out HD1.out HY0.out.1 HY0.out.2 _ _ _ _ _ _ (HF.out.below HB5.out)).mono ?_
        rintro _ w6 ⟨rfl, hb⟩
        have HB6 := Lib.hid (HB5.out.trans (hb.mono HB5.out.size))
        clear hb HB5
        go_wp2_with fail
        refine (val_n HVg.out HN2.out HD2.out HY0.out.1 HY0.out.2 _ _ _ _ _ _ (HG.out.below HB6.out)).mono ?_
        rintro _ w7 ⟨rfl, hb⟩
        have HB7 := Lib.hid (HB6.out.trans (hb.mono HB6.out.size))
        clear hb HB6
        go_wp2_with fail
        refine (KC.out _).mono ?_
        rintro _ w8 ⟨rfl, hb⟩
        have HB8 := Lib.hid (HB7.out.trans (hb.mono HB7.out.size))
        clear hb HB7
        go_wp2
        go_ret
        exact ⟨by first | rfl | (simp; done) | (simp; omega), HB8.out⟩
    · rw [show belR (AA f) (AA g) lo hi = (X, true) from k1] at KA
      have hz0 : 0 ≤ X ∧ X ≤ 100000 := by omega
      have HZ0 := Lib.hid hz0
      have hXl : ¬ X < lo := by omega
      have hXh : ¬ hi < X := by omega
      obtain ⟨n3, hn3⟩ : ∃ n, n = (vl (AA f) X).num := ⟨_, rfl⟩
      obtain ⟨d3, hd3⟩ : ∃ d : Int, d = (vl (AA f) X).den := ⟨_, rfl⟩
      obtain ⟨n4, hn4⟩ : ∃ n, n = (vl (AA g) X).num := ⟨_, rfl⟩
      obtain ⟨d4, hd4⟩ : ∃ d : Int, d = (vl (AA g) X).den := ⟨_, rfl⟩
      have bf' := vl_bd hf hz0.1 hz0.2
      have bg' := vl_bd hg hz0.1 hz0.2
      have KC2 := Lib.hid (fun w => rcompare_any (vl (AA f) X) (vl (AA g) X) w (cmp_bd bf' bg').1 (cmp_bd bf' bg').2)
      unfold RV at KC2
      obtain ⟨c2, hc2⟩ : ∃ c, c = cm (vl (AA f) X) (vl (AA g) X) := ⟨_, rfl⟩
      rw [← hc2, ← hn3, ← hd3, ← hn4, ← hd4] at KC2
      have HN3 := Lib.hid hn3
      have HD3 := Lib.hid hd3
      have HN4 := Lib.hid hn4
      have HD4 := Lib.hid hd4
      have hcx : c2 < 0 := by rw [hc2, cm_neg]; unfold lss at k4; exact of_decide_eq_true k4
      clear hn3 hd3 hn4 hd4 bf' bg' hc2
      by_cases hcy : c < 0
      · have hyX : X ≤ y := by
          apply Decidable.byContradiction
          intro h
          have := hcl.1 hcy
          rw [k5 y (by omega) (by omega)] at this
          cases this
        clear k1 k2 k3 k4 k5 hcl hS hS' hf hg hb hy0 hz0
        obtain ⟨hm, rfl⟩ | ⟨hm, rfl⟩ := hcase
        · skip
          have hy1 := hyl.1
          have hy2 := hyl.2
          go_enter Try.func6, Try.ntmps6
          go_wp2_with fail
          refine (head_any _).mono ?_
          rintro _ w1 ⟨rfl, hb⟩
          have HB1 := Lib.hid (HB0.out.trans (hb.mono HB0.out.size))
          clear hb HB0
          go_wp2_with fail
          refine (KB.out _ HB1.out).mono ?_
          rintro _ w2 ⟨rfl, hb⟩
          have HB2 := Lib.hid (HB1.out.trans (hb.mono HB1.out.size))
          clear hb HB1
          go_wp2_with fail
          refine (KX1.out _).mono ?_
          rintro _ w3 ⟨rfl, hb⟩
          have HB3 := Lib.hid (HB2.out.trans (hb.mono HB2.out.size))
          clear hb HB2
          go_wp2_with fail
          refine (KX2.out _).mono ?_
          rintro _ w4 ⟨rfl, hb⟩
          have HB4 := Lib.hid (HB3.out.trans (hb.mono HB3.out.size))
          clear hb HB3
          go_wp2_with fail
          refine (KA.out _ HB4.out).mono ?_
          rintro _ w5 ⟨rfl, hb⟩
          have HB5 := Lib.hid (HB4.out.trans (hb.mono HB4.out.size))
          clear hb HB4
          go_wp2_with fail
          refine (val_n HVf.out HN1.out HD1.out HY0.out.1 HY0.out.2 _ _ _ _ _ _ (HF.out.below HB5.out)).mono ?_
          rintro _ w6 ⟨rfl, hb⟩
          have HB6 := Lib.hid (HB5.out.trans (hb.mono HB5.out.size))
          clear hb HB5
          go_wp2_with fail
          refine (val_n HVg.out HN2.out HD2.out HY0.out.1 HY0.out.2 _ _ _ _ _ _ (HG.out.below HB6.out)).mono ?_
          rintro _ w7 ⟨rfl, hb⟩
          have HB7 := Lib.hid (HB6.out.trans (hb.mono HB6.out.size))
          clear hb HB6
          go_wp2_with fail
          refine (KC.out _).mono ?_
          rintro _ w8 ⟨rfl, hb⟩
          have HB8 := Lib.hid (HB7.out.trans (hb.mono HB7.out.size))
          clear hb HB7
          go_wp2_with fail
          refine (val_n HVf.out HN3.out HD3.out HZ0.out.1 HZ0.out.2 _ _ _ _ _ _ (HF.out.below HB8.out)).mono ?_
          rintro _ w9 ⟨rfl, hb⟩
          have HB9 := Lib.hid (HB8.out.trans (hb.mono HB8.out.size))
          clear hb HB8
          go_wp2_with fail
          refine (val_n HVg.out HN4.out HD4.out HZ0.out.1 HZ0.out.2 _ _ _ _ _ _ (HG.out.below HB9.out)).mono ?_
          rintro _ w10 ⟨rfl, hb⟩
          have HB10 := Lib.hid (HB9.out.trans (hb.mono HB9.out.size))
          clear hb HB9
          go_wp2_with fail
          refine (KC2.out _).mono ?_
          rintro _ w11 ⟨rfl, hb⟩
          have HB11 := Lib.hid (HB10.out.trans (hb.mono HB10.out.size))
          clear hb HB10
          go_wp2
          go_ret
          exact ⟨by first | rfl | (simp; done) | (simp; omega), HB11.out⟩
        · skip
          have hy1 := hyl.1
          have hy2 := hyl.2
          go_enter Try.func6, Try.ntmps6
          go_wp2_with fail
          refine (head_any _).mono ?_
          rintro _ w1 ⟨rfl, hb⟩
          have HB1 := Lib.hid (HB0.out.trans (hb.mono HB0.out.size))
          clear hb HB0
          go_wp2_with fail
          refine (KB.out _ HB1.out).mono ?_
          rintro _ w2 ⟨rfl, hb⟩
          have HB2 := Lib.hid (HB1.out.trans (hb.mono HB1.out.size))
          clear hb HB1
          go_wp2_with fail
          refine (KX1.out _).mono ?_
          rintro _ w3 ⟨rfl, hb⟩
          have HB3 := Lib.hid (HB2.out.trans (hb.mono HB2.out.size))
          clear hb HB2
          go_wp2_with fail
          refine (KX2.out _).mono ?_
          rintro _ w4 ⟨rfl, hb⟩
          have HB4 := Lib.hid (HB3.out.trans (hb.mono HB3.out.size))
          clear hb HB3
          go_wp2_with fail
          refine (KA.out _ HB4.out).mono ?_
          rintro _ w5 ⟨rfl, hb⟩
          have HB5 := Lib.hid (HB4.out.trans (hb.mono HB4.out.size))
          clear hb HB4
          go_wp2_with fail
          refine (val_n HVf.out HN1.out HD1.out HY0.out.1 HY0.out.2 _ _ _ _ _ _ (HF.out.below HB5.out)).mono ?_
          rintro _ w6 ⟨rfl, hb⟩
          have HB6 := Lib.hid (HB5.out.trans (hb.mono HB5.out.size))
          clear hb HB5
          go_wp2_with fail
          refine (val_n HVg.out HN2.out HD2.out HY0.out.1 HY0.out.2 _ _ _ _ _ _ (HG.out.below HB6.out)).mono ?_
          rintro _ w7 ⟨rfl, hb⟩
          have HB7 := Lib.hid (HB6.out.trans (hb.mono HB6.out.size))
          clear hb HB6
          go_wp2_with fail
          refine (KC.out _).mono ?_
          rintro _ w8 ⟨rfl, hb⟩
          have HB8 := Lib.hid (HB7.out.trans (hb.mono HB7.out.size))
          clear hb HB7
          go_wp2_with fail
          refine (val_n HVf.out HN3.out HD3.out HZ0.out.1 HZ0.out.2 _ _ _ _ _ _ (HF.out.below HB8.out)).mono ?_
          rintro _ w9 ⟨rfl, hb⟩
          have HB9 := Lib.hid (HB8.out.trans (hb.mono HB8.out.size))
          clear hb HB8
          go_wp2_with fail
          refine (val_n HVg.out HN4.out HD4.out HZ0.out.1 HZ0.out.2 _ _ _ _ _ _ (HG.out.below HB9.out)).mono ?_
          rintro _ w10 ⟨rfl, hb⟩
          have HB10 := Lib.hid (HB9.out.trans (hb.mono HB9.out.size))
          clear hb HB9
          go_wp2_with fail
          refine (KC2.out _).mono ?_
          rintro _ w11 ⟨rfl, hb⟩
          have HB11 := Lib.hid (HB10.out.trans (hb.mono HB10.out.size))
          clear hb HB10
          go_wp2
          go_ret
          exact ⟨by first | rfl | (simp; done) | (simp; omega), HB11.out⟩
      · clear k1 k2 k3 k4 k5 hcl hS hS' hf hg hb hy0 hz0
        obtain ⟨hm, rfl⟩ | ⟨hm, rfl⟩ := hcase
        · skip
          have hy1 := hyl.1
          have hy2 := hyl.2
          go_enter Try.func6, Try.ntmps6
          go_wp2_with fail
          refine (head_any _).mono ?_
          rintro _ w1 ⟨rfl, hb⟩
          have HB1 := Lib.hid (HB0.out.trans (hb.mono HB0.out.size))
          clear hb HB0
          go_wp2_with fail
          refine (KB.out _ HB1.out).mono ?_
          rintro _ w2 ⟨rfl, hb⟩
          have HB2 := Lib.hid (HB1.out.trans (hb.mono HB1.out.size))
          clear hb HB1
          go_wp2_with fail
          refine (KX1.out _).mono ?_
          rintro _ w3 ⟨rfl, hb⟩
          have HB3 := Lib.hid (HB2.out.trans (hb.mono HB2.out.size))
          clear hb HB2
          go_wp2_with fail
          refine (KX2.out _).mono ?_
          rintro _ w4 ⟨rfl, hb⟩
          have HB4 := Lib.hid (HB3.out.trans (hb.mono HB3.out.size))
          clear hb HB3
          go_wp2_with fail
          refine (KA.out _ HB4.out).mono ?_
          rintro _ w5 ⟨rfl, hb⟩
          have HB5 := Lib.hid (HB4.out.trans (hb.mono HB4.out.size))
          clear hb HB4
          go_wp2_with fail
          refine (val_n HVf.out HN1.out HD1.out HY0.out.1 HY0.out.2 _ _ _ _ _ _ (HF.out.below HB5.out)).mono ?_
          rintro _ w6 ⟨rfl, hb⟩
          have HB6 := Lib.hid (HB5.out.trans (hb.mono HB5.out.size))
          clear hb HB5
          go_wp2_with fail
          refine (val_n HVg.out HN2.out HD2.out HY0.out.1 HY0.out.2 _ _ _ _ _ _ (HG.out.below HB6.out)).mono ?_
          rintro _ w7 ⟨rfl, hb⟩
          have HB7 := Lib.hid (HB6.out.trans (hb.mono HB6.out.size))
          clear hb HB6
          go_wp2_with fail
          refine (KC.out _).mono ?_
          rintro _ w8 ⟨rfl, hb⟩
          have HB8 := Lib.hid (HB7.out.trans (hb.mono HB7.out.size))
          clear hb HB7
          go_wp2_with fail
          refine (val_n HVf.out HN3.out HD3.out HZ0.out.1 HZ0.out.2 _ _ _ _ _ _ (HF.out.below HB8.out)).mono ?_
          rintro _ w9 ⟨rfl, hb⟩
          have HB9 := Lib.hid (HB8.out.trans (hb.mono HB8.out.size))
          clear hb HB8
          go_wp2_with fail
          refine (val_n HVg.out HN4.out HD4.out HZ0.out.1 HZ0.out.2 _ _ _ _ _ _ (HG.out.below HB9.out)).mono ?_
          rintro _ w10 ⟨rfl, hb⟩
          have HB10 := Lib.hid (HB9.out.trans (hb.mono HB9.out.size))
          clear hb HB9
          go_wp2_with fail
          refine (KC2.out _).mono ?_
          rintro _ w11 ⟨rfl, hb⟩
          have HB11 := Lib.hid (HB10.out.trans (hb.mono HB10.out.size))
          clear hb HB10
          go_wp2
          go_ret
          exact ⟨by first | rfl | (simp; done) | (simp; omega), HB11.out⟩
        · skip
          have hy1 := hyl.1
          have hy2 := hyl.2
          go_enter Try.func6, Try.ntmps6
          go_wp2_with fail
          refine (head_any _).mono ?_
          rintro _ w1 ⟨rfl, hb⟩
          have HB1 := Lib.hid (HB0.out.trans (hb.mono HB0.out.size))
          clear hb HB0
          go_wp2_with fail
          refine (KB.out _ HB1.out).mono ?_
          rintro _ w2 ⟨rfl, hb⟩
          have HB2 := Lib.hid (HB1.out.trans (hb.mono HB1.out.size))
          clear hb HB1
          go_wp2_with fail
          refine (KX1.out _).mono ?_
          rintro _ w3 ⟨rfl, hb⟩
          have HB3 := Lib.hid (HB2.out.trans (hb.mono HB2.out.size))
          clear hb HB2
          go_wp2_with fail
          refine (KX2.out _).mono ?_
          rintro _ w4 ⟨rfl, hb⟩
          have HB4 := Lib.hid (HB3.out.trans (hb.mono HB3.out.size))
          clear hb HB3
          go_wp2_with fail
          refine (KA.out _ HB4.out).mono ?_
          rintro _ w5 ⟨rfl, hb⟩
          have HB5 := Lib.hid (HB4.out.trans (hb.mono HB4.out.size))
          clear hb HB4
          go_wp2_with fail
          refine (val_n HVf.out HN1.out HD1.out HY0.out.1 HY0.out.2 _ _ _ _ _ _ (HF.out.below HB5.out)).mono ?_
          rintro _ w6 ⟨rfl, hb⟩
          have HB6 := Lib.hid (HB5.out.trans (hb.mono HB5.out.size))
          clear hb HB5
          go_wp2_with fail
          refine (val_n HVg.out HN2.out HD2.out HY0.out.1 HY0.out.2 _ _ _ _ _ _ (HG.out.below HB6.out)).mono ?_
          rintro _ w7 ⟨rfl, hb⟩
          have HB7 := Lib.hid (HB6.out.trans (hb.mono HB6.out.size))
          clear hb HB6
          go_wp2_with fail
          refine (KC.out _).mono ?_
          rintro _ w8 ⟨rfl, hb⟩
          have HB8 := Lib.hid (HB7.out.trans (hb.mono HB7.out.size))
          clear hb HB7
          go_wp2_with fail
          refine (val_n HVf.out HN3.out HD3.out HZ0.out.1 HZ0.out.2 _ _ _ _ _ _ (HF.out.below HB8.out)).mono ?_
          rintro _ w9 ⟨rfl, hb⟩
          have HB9 := Lib.hid (HB8.out.trans (hb.mono HB8.out.size))
          clear hb HB8
          go_wp2_with fail
          refine (val_n HVg.out HN4.out HD4.out HZ0.out.1 HZ0.out.2 _ _ _ _ _ _ (HG.out.below HB9.out)).mono ?_
          rintro _ w10 ⟨rfl, hb⟩
          have HB10 := Lib.hid (HB9.out.trans (hb.mono HB9.out.size))
          clear hb HB9
          go_wp2_with fail
          refine (KC2.out _).mono ?_
          rintro _ w11 ⟨rfl, hb⟩
          have HB11 := Lib.hid (HB10.out.trans (hb.mono HB10.out.size))
          clear hb HB10
          go_wp2
          go_ret
          exact ⟨by first | rfl | (simp; done) | (simp; omega), HB11.out⟩
end Go.Proofs.Ytmjdolgcgbiajaa
