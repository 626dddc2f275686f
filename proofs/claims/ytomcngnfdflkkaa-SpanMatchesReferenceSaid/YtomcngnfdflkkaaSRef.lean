/-
  The reference's Normal, Union, Meet and Without: the same values as the program's.
-/
import Derived.Test.YtomcngnfdflkkaaSSet
namespace Go.Proofs.Ytomcngnfdflkkaa
open Go.RowKit Spn Go.Sort

set_option maxHeartbeats 1000000 in
set_option maxRecDepth 100000 in
theorem rNormal_any (l : List (Int × Int)) (p : Option Addr) (b off cap len : Nat) (w : World) (hS : Sl w p b off len l) :
    Calls Try.prog 13 #[.slice p len cap] w fun e w' => Out2 w (noV l) (noE l) e w' := by
  have HS := Lib.hid hS
  have hm := hS.2.2.2.2.1
  have HL := Lib.hid hS.1
  clear hS
  go_enter Try.func13, Try.ntmps13
  go_wp2_with fail
  go_loopg [4] len (fun g s4 wr => ∃ (k : Nat), s4 = .int .i64 k ∧ k ≤ len ∧ len - k ≤ g ∧ Hid (sts (l.take k) = true) ∧ Hid (RowKit.Below w.heap.size w wr))
  case atStart => exact ⟨0, rfl, by omega, by omega, rfl, Below.refl _ _⟩
  case round =>
    obtain ⟨k, rfl, hk, hkg, HT, HB⟩ := hrel
    by_cases hlt : k < len
    · have hltz : (k : Int) < (len : Int) := by omega
      have hp1 := HS.out.2.1 (by omega)
      have hkl : k < l.length := by rw [HL.out]; exact hlt
      have HS2 := Lib.hid (HS.out.below HB.out)
      obtain ⟨x, hx⟩ : ∃ x, x = l[k].1 := ⟨_, rfl⟩
      obtain ⟨y, hy⟩ : ∃ x, x = l[k].2 := ⟨_, rfl⟩
      have c1 := (HS2.out.2.2.1 k hkl).1
      have c2 := (HS2.out.2.2.1 k hkl).2
      rw [← hx] at c1
      rw [← hy] at c2
      have hk2 : l[k] = (x, y) := Prod.ext hx.symm hy.symm
      clear hx hy
      subst hp1
      cases hst : st (x, y) with
      | false =>
        have KST := Lib.hid (rStretch_b x y false hst)
        have hsb : sts l = false := sts_bad hkl (by rw [hk2]; exact hst)
        have EV : Hid (noV l = []) := by show _ = _; unfold noV; rw [hsb]; rfl
        have EE : Hid (noE l = 1) := by show _ = _; unfold noE; rw [hsb]; rfl
        clear hst hk2 hsb
        go_wp2_with fail
        refine (KST.out _).mono ?_
        rintro _ w1 ⟨rfl, hb⟩
        have HR : Hid (Out2 w (noV l) (noE l) (.returned (.tuple #[.slice none 0 0, .int .i64 1])) w1) := by
          show Out2 _ _ _ _ _
          rw [EV.out, EE.out]
          exact Out2.bad (HB.out.trans (hb.mono HB.out.size))
        clear hb
        go_wp2
        go_ret2
        exact HR.out
      | true =>
        have KST := Lib.hid (rStretch_b x y true hst)
        have HTn : Hid (sts (l.take (k + 1)) = true) := sts_take hkl HT.out (by rw [hk2]; exact hst)
        clear hst hk2
        go_wp2_with fail
        refine (KST.out _).mono ?_
        rintro _ w1 ⟨rfl, hb⟩
        have HB2 := Lib.hid (HB.out.trans (hb.mono HB.out.size))
        clear hb
        go_wp2
        go_roundg (len - (k + 1))
        case measure => omega
        case rel => exact ⟨k + 1, by go_num, by omega, by omega, HTn, HB2.out⟩
    · have hltz : ¬ (k : Int) < (len : Int) := by omega
      have hsl : sts l = true := by have := HT.out; rw [List.take_of_length_le (by have := HL.out; omega)] at this; exact this
      have KM := Lib.hid (marks_any l p b off cap len wr (HS.out.below HB.out) (sts_iff.1 hsl))
      have EV : Hid (swV (runs (cov l)) = noV l) := by show _ = _; unfold noV; rw [hsl]; rfl
      have EE : Hid (swE (runs (cov l)) = noE l) := by show _ = _; unfold noE; rw [hsl]; rfl
      clear hsl
      go_wp2_with fail
      refine KM.out.mono ?_
      rintro e w1 ⟨g, n, rfl, hn, hM, hg0, hg, hb⟩
      have HB1 := Lib.hid (HB.out.trans (hb.mono HB.out.size))
      have KS := Lib.hid (set_any (cov l) g n hn w1 hM hg)
      clear hM hg hb hg0 hn
      go_wp2_with fail
      refine KS.out.mono ?_
      rintro e w2 hO
      have hO2 := hO.mono HB1.out
      rw [EV.out, EE.out] at hO2
      obtain ⟨pp, gb, ln, cp, rfl, hs, hb⟩ := hO2
      have HR : Hid (Out2 w (noV l) (noE l) (.returned (.tuple #[.slice pp ln cp, .int .i64 (noE l)])) w2) := ⟨pp, gb, ln, cp, rfl, hs, hb⟩
      clear hO hs hb
      go_wp2
      go_ret2
      exact HR.out
end Go.Proofs.Ytomcngnfdflkkaa
