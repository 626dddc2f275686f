/-
  The law on paths: each leaf is accepted with its path, which has at most 10 elements.
-/
import Derived.Test.YtlbaggljmbkfdaaDoorDHead
namespace Go.Proofs.YtlbaggljmbkfdaaDoor
open Go.RowKit Dg

/-- The place that is meant. -/
theorem place (which : Int) (len : Nat) (h : 0 < len) : ∃ k : Nat, k < len ∧ (which.tmod (len : Int) + len) % (len : Int) = k ∧ -(len : Int) < which.tmod (len : Int) ∧ which.tmod (len : Int) < len := by
  have h1 : which.tmod (len : Int) < len := Int.tmod_lt_of_pos which (by omega)
  have h2 : -(len : Int) < which.tmod (len : Int) := by
    have := Int.lt_tmod_of_pos which (show (0 : Int) < len by omega)
    exact this
  have h3 := Int.emod_nonneg (which.tmod (len : Int) + len) (show (len : Int) ≠ 0 by omega)
  have h4 := Int.emod_lt_of_pos (which.tmod (len : Int) + len) (show (0 : Int) < len by omega)
  exact ⟨((which.tmod (len : Int) + len) % (len : Int)).toNat, by omega, by omega, h2, h1⟩

set_option maxRecDepth 100000 in
set_option maxHeartbeats 2000000 in
theorem path_law (l : List Nat) (p : Option Addr) (b off cap len : Nat) (at' : Int) (w : World) (hS : SlF u64v w p b off len l) (hT : Tab w) :
    Calls Tryd.prog 7 #[.slice p len cap, .int .i64 at'] w fun e w' => e = .returned (.bool true) ∧ RowKit.Below w.heap.size w w' := by
  have HSL := Lib.hid hS
  have HT0 := Lib.hid hT
  have hmx := hS.max
  have HL := Lib.hid hS.ln
  clear hS
  by_cases h0 : len = 0
  · have hz : decide ((len : Int) = 0) = true := decide_eq_true (by omega)
    have HB0 : Hid (RowKit.Below w.heap.size w w) := Below.refl _ _
    go_enter Tryd.func7, Tryd.ntmps7
    go_wp2_with fail
    refine (head_any _ HT0.out).mono ?_
    rintro _ w1 ⟨rfl, hb⟩
    have HB1 := Lib.hid (HB0.out.trans (hb.mono HB0.out.size))
    have HT1 := Lib.hid (HT0.out.below hb)
    clear hb
    go_wp2
    go_ret
    exact ⟨rfl, HB1.out⟩
  by_cases h1 : 1024 < len
  · have hz : (1024 : Int) < (len : Int) := by omega
    have hz0 : decide ((len : Int) = 0) = false := decide_eq_false (by omega)
    have HB0 : Hid (RowKit.Below w.heap.size w w) := Below.refl _ _
    go_enter Tryd.func7, Tryd.ntmps7
    go_wp2_with fail
    refine (head_any _ HT0.out).mono ?_
    rintro _ w1 ⟨rfl, hb⟩
    have HB1 := Lib.hid (HB0.out.trans (hb.mono HB0.out.size))
    have HT1 := Lib.hid (HT0.out.below hb)
    clear hb
    go_wp2
    go_ret
    exact ⟨rfl, HB1.out⟩
  obtain ⟨i, hi, hm, hm1, hm2⟩ := place at' len (by omega)
  obtain ⟨R, hR⟩ : ∃ R, R = rt l := ⟨_, rfl⟩
  obtain ⟨P, hP⟩ : ∃ P, P = pt l i := ⟨_, rfl⟩
  obtain ⟨n, hn⟩ : ∃ n, n = P.length := ⟨_, rfl⟩
  have hln : l.length = len := HL.out
  have hil : i < l.length := by omega
  have HR : Hid (rtR l = R) := by show _ = _; unfold rtR; rw [if_pos (cE_zero (by omega) (by omega)), hR]
  have HE : Hid (cE l.length = 0) := cE_zero (by omega) (by omega)
  have HPE : Hid (peE i l.length = 0) := peE_zero (by omega) (by omega) (by omega) (by omega)
  have HP : Hid (ptR l i = P) := by show _ = _; unfold ptR; rw [if_pos HPE.out, hP, Int.toNat_natCast]
  have HPn : Hid (P.length = n) := hn.symm
  have hn10 : n ≤ 10 := by rw [hn, hP]; exact pt_le l i (by omega)
  obtain ⟨x, hx⟩ : ∃ x, x = l[i] := ⟨_, rfl⟩
  have HCK : Hid (ck R x i len P = true) := by
    show _ = _
    have := ck_yes hil (by omega)
    rw [hR, hP, hx, ← hln]
    exact this
  have HX : Hid (∀ W, SlF u64v W p b off len l → W.cell? ⟨b, off + i, none⟩ = some (.int .u64 x)) := fun W h => by rw [hx]; exact h.cells i hil
  have hp1 := HSL.out.ptr (by omega)
  have hz1 : ¬ (1024 : Int) < (len : Int) := by omega
  have hz0 : decide ((len : Int) = 0) = false := decide_eq_false (by omega)
  have hz2 : ¬ (len : Int) = 0 := by omega
  have hb0 : ((len : Int) == 0) = false := by rw [beq_eq_false_iff_ne]; omega
  have hd1 : decide ((1024 : Int) < (len : Int)) = false := decide_eq_false (by omega)
  have hn10z : (n : Int) ≤ 10 := by omega
  clear hR hP hn hx hln hil
  subst hp1
  have HB0 : Hid (RowKit.Below w.heap.size w w) := Below.refl _ _
  go_enter Tryd.func7, Tryd.ntmps7
  go_wp2_with fail
  refine (head_any _ HT0.out).mono ?_
  rintro _ w1 ⟨rfl, hb⟩
  have HB1 := Lib.hid (HB0.out.trans (hb.mono HB0.out.size))
  have HT1 := Lib.hid (HT0.out.below hb)
  have HL1 := Lib.hid (HSL.out.bel hb)
  clear hb
  go_wp2_with fail
  refine (rootK HR.out HE.out HL1.out).mono ?_
  rintro _ w2 ⟨rfl, hb⟩
  have HB2 := Lib.hid (HB1.out.trans (hb.mono HB1.out.size))
  have HT2 := Lib.hid (HT1.out.below hb)
  have HL2 := Lib.hid (HL1.out.bel hb)
  clear hb
  go_wp2_with fail
  refine (pathK HP.out HPE.out HPn.out HL2.out).mono ?_
  rintro _ w3 ⟨q3, b3, cap3, rfl, hs, hc3, hb⟩
  have HB3 := Lib.hid (HB2.out.trans (hb.mono HB2.out.size))
  have HT3 := Lib.hid (HT2.out.below hb)
  have HL3 := Lib.hid (HL2.out.bel hb)
  clear hb
  have HP3 := Lib.hid hs
  clear hs
  have c1 := HX.out _ HL3.out
  have HCAP := Lib.hid hc3
  clear hc3
  go_wp2_with fail
  refine (checkK HCK.out HP3.out HCAP.out).mono ?_
  rintro _ w4 ⟨rfl, hb⟩
  have HB4 := Lib.hid (HB3.out.trans (hb.mono HB3.out.size))
  have HT4 := Lib.hid (HT3.out.below hb)
  have HL4 := Lib.hid (HL3.out.bel hb)
  have HP4 := Lib.hid (HP3.out.bel hb)
  clear hb
  go_wp2
  go_ret
  exact ⟨rfl, HB4.out⟩
end Go.Proofs.YtlbaggljmbkfdaaDoor
