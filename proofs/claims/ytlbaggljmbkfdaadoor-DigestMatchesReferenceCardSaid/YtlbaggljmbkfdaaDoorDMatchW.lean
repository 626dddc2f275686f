/-
  The law that compares: all functions return what the reference implementation returns.
-/
import Derived.Test.YtlbaggljmbkfdaaDoorDHead
import Derived.Test.YtlbaggljmbkfdaaDoorDRefD
namespace Go.Proofs.YtlbaggljmbkfdaaDoor
open Go.RowKit Dg

theorem rsumK {l : List Nat} {D : Nat} (hD : dig l = D) (hB : Bytes l) {p : Option Addr} {b off cap len : Nat} {w : World} (hS : SlF u8v w p b off len l) :
    Calls Tryd.prog 12 #[.slice p len cap] w fun e w' => e = .returned (.int .u64 (D : Nat)) ∧ RowKit.Below w.heap.size w w' := by
  subst hD
  refine (rsum_any l p b off cap len w hS hB).mono ?_
  rintro e w' ⟨rfl, rfl⟩
  exact ⟨rfl, Below.refl _ _⟩
theorem rintsK {l : List Int} {D : Nat} (hD : dig (txs l) = D) (hI : I64s l) {p : Option Addr} {b off cap len : Nat} {w : World} (hS : SlF i64v w p b off len l) (hn : len ≤ 1000) :
    Calls Tryd.prog 14 #[.slice p len cap] w fun e w' => e = .returned (.int .u64 (D : Nat)) ∧ RowKit.Below w.heap.size w w' := by
  subst hD
  exact rints_any l p b off cap len w hS hI hn
theorem rrootK {l : List Nat} {D : Nat} {E : Int} (hD : rtR l = D) (hE : cE l.length = E) {p : Option Addr} {b off cap len : Nat} {w : World} (hS : SlF u64v w p b off len l) :
    Calls Tryd.prog 16 #[.slice p len cap] w fun e w' => e = .returned (.tuple #[.int .u64 (D : Nat), .int .i64 E]) ∧ RowKit.Below w.heap.size w w' := by
  subst hD hE
  rw [hS.ln]
  exact rroot_any l p b off cap len w hS
theorem rpathK {l P : List Nat} {n : Nat} {i E : Int} (hP : ptR l i = P) (hE : peE i l.length = E) (hn : P.length = n) {p : Option Addr} {b off cap len : Nat} {w : World} (hS : SlF u64v w p b off len l) :
    Calls Tryd.prog 18 #[.slice p len cap, .int .i64 i] w fun e w' => OutPN n P E w e w' := by
  subst hP hE hn
  refine (rpath_any l p b off cap len i w hS).mono ?_
  rintro e w' ⟨v, rfl, ⟨q, b, cap, rfl, hs, hc⟩, hB⟩
  exact ⟨q, b, cap, rfl, hs, hc, hB⟩
theorem rcheckK {r a : Nat} {i n : Int} {P : List Nat} {R : Bool} (hR : ck r a i n P = R) {p : Option Addr} {b off cap len : Nat} {w : World} (hS : SlF u64v w p b off len P) :
    Calls Tryd.prog 21 #[.int .u64 r, .int .u64 a, .int .i64 i, .int .i64 n, .slice p len cap] w fun e w' => e = .returned (.bool R) ∧ RowKit.Below w.heap.size w w' := by
  subst hR
  exact rcheck_any r a i n P p b off cap len w hS

set_option maxRecDepth 100000 in
set_option maxHeartbeats 2000000 in
theorem match_law (A : List Nat) (I : List Int) (L P : List Nat) (p0 : Option Addr) (k0 off0 cap0 len0 : Nat) (p1 : Option Addr) (k1 off1 cap1 len1 : Nat) (p2 : Option Addr) (k2 off2 cap2 len2 : Nat) (i n : Int) (r a : Nat) (p7 : Option Addr) (k7 off7 cap7 len7 : Nat) (w : World)
    (hA : SlF u8v w p0 k0 off0 len0 A) (hI : SlF i64v w p1 k1 off1 len1 I) (hL : SlF u64v w p2 k2 off2 len2 L) (hP : SlF u64v w p7 k7 off7 len7 P) (bA : Bytes A) (bI : I64s I) (hc7 : len7 ≤ cap7) (hT : Tab w) :
    Calls Tryd.prog 3 #[.slice p0 len0 cap0, .slice p1 len1 cap1, .slice p2 len2 cap2, .int .i64 i, .int .i64 n, .int .u64 r, .int .u64 a, .slice p7 len7 cap7] w fun e w' => e = .returned (.bool true) ∧ RowKit.Below w.heap.size w w' := by
  have HSA := Lib.hid hA
  have HSI := Lib.hid hI
  have HSL := Lib.hid hL
  have HSP := Lib.hid hP
  have HT0 := Lib.hid hT
  have HLL := Lib.hid hL.ln
  have hm0 := hA.max
  have hm1 := hI.max
  have hm2 := hL.max
  have hm7 := hP.max
  clear hA hI hL hP
  by_cases g0 : 300 < len0
  · have hz : (300 : Int) < (len0 : Int) := by omega
    have HB0 : Hid (RowKit.Below w.heap.size w w) := Below.refl _ _
    go_enter Tryd.func3, Tryd.ntmps3
    go_wp2_with fail
    refine (head_any _ HT0.out).mono ?_
    rintro _ w1 ⟨rfl, hb⟩
    have HB1 := Lib.hid (HB0.out.trans (hb.mono HB0.out.size))
    have HT1 := Lib.hid (HT0.out.below hb)
    clear hb
    go_wp2
    go_ret
    exact ⟨rfl, HB1.out⟩
  have d0 : decide ((300 : Int) < (len0 : Int)) = false := decide_eq_false (by omega)
  have e0 : ¬ (300 : Int) < (len0 : Int) := by omega
  by_cases g1 : 300 < len1
  · have hz : (300 : Int) < (len1 : Int) := by omega
    have HB0 : Hid (RowKit.Below w.heap.size w w) := Below.refl _ _
    go_enter Tryd.func3, Tryd.ntmps3
    go_wp2_with fail
    refine (head_any _ HT0.out).mono ?_
    rintro _ w1 ⟨rfl, hb⟩
    have HB1 := Lib.hid (HB0.out.trans (hb.mono HB0.out.size))
    have HT1 := Lib.hid (HT0.out.below hb)
    clear hb
    go_wp2
    go_ret
    exact ⟨rfl, HB1.out⟩
  have d1 : decide ((300 : Int) < (len1 : Int)) = false := decide_eq_false (by omega)
  have e1 : ¬ (300 : Int) < (len1 : Int) := by omega
  by_cases g2 : 1100 < len2
  · have hz : (1100 : Int) < (len2 : Int) := by omega
    have HB0 : Hid (RowKit.Below w.heap.size w w) := Below.refl _ _
    go_enter Tryd.func3, Tryd.ntmps3
    go_wp2_with fail
    refine (head_any _ HT0.out).mono ?_
    rintro _ w1 ⟨rfl, hb⟩
    have HB1 := Lib.hid (HB0.out.trans (hb.mono HB0.out.size))
    have HT1 := Lib.hid (HT0.out.below hb)
    clear hb
    go_wp2
    go_ret
    exact ⟨rfl, HB1.out⟩
  have d2 : decide ((1100 : Int) < (len2 : Int)) = false := decide_eq_false (by omega)
  have e2 : ¬ (1100 : Int) < (len2 : Int) := by omega
  by_cases g3 : 20 < len7
  · have hz : (20 : Int) < (len7 : Int) := by omega
    have HB0 : Hid (RowKit.Below w.heap.size w w) := Below.refl _ _
    go_enter Tryd.func3, Tryd.ntmps3
    go_wp2_with fail
    refine (head_any _ HT0.out).mono ?_
    rintro _ w1 ⟨rfl, hb⟩
    have HB1 := Lib.hid (HB0.out.trans (hb.mono HB0.out.size))
    have HT1 := Lib.hid (HT0.out.below hb)
    clear hb
    go_wp2
    go_ret
    exact ⟨rfl, HB1.out⟩
  have d3 : decide ((20 : Int) < (len7 : Int)) = false := decide_eq_false (by omega)
  have e3 : ¬ (20 : Int) < (len7 : Int) := by omega
  obtain ⟨D1, hD1⟩ : ∃ D, D = dig A := ⟨_, rfl⟩
  obtain ⟨D2, hD2⟩ : ∃ D, D = dig (txs I) := ⟨_, rfl⟩
  obtain ⟨X, hX⟩ : ∃ D, D = rtR L := ⟨_, rfl⟩
  obtain ⟨E, hE⟩ : ∃ D, D = cE (L.length : Int) := ⟨_, rfl⟩
  obtain ⟨PP, hPP⟩ : ∃ D, D = ptR L i := ⟨_, rfl⟩
  obtain ⟨E2, hE2⟩ : ∃ D, D = peE i (L.length : Int) := ⟨_, rfl⟩
  obtain ⟨m, hm⟩ : ∃ D, D = PP.length := ⟨_, rfl⟩
  obtain ⟨R1, hR1⟩ : ∃ D, D = ck r a i n P := ⟨_, rfl⟩
  obtain ⟨R2, hR2⟩ : ∃ D, D = ck X a i len2 PP := ⟨_, rfl⟩
  have H1 := Lib.hid hD1.symm
  have H2 := Lib.hid hD2.symm
  have HX := Lib.hid hX.symm
  have HE := Lib.hid hE.symm
  have HPP := Lib.hid hPP.symm
  have HE2 := Lib.hid hE2.symm
  have HM := Lib.hid hm.symm
  have HR1 := Lib.hid hR1.symm
  have HR2 := Lib.hid hR2.symm
  have HBA := Lib.hid bA
  have HBI := Lib.hid bI
  have HC7 := Lib.hid hc7
  have h1000 : len1 ≤ 1000 := by omega
  clear hD1 hD2 hX hE hPP hE2 hm hR1 hR2 bA bI hc7 HLL
  have HB0 : Hid (RowKit.Below w.heap.size w w) := Below.refl _ _
  go_enter Tryd.func3, Tryd.ntmps3
  go_wp2_with fail
  refine (head_any _ HT0.out).mono ?_
  rintro _ w1 ⟨rfl, hb⟩
  have HB1 := Lib.hid (HB0.out.trans (hb.mono HB0.out.size))
  have HT1 := Lib.hid (HT0.out.below hb)
  have HA1 := Lib.hid (HSA.out.bel hb)
  have HI1 := Lib.hid (HSI.out.bel hb)
  have HL1 := Lib.hid (HSL.out.bel hb)
  have HP1 := Lib.hid (HSP.out.bel hb)
  clear hb
  go_wp2_with fail
  refine (sumK H1.out HBA.out HA1.out).mono ?_
  rintro _ w2 ⟨rfl, hb⟩
  have HB2 := Lib.hid (HB1.out.trans (hb.mono HB1.out.size))
  have HT2 := Lib.hid (HT1.out.below hb)
  have HA2 := Lib.hid (HA1.out.bel hb)
  have HI2 := Lib.hid (HI1.out.bel hb)
  have HL2 := Lib.hid (HL1.out.bel hb)
  have HP2 := Lib.hid (HP1.out.bel hb)
  clear hb
  go_wp2_with fail
  refine (rsumK H1.out HBA.out HA2.out).mono ?_
  rintro _ w3 ⟨rfl, hb⟩
  have HB3 := Lib.hid (HB2.out.trans (hb.mono HB2.out.size))
  have HT3 := Lib.hid (HT2.out.below hb)
  have HA3 := Lib.hid (HA2.out.bel hb)
  have HI3 := Lib.hid (HI2.out.bel hb)
  have HL3 := Lib.hid (HL2.out.bel hb)
  have HP3 := Lib.hid (HP2.out.bel hb)
  clear hb
  go_wp2_with fail
  refine (intsK H2.out HBI.out HI3.out HT3.out).mono ?_
  rintro _ w4 ⟨rfl, hb⟩
  have HB4 := Lib.hid (HB3.out.trans (hb.mono HB3.out.size))
  have HT4 := Lib.hid (HT3.out.below hb)
  have HI4 := Lib.hid (HI3.out.bel hb)
  have HL4 := Lib.hid (HL3.out.bel hb)
  have HP4 := Lib.hid (HP3.out.bel hb)
  clear hb
  go_wp2_with fail
  refine (rintsK H2.out HBI.out HI4.out h1000).mono ?_
  rintro _ w5 ⟨rfl, hb⟩
  have HB5 := Lib.hid (HB4.out.trans (hb.mono HB4.out.size))
  have HT5 := Lib.hid (HT4.out.below hb)
  have HI5 := Lib.hid (HI4.out.bel hb)
  have HL5 := Lib.hid (HL4.out.bel hb)
  have HP5 := Lib.hid (HP4.out.bel hb)
  clear hb
  go_wp2_with fail
  refine (rootK HX.out HE.out HL5.out).mono ?_
  rintro _ w6 ⟨rfl, hb⟩
  have HB6 := Lib.hid (HB5.out.trans (hb.mono HB5.out.size))
  have HT6 := Lib.hid (HT5.out.below hb)
  have HL6 := Lib.hid (HL5.out.bel hb)
  have HP6 := Lib.hid (HP5.out.bel hb)
  clear hb
  go_wp2_with fail
  refine (rrootK HX.out HE.out HL6.out).mono ?_
  rintro _ w7 ⟨rfl, hb⟩
  have HB7 := Lib.hid (HB6.out.trans (hb.mono HB6.out.size))
  have HT7 := Lib.hid (HT6.out.below hb)
  have HL7 := Lib.hid (HL6.out.bel hb)
  have HP7 := Lib.hid (HP6.out.bel hb)
  clear hb
  go_wp2_with fail
  refine (pathK HPP.out HE2.out HM.out HL7.out).mono ?_
  rintro _ w8 ⟨q8, b8, cap8, rfl, hs, hc8, hb⟩
  have HB8 := Lib.hid (HB7.out.trans (hb.mono HB7.out.size))
  have HT8 := Lib.hid (HT7.out.below hb)
  have HL8 := Lib.hid (HL7.out.bel hb)
  have HP8 := Lib.hid (HP7.out.bel hb)
  clear hb
  have HU8 := Lib.hid hs
  clear hs
  go_wp2_with fail
  refine (rpathK HPP.out HE2.out HM.out HL8.out).mono ?_
  rintro _ w9 ⟨q9, b9, cap9, rfl, hs, hc9, hb⟩
  have HB9 := Lib.hid (HB8.out.trans (hb.mono HB8.out.size))
  have HT9 := Lib.hid (HT8.out.below hb)
  have HL9 := Lib.hid (HL8.out.bel hb)
  have HP9 := Lib.hid (HP8.out.bel hb)
  have HU9 := Lib.hid (HU8.out.bel hb)
  clear hb
  have HV9 := Lib.hid hs
  clear hs
  have HCV := Lib.hid hc9
  clear hc8 hc9
  go_wp2_with fail
  refine (sameK (decide_eq_true rfl) HU9.out HV9.out).mono ?_
  rintro _ w10 ⟨rfl, hb⟩
  have HB10 := Lib.hid (HB9.out.trans (hb.mono HB9.out.size))
  have HT10 := Lib.hid (HT9.out.below hb)
  have HP10 := Lib.hid (HP9.out.bel hb)
  have HU10 := Lib.hid (HU9.out.bel hb)
  have HV10 := Lib.hid (HV9.out.bel hb)
  clear hb
  go_wp2_with fail
  refine (checkK HR1.out HP10.out HC7.out).mono ?_
  rintro _ w11 ⟨rfl, hb⟩
  have HB11 := Lib.hid (HB10.out.trans (hb.mono HB10.out.size))
  have HT11 := Lib.hid (HT10.out.below hb)
  have HP11 := Lib.hid (HP10.out.bel hb)
  have HV11 := Lib.hid (HV10.out.bel hb)
  clear hb
  go_wp2_with fail
  refine (rcheckK HR1.out HP11.out).mono ?_
  rintro _ w12 ⟨rfl, hb⟩
  have HB12 := Lib.hid (HB11.out.trans (hb.mono HB11.out.size))
  have HT12 := Lib.hid (HT11.out.below hb)
  have HP12 := Lib.hid (HP11.out.bel hb)
  have HV12 := Lib.hid (HV11.out.bel hb)
  clear hb
  go_wp2_with fail
  refine (checkK HR2.out HV12.out HCV.out).mono ?_
  rintro _ w13 ⟨rfl, hb⟩
  have HB13 := Lib.hid (HB12.out.trans (hb.mono HB12.out.size))
  have HT13 := Lib.hid (HT12.out.below hb)
  have HV13 := Lib.hid (HV12.out.bel hb)
  clear hb
  go_wp2_with fail
  refine (rcheckK HR2.out HV13.out).mono ?_
  rintro _ w14 ⟨rfl, hb⟩
  have HB14 := Lib.hid (HB13.out.trans (hb.mono HB13.out.size))
  have HT14 := Lib.hid (HT13.out.below hb)
  have HV14 := Lib.hid (HV13.out.bel hb)
  clear hb
  go_wp2
  go_ret
  exact ⟨rfl, HB14.out⟩
end Go.Proofs.YtlbaggljmbkfdaaDoor
