/-
  The law on binding: a leaf and a path that are accepted are those of the tree, or two different strings of bytes on the two ways have the same digest.
-/
import Derived.Test.YtlbaggljmbkfdaaDoorDShapeW
import Derived.Test.YtlbaggljmbkfdaaDoorDClash
namespace Go.Proofs.YtlbaggljmbkfdaaDoor
open Go.RowKit Dg

theorem clashK {a b i n : Nat} {P Q : List Nat} {R : Bool} (hR : clV a b i n P Q = R) {p1 p2 : Option Addr} {b1 o1 c1 n1 b2 o2 c2 n2 : Nat} {w : World} (hP : SlF u64v w p1 b1 o1 n1 P) (hQ : SlF u64v w p2 b2 o2 n2 Q) (hi : i ≤ 1024) (hn : n ≤ 1024) :
    Calls Tryd.prog 24 #[.int .u64 a, .int .u64 b, .int .i64 i, .int .i64 n, .slice p1 n1 c1, .slice p2 n2 c2] w fun e w' => e = .returned (.bool R) ∧ RowKit.Below w.heap.size w w' := by
  subst hR
  exact clash_any a b i n P Q p1 b1 o1 c1 n1 p2 b2 o2 c2 n2 w hP hQ hi hn

set_option maxRecDepth 100000 in
set_option maxHeartbeats 2000000 in
theorem binding_law (l : List Nat) (p : Option Addr) (b off cap len : Nat) (at' : Int) (y : Nat) (Q : List Nat) (p3 : Option Addr) (b3 off3 cap3 len3 : Nat) (w : World) (hS : SlF u64v w p b off len l) (hQ : SlF u64v w p3 b3 off3 len3 Q) (hul : U64s l) (hy : y < 18446744073709551616) (huq : U64s Q) (hc3 : len3 ≤ cap3) (hT : Tab w) :
    Calls Tryd.prog 8 #[.slice p len cap, .int .i64 at', .int .u64 y, .slice p3 len3 cap3] w fun e w' => e = .returned (.bool true) ∧ RowKit.Below w.heap.size w w' := by
  have HSQ := Lib.hid hQ
  have hmq := hQ.max
  have HQL := Lib.hid hQ.ln
  have HC3 := Lib.hid hc3
  clear hQ hc3
  have HSL := Lib.hid hS
  have HT0 := Lib.hid hT
  have hmx := hS.max
  have HL := Lib.hid hS.ln
  clear hS
  by_cases h0 : len = 0
  · have hz : decide ((len : Int) = 0) = true := decide_eq_true (by omega)
    have HB0 : Hid (RowKit.Below w.heap.size w w) := Below.refl _ _
    go_enter Tryd.func8, Tryd.ntmps8
    go_wp2_with fail
    refine (head_any _ HT0.out).mono ?_
    rintro _ w1 ⟨rfl, hb⟩
    have HB1 := Lib.hid (HB0.out.trans (hb.mono HB0.out.size))
    have HT1 := Lib.hid (HT0.out.below hb)
    clear hb
    go_wp2
    go_ret
    exact ⟨rfl, HB1.out⟩
  by_cases h1 : 1024 < len
  · have hz : (1024 : Int) < (len : Int) := by omega
    have hz0 : decide ((len : Int) = 0) = false := decide_eq_false (by omega)
    have HB0 : Hid (RowKit.Below w.heap.size w w) := Below.refl _ _
    go_enter Tryd.func8, Tryd.ntmps8
    go_wp2_with fail
    refine (head_any _ HT0.out).mono ?_
    rintro _ w1 ⟨rfl, hb⟩
    have HB1 := Lib.hid (HB0.out.trans (hb.mono HB0.out.size))
    have HT1 := Lib.hid (HT0.out.below hb)
    clear hb
    go_wp2
    go_ret
    exact ⟨rfl, HB1.out⟩
  obtain ⟨i, hi, hm, hm1, hm2⟩ := place at' len (by omega)
  obtain ⟨R, hR⟩ : ∃ R, R = rt l := ⟨_, rfl⟩
  obtain ⟨P, hP⟩ : ∃ P, P = pt l i := ⟨_, rfl⟩
  obtain ⟨n, hn⟩ : ∃ n, n = P.length := ⟨_, rfl⟩
  have hln : l.length = len := HL.out
  have hil : i < l.length := by omega
  have HR : Hid (rtR l = R) := by show _ = _; unfold rtR; rw [if_pos (cE_zero (by omega) (by omega)), hR]
  have HE : Hid (cE l.length = 0) := cE_zero (by omega) (by omega)
  have HPE : Hid (peE i l.length = 0) := peE_zero (by omega) (by omega) (by omega) (by omega)
  have HP : Hid (ptR l i = P) := by show _ = _; unfold ptR; rw [if_pos HPE.out, hP, Int.toNat_natCast]
  have HPn : Hid (P.length = n) := hn.symm
  have hn10 : n ≤ 10 := by rw [hn, hP]; exact pt_le l i (by omega)
  have hcnt : P.length = cnt i len := by rw [hP, pt_len, hln]
  obtain ⟨x, hx⟩ : ∃ x, x = l[i] := ⟨_, rfl⟩
  have HX : Hid (∀ W, SlF u64v W p b off len l → W.cell? ⟨b, off + i, none⟩ = some (.int .u64 x)) := fun W h => by rw [hx]; exact h.cells i hil
  obtain ⟨C, hC⟩ : ∃ C, C = ck R y i len Q := ⟨_, rfl⟩
  have HC := Lib.hid hC.symm
  have HBD : Hid (C = true → len3 = n ∧ ((y = x ∧ Q = P) ∨ clV y x i len Q P = true)) := fun h => by
    have := ck_binds (l := l) (i := i) (a := y) (p := Q) hul hy huq hil (by rw [← hR, hln, ← hC]; exact h)
    rw [hx, hn, hP, ← HQL.out, ← hln]
    exact this
  have hi1024 : i ≤ 1024 := by omega
  have hl1024 : len ≤ 1024 := by omega
  have hp1 := HSL.out.ptr (by omega)
  have hz1 : ¬ (1024 : Int) < (len : Int) := by omega
  have hz0 : decide ((len : Int) = 0) = false := decide_eq_false (by omega)
  have hz2 : ¬ (len : Int) = 0 := by omega
  have hb0 : ((len : Int) == 0) = false := by rw [beq_eq_false_iff_ne]; omega
  have hd1 : decide ((1024 : Int) < (len : Int)) = false := decide_eq_false (by omega)
  clear hR hP hn hx hln hil hcnt hC hul hy huq
  subst hp1
  cases C with
  | false =>
    have HB0 : Hid (RowKit.Below w.heap.size w w) := Below.refl _ _
    go_enter Tryd.func8, Tryd.ntmps8
    go_wp2_with fail
    refine (head_any _ HT0.out).mono ?_
    rintro _ w1 ⟨rfl, hb⟩
    have HB1 := Lib.hid (HB0.out.trans (hb.mono HB0.out.size))
    have HT1 := Lib.hid (HT0.out.below hb)
    have HL1 := Lib.hid (HSL.out.bel hb)
    have HQ1 := Lib.hid (HSQ.out.bel hb)
    clear hb
    go_wp2_with fail
    refine (rootK HR.out HE.out HL1.out).mono ?_
    rintro _ w2 ⟨rfl, hb⟩
    have HB2 := Lib.hid (HB1.out.trans (hb.mono HB1.out.size))
    have HT2 := Lib.hid (HT1.out.below hb)
    have HL2 := Lib.hid (HL1.out.bel hb)
    have HQ2 := Lib.hid (HQ1.out.bel hb)
    clear hb
    go_wp2_with fail
    refine (pathK HP.out HPE.out HPn.out HL2.out).mono ?_
    rintro _ w3 ⟨q3, b3, cap3, rfl, hs, hc3, hb⟩
    have HB3 := Lib.hid (HB2.out.trans (hb.mono HB2.out.size))
    have HT3 := Lib.hid (HT2.out.below hb)
    have HL3 := Lib.hid (HL2.out.bel hb)
    have HQ3 := Lib.hid (HQ2.out.bel hb)
    clear hb
    have HP3 := Lib.hid hs
    clear hs
    clear hc3
    go_wp2_with fail
    refine (checkK HC.out HQ3.out HC3.out).mono ?_
    rintro _ w4 ⟨rfl, hb⟩
    have HB4 := Lib.hid (HB3.out.trans (hb.mono HB3.out.size))
    have HT4 := Lib.hid (HT3.out.below hb)
    have HL4 := Lib.hid (HL3.out.bel hb)
    have HQ4 := Lib.hid (HQ3.out.bel hb)
    have HP4 := Lib.hid (HP3.out.bel hb)
    clear hb
    have c1 := HX.out _ HL4.out
    go_wp2
    go_ret
    exact ⟨rfl, HB4.out⟩
  | true =>
    obtain ⟨hlen, hor⟩ := HBD.out rfl
    subst hlen
    have hbb : ((len3 : Int) == (len3 : Int)) = true := by simp
    by_cases hyx : y = x
    · subst hyx
      by_cases hQP : Q = P
      · have HSM : Hid (decide (Q = P) = true) := decide_eq_true hQP
        clear hor
        have HB0 : Hid (RowKit.Below w.heap.size w w) := Below.refl _ _
        go_enter Tryd.func8, Tryd.ntmps8
        go_wp2_with fail
        refine (head_any _ HT0.out).mono ?_
        rintro _ w1 ⟨rfl, hb⟩
        have HB1 := Lib.hid (HB0.out.trans (hb.mono HB0.out.size))
        have HT1 := Lib.hid (HT0.out.below hb)
        have HL1 := Lib.hid (HSL.out.bel hb)
        have HQ1 := Lib.hid (HSQ.out.bel hb)
        clear hb
        go_wp2_with fail
        refine (rootK HR.out HE.out HL1.out).mono ?_
        rintro _ w2 ⟨rfl, hb⟩
        have HB2 := Lib.hid (HB1.out.trans (hb.mono HB1.out.size))
        have HT2 := Lib.hid (HT1.out.below hb)
        have HL2 := Lib.hid (HL1.out.bel hb)
        have HQ2 := Lib.hid (HQ1.out.bel hb)
        clear hb
        go_wp2_with fail
        refine (pathK HP.out HPE.out HPn.out HL2.out).mono ?_
        rintro _ w3 ⟨q3, b3, cap3, rfl, hs, hc3, hb⟩
        have HB3 := Lib.hid (HB2.out.trans (hb.mono HB2.out.size))
        have HT3 := Lib.hid (HT2.out.below hb)
        have HL3 := Lib.hid (HL2.out.bel hb)
        have HQ3 := Lib.hid (HQ2.out.bel hb)
        clear hb
        have HP3 := Lib.hid hs
        clear hs
        clear hc3
        go_wp2_with fail
        refine (checkK HC.out HQ3.out HC3.out).mono ?_
        rintro _ w4 ⟨rfl, hb⟩
        have HB4 := Lib.hid (HB3.out.trans (hb.mono HB3.out.size))
        have HT4 := Lib.hid (HT3.out.below hb)
        have HL4 := Lib.hid (HL3.out.bel hb)
        have HQ4 := Lib.hid (HQ3.out.bel hb)
        have HP4 := Lib.hid (HP3.out.bel hb)
        clear hb
        have c1 := HX.out _ HL4.out
        go_wp2_with fail
        refine (sameK HSM.out HQ4.out HP4.out).mono ?_
        rintro _ w5 ⟨rfl, hb⟩
        have HB5 := Lib.hid (HB4.out.trans (hb.mono HB4.out.size))
        have HT5 := Lib.hid (HT4.out.below hb)
        have HL5 := Lib.hid (HL4.out.bel hb)
        have HQ5 := Lib.hid (HQ4.out.bel hb)
        have HP5 := Lib.hid (HP4.out.bel hb)
        clear hb
        go_wp2
        go_ret
        exact ⟨rfl, HB5.out⟩
      · have HSM : Hid (decide (Q = P) = false) := decide_eq_false hQP
        have HCL : Hid (clV y y i len Q P = true) := hor.resolve_left fun h => hQP h.2
        clear hor
        have HB0 : Hid (RowKit.Below w.heap.size w w) := Below.refl _ _
        go_enter Tryd.func8, Tryd.ntmps8
        go_wp2_with fail
        refine (head_any _ HT0.out).mono ?_
        rintro _ w1 ⟨rfl, hb⟩
        have HB1 := Lib.hid (HB0.out.trans (hb.mono HB0.out.size))
        have HT1 := Lib.hid (HT0.out.below hb)
        have HL1 := Lib.hid (HSL.out.bel hb)
        have HQ1 := Lib.hid (HSQ.out.bel hb)
        clear hb
        go_wp2_with fail
        refine (rootK HR.out HE.out HL1.out).mono ?_
        rintro _ w2 ⟨rfl, hb⟩
        have HB2 := Lib.hid (HB1.out.trans (hb.mono HB1.out.size))
        have HT2 := Lib.hid (HT1.out.below hb)
        have HL2 := Lib.hid (HL1.out.bel hb)
        have HQ2 := Lib.hid (HQ1.out.bel hb)
        clear hb
        go_wp2_with fail
        refine (pathK HP.out HPE.out HPn.out HL2.out).mono ?_
        rintro _ w3 ⟨q3, b3, cap3, rfl, hs, hc3, hb⟩
        have HB3 := Lib.hid (HB2.out.trans (hb.mono HB2.out.size))
        have HT3 := Lib.hid (HT2.out.below hb)
        have HL3 := Lib.hid (HL2.out.bel hb)
        have HQ3 := Lib.hid (HQ2.out.bel hb)
        clear hb
        have HP3 := Lib.hid hs
        clear hs
        clear hc3
        go_wp2_with fail
        refine (checkK HC.out HQ3.out HC3.out).mono ?_
        rintro _ w4 ⟨rfl, hb⟩
        have HB4 := Lib.hid (HB3.out.trans (hb.mono HB3.out.size))
        have HT4 := Lib.hid (HT3.out.below hb)
        have HL4 := Lib.hid (HL3.out.bel hb)
        have HQ4 := Lib.hid (HQ3.out.bel hb)
        have HP4 := Lib.hid (HP3.out.bel hb)
        clear hb
        have c1 := HX.out _ HL4.out
        go_wp2_with fail
        refine (sameK HSM.out HQ4.out HP4.out).mono ?_
        rintro _ w5 ⟨rfl, hb⟩
        have HB5 := Lib.hid (HB4.out.trans (hb.mono HB4.out.size))
        have HT5 := Lib.hid (HT4.out.below hb)
        have HL5 := Lib.hid (HL4.out.bel hb)
        have HQ5 := Lib.hid (HQ4.out.bel hb)
        have HP5 := Lib.hid (HP4.out.bel hb)
        clear hb
        have c1 := HX.out _ HL5.out
        go_wp2_with fail
        refine (clashK HCL.out HQ5.out HP5.out hi1024 hl1024).mono ?_
        rintro _ w6 ⟨rfl, hb⟩
        have HB6 := Lib.hid (HB5.out.trans (hb.mono HB5.out.size))
        have HT6 := Lib.hid (HT5.out.below hb)
        have HL6 := Lib.hid (HL5.out.bel hb)
        have HQ6 := Lib.hid (HQ5.out.bel hb)
        have HP6 := Lib.hid (HP5.out.bel hb)
        clear hb
        go_wp2
        go_ret
        exact ⟨rfl, HB6.out⟩
    · have HCL : Hid (clV y x i len Q P = true) := hor.resolve_left fun h => hyx h.1
      have hyb : ((y : Int) == (x : Int)) = false := by rw [beq_eq_false_iff_ne]; omega
      clear hor
      have HB0 : Hid (RowKit.Below w.heap.size w w) := Below.refl _ _
      go_enter Tryd.func8, Tryd.ntmps8
      go_wp2_with fail
      refine (head_any _ HT0.out).mono ?_
      rintro _ w1 ⟨rfl, hb⟩
      have HB1 := Lib.hid (HB0.out.trans (hb.mono HB0.out.size))
      have HT1 := Lib.hid (HT0.out.below hb)
      have HL1 := Lib.hid (HSL.out.bel hb)
      have HQ1 := Lib.hid (HSQ.out.bel hb)
      clear hb
      go_wp2_with fail
      refine (rootK HR.out HE.out HL1.out).mono ?_
      rintro _ w2 ⟨rfl, hb⟩
      have HB2 := Lib.hid (HB1.out.trans (hb.mono HB1.out.size))
      have HT2 := Lib.hid (HT1.out.below hb)
      have HL2 := Lib.hid (HL1.out.bel hb)
      have HQ2 := Lib.hid (HQ1.out.bel hb)
      clear hb
      go_wp2_with fail
      refine (pathK HP.out HPE.out HPn.out HL2.out).mono ?_
      rintro _ w3 ⟨q3, b3, cap3, rfl, hs, hc3, hb⟩
      have HB3 := Lib.hid (HB2.out.trans (hb.mono HB2.out.size))
      have HT3 := Lib.hid (HT2.out.below hb)
      have HL3 := Lib.hid (HL2.out.bel hb)
      have HQ3 := Lib.hid (HQ2.out.bel hb)
      clear hb
      have HP3 := Lib.hid hs
      clear hs
      clear hc3
      go_wp2_with fail
      refine (checkK HC.out HQ3.out HC3.out).mono ?_
      rintro _ w4 ⟨rfl, hb⟩
      have HB4 := Lib.hid (HB3.out.trans (hb.mono HB3.out.size))
      have HT4 := Lib.hid (HT3.out.below hb)
      have HL4 := Lib.hid (HL3.out.bel hb)
      have HQ4 := Lib.hid (HQ3.out.bel hb)
      have HP4 := Lib.hid (HP3.out.bel hb)
      clear hb
      have c1 := HX.out _ HL4.out
      go_wp2_with fail
      refine (clashK HCL.out HQ4.out HP4.out hi1024 hl1024).mono ?_
      rintro _ w5 ⟨rfl, hb⟩
      have HB5 := Lib.hid (HB4.out.trans (hb.mono HB4.out.size))
      have HT5 := Lib.hid (HT4.out.below hb)
      have HL5 := Lib.hid (HL4.out.bel hb)
      have HQ5 := Lib.hid (HQ4.out.bel hb)
      have HP5 := Lib.hid (HP4.out.bel hb)
      clear hb
      go_wp2
      go_ret
      exact ⟨rfl, HB5.out⟩
end Go.Proofs.YtlbaggljmbkfdaaDoor
