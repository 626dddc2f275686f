/-
  The law on shapes: a path with an element more or less is not accepted, nor an index that the tree does not have, nor a number of leaves that no tree has.
-/
import Derived.Test.YtlbaggljmbkfdaaDoorDTreeW
import Derived.Test.YtlbaggljmbkfdaaDoorDApp
namespace Go.Proofs.YtlbaggljmbkfdaaDoor
open Go.RowKit Dg

set_option maxRecDepth 100000 in
set_option maxHeartbeats 4000000 in
theorem shape_law (l : List Nat) (p : Option Addr) (b off cap len : Nat) (at' : Int) (y : Nat) (w : World) (hS : SlF u64v w p b off len l) (hT : Tab w) :
    Calls Tryd.prog 9 #[.slice p len cap, .int .i64 at', .int .u64 y] w fun e w' => e = .returned (.bool true) ∧ RowKit.Below w.heap.size w w' := by
  have HSL := Lib.hid hS
  have HT0 := Lib.hid hT
  have hmx := hS.max
  have HL := Lib.hid hS.ln
  clear hS
  by_cases h0 : len = 0
  · have hz : decide ((len : Int) = 0) = true := decide_eq_true (by omega)
    have HB0 : Hid (RowKit.Below w.heap.size w w) := Below.refl _ _
    go_enter Tryd.func9, Tryd.ntmps9
    go_wp2_with fail
    refine (head_any _ HT0.out).mono ?_
    rintro _ w1 ⟨rfl, hb⟩
    have HB1 := Lib.hid (HB0.out.trans (hb.mono HB0.out.size))
    have HT1 := Lib.hid (HT0.out.below hb)
    clear hb
    go_wp2
    go_ret
    exact ⟨rfl, HB1.out⟩
  by_cases h1 : 1024 < len
  · have hz : (1024 : Int) < (len : Int) := by omega
    have hz0 : decide ((len : Int) = 0) = false := decide_eq_false (by omega)
    have HB0 : Hid (RowKit.Below w.heap.size w w) := Below.refl _ _
    go_enter Tryd.func9, Tryd.ntmps9
    go_wp2_with fail
    refine (head_any _ HT0.out).mono ?_
    rintro _ w1 ⟨rfl, hb⟩
    have HB1 := Lib.hid (HB0.out.trans (hb.mono HB0.out.size))
    have HT1 := Lib.hid (HT0.out.below hb)
    clear hb
    go_wp2
    go_ret
    exact ⟨rfl, HB1.out⟩
  obtain ⟨i, hi, hm, hm1, hm2⟩ := place at' len (by omega)
  obtain ⟨R, hR⟩ : ∃ R, R = rt l := ⟨_, rfl⟩
  obtain ⟨P, hP⟩ : ∃ P, P = pt l i := ⟨_, rfl⟩
  obtain ⟨n, hn⟩ : ∃ n, n = P.length := ⟨_, rfl⟩
  have hln : l.length = len := HL.out
  have hil : i < l.length := by omega
  have HR : Hid (rtR l = R) := by show _ = _; unfold rtR; rw [if_pos (cE_zero (by omega) (by omega)), hR]
  have HE : Hid (cE l.length = 0) := cE_zero (by omega) (by omega)
  have HPE : Hid (peE i l.length = 0) := peE_zero (by omega) (by omega) (by omega) (by omega)
  have HP : Hid (ptR l i = P) := by show _ = _; unfold ptR; rw [if_pos HPE.out, hP, Int.toNat_natCast]
  have HPn : Hid (P.length = n) := hn.symm
  have hn10 : n ≤ 10 := by rw [hn, hP]; exact pt_le l i (by omega)
  have hcnt : P.length = cnt i len := by rw [hP, pt_len, hln]
  obtain ⟨x, hx⟩ : ∃ x, x = l[i] := ⟨_, rfl⟩
  have HX : Hid (∀ W, SlF u64v W p b off len l → W.cell? ⟨b, off + i, none⟩ = some (.int .u64 x)) := fun W h => by rw [hx]; exact h.cells i hil
  have HC1 : Hid (ck R x i len (P ++ [y]) = false) := ck_len (by rw [List.length_append, hcnt, List.length_singleton]; omega)
  have HC2 : Hid (ck R x len len P = false) := ck_out (by omega)
  have HC3 : Hid (ck R x (-1 - i) len P = false) := ck_out (by omega)
  have HC4 : Hid (ck R x i 0 P = false) := ck_out (by omega)
  have HC5 : Hid (ck R x i (1024 + len) P = false) := ck_out (by omega)
  have HC6 : Hid (0 < n → ck R x i len (P.take (n - 1)) = false) := fun h => ck_len (by rw [List.length_take]; omega)
  have HC7 : Hid (0 < n → ck R x i len [] = false) := fun h => ck_len (by rw [List.length_nil]; omega)
  have hp1 := HSL.out.ptr (by omega)
  have hz1 : ¬ (1024 : Int) < (len : Int) := by omega
  have hz0 : decide ((len : Int) = 0) = false := decide_eq_false (by omega)
  have hz2 : ¬ (len : Int) = 0 := by omega
  have hb0 : ((len : Int) == 0) = false := by rw [beq_eq_false_iff_ne]; omega
  have hd1 : decide ((1024 : Int) < (len : Int)) = false := decide_eq_false (by omega)
  clear hR hP hn hx hln hil hcnt
  subst hp1
  have HB0 : Hid (RowKit.Below w.heap.size w w) := Below.refl _ _
  go_enter Tryd.func9, Tryd.ntmps9
  go_wp2_with fail
  refine (head_any _ HT0.out).mono ?_
  rintro _ w1 ⟨rfl, hb⟩
  have HB1 := Lib.hid (HB0.out.trans (hb.mono HB0.out.size))
  have HT1 := Lib.hid (HT0.out.below hb)
  have HL1 := Lib.hid (HSL.out.bel hb)
  clear hb
  go_wp2_with fail
  refine (rootK HR.out HE.out HL1.out).mono ?_
  rintro _ w2 ⟨rfl, hb⟩
  have HB2 := Lib.hid (HB1.out.trans (hb.mono HB1.out.size))
  have HT2 := Lib.hid (HT1.out.below hb)
  have HL2 := Lib.hid (HL1.out.bel hb)
  clear hb
  go_wp2_with fail
  refine (pathK HP.out HPE.out HPn.out HL2.out).mono ?_
  rintro _ w3 ⟨q3, b3, cap3, rfl, hs, hc3, hb⟩
  have HB3 := Lib.hid (HB2.out.trans (hb.mono HB2.out.size))
  have HT3 := Lib.hid (HT2.out.below hb)
  have HL3 := Lib.hid (HL2.out.bel hb)
  clear hb
  have HP3 := Lib.hid hs
  clear hs
  have HCAP := Lib.hid hc3
  clear hc3
  have HO := Lib.hid (Own.new w3 ([] : List Nat) 25 u64v (by simp))
  have HPa := Lib.hid (HP3.out.alloc (.cells (([] : List Nat).map u64v).toArray 25))
  have hpl : P.length + 1 ≤ 1000 := by have := HPn.out; omega
  have HNW : Hid (∀ W5 : World, ∀ (j : Nat) (h : j < [y].length), (W5.alloc (.cells #[.int .u64 y] 25)).cell? ((⟨W5.heap.size, 0, none⟩ : Addr).add j) = some (u64v [y][j])) := fun W5 => news1 (f := u64v) W5 y _
  go_wp2_with (first | (at_builtin; refine list_app_o (f := u64v) el64 u64_one rfl _ _ rfl w3.heap.size (.slice (some ⟨w3.heap.size, 0, none⟩) 0 0) [] rfl HO.out q3 b3 0 n cap3 P rfl HPa.out (by simp; omega) (by simp) ?_; intro v8 W8 own8 grow8; have HO8 := Lib.hid own8; have HB8 := Lib.hid (((Below.refl _ _).alloc (Nat.le_refl _) (.cells (([] : List Nat).map u64v).toArray 25)).grown grow8 (by simp) HO.out.block); clear own8 grow8) | (at_builtin; refine list_app (f := u64v) el64 u64_one rfl _ _ rfl w3.heap.size v8 ([] ++ P) rfl (HO8.out.alloc _) ⟨W8.heap.size, 0, none⟩ 1 1 [y] rfl rfl (HNW.out W8) (by simp; omega) (by have := HB8.out.size; rw [World.size_alloc]; omega) ?_; intro v9 W9 own9 grow9 _; have HB9 := (HB8.out.alloc HB8.out.size (.cells #[.int .u64 y] 25)).grown grow9 (by have := HB8.out.size; rw [World.size_alloc]; omega) HO8.out.block; have c1 := HX.out _ (HL3.out.bel HB9)) | fail)
  have hb := HB9
  clear HB8 HO8 grow9 HB9
  rw [List.nil_append] at own9
  have HB9 := Lib.hid (HB3.out.trans (hb.mono HB3.out.size))
  have HT9 := Lib.hid (HT3.out.below hb)
  have HL9 := Lib.hid (HL3.out.bel hb)
  have HP9 := Lib.hid (HP3.out.bel hb)
  clear hb
  obtain ⟨q9, b9, cap9, rfl, hs9, hc9⟩ := own9.reads (by rw [List.length_append, List.length_singleton]; omega)
  have HQ9 := Lib.hid hs9
  clear own9 hs9
  have HCQ := Lib.hid hc9
  clear hc9
  go_wp2_with fail
  refine (checkK HC1.out HQ9.out HCQ.out).mono ?_
  rintro _ w10 ⟨rfl, hb⟩
  have HB10 := Lib.hid (HB9.out.trans (hb.mono HB9.out.size))
  have HT10 := Lib.hid (HT9.out.below hb)
  have HL10 := Lib.hid (HL9.out.bel hb)
  have HP10 := Lib.hid (HP9.out.bel hb)
  have HQ10 := Lib.hid (HQ9.out.bel hb)
  clear hb
  have c10 := HX.out _ HL10.out
  go_wp2_with fail
  refine (checkK HC2.out HP10.out HCAP.out).mono ?_
  rintro _ w11 ⟨rfl, hb⟩
  have HB11 := Lib.hid (HB10.out.trans (hb.mono HB10.out.size))
  have HT11 := Lib.hid (HT10.out.below hb)
  have HL11 := Lib.hid (HL10.out.bel hb)
  have HP11 := Lib.hid (HP10.out.bel hb)
  clear hb
  have c11 := HX.out _ HL11.out
  go_wp2_with fail
  refine (checkK HC3.out HP11.out HCAP.out).mono ?_
  rintro _ w12 ⟨rfl, hb⟩
  have HB12 := Lib.hid (HB11.out.trans (hb.mono HB11.out.size))
  have HT12 := Lib.hid (HT11.out.below hb)
  have HL12 := Lib.hid (HL11.out.bel hb)
  have HP12 := Lib.hid (HP11.out.bel hb)
  clear hb
  have c12 := HX.out _ HL12.out
  go_wp2_with fail
  refine (checkK HC4.out HP12.out HCAP.out).mono ?_
  rintro _ w13 ⟨rfl, hb⟩
  have HB13 := Lib.hid (HB12.out.trans (hb.mono HB12.out.size))
  have HT13 := Lib.hid (HT12.out.below hb)
  have HL13 := Lib.hid (HL12.out.bel hb)
  have HP13 := Lib.hid (HP12.out.bel hb)
  clear hb
  have c13 := HX.out _ HL13.out
  go_wp2_with fail
  refine (checkK HC5.out HP13.out HCAP.out).mono ?_
  rintro _ w14 ⟨rfl, hb⟩
  have HB14 := Lib.hid (HB13.out.trans (hb.mono HB13.out.size))
  have HT14 := Lib.hid (HT13.out.below hb)
  have HL14 := Lib.hid (HL13.out.bel hb)
  have HP14 := Lib.hid (HP13.out.bel hb)
  clear hb
  by_cases hn0 : 0 < n
  · have hn0z : (0 : Int) < (n : Int) := by omega
    obtain ⟨m, hm0⟩ : ∃ m, m = n - 1 := ⟨_, rfl⟩
    have hncap : n ≤ cap3 := HCAP.out
    have K6 : Hid (∀ q : Bw w14, Calls Tryd.prog 20 #[.int .u64 R, .int .u64 x, .int .i64 i, .int .i64 len, .slice q3 m cap3] q.w' fun e w' => e = .returned (.bool false) ∧ RowKit.Below q.w'.heap.size q.w' w') := fun q => checkK (by rw [hm0]; exact HC6.out hn0) ((HP14.out.take (by omega)).bel q.h) (by omega)
    have K7 : Hid (∀ q : Bw w14, Calls Tryd.prog 20 #[.int .u64 R, .int .u64 x, .int .i64 i, .int .i64 len, .slice none 0 0] q.w' fun e w' => e = .returned (.bool false) ∧ RowKit.Below q.w'.heap.size q.w' w') := fun q => checkK (HC7.out hn0) (SlF.nil _ none) (Nat.le_refl _)
    have c14 := cell_bw (a := ⟨b, off + i, none⟩) (HL14.out.lt (by omega)) (HX.out _ HL14.out)
    have hw1 : (n : Int) - 1 = (m : Int) := by omega
    have hmc : (m : Int) ≤ (cap3 : Int) := by omega
    clear hm0
    go_wp2_with fail
    refine wp_region_bw mixed (by kernel_rfl) ?_
    repeat (go_big_quiet_step ((first | (with_reducible refine Calls.bw_of (K6.out _)) | (with_reducible refine Calls.bw_of (K7.out _)))))
    refine wpQuiet_nil ?_
    intro W HW
    replace HW := bw_out HW
    go_wp2
    go_ret
    exact ⟨rfl, HB14.out.trans (HW.mono HB14.out.size)⟩
  · have hn0z : ¬ (0 : Int) < (n : Int) := by omega
    go_wp2
    go_ret
    exact ⟨rfl, HB14.out⟩
end Go.Proofs.YtlbaggljmbkfdaaDoor
