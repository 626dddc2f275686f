/-
  The law on one byte: if one of the bytes is changed, the digest is another one; the same bytes behind two strings of bytes make digests neither equal nor different.
-/
import Derived.Test.YtlbaggljmbkfdaaDoorDCopy
namespace Go.Proofs.YtlbaggljmbkfdaaDoor
open Go.RowKit Dg

set_option maxRecDepth 100000 in
set_option maxHeartbeats 1000000 in
theorem onebyte_law (A O Z : List Nat) (p0 : Option Addr) (k0 off0 cap0 len0 : Nat) (p1 : Option Addr) (k1 off1 cap1 len1 : Nat) (p2 : Option Addr) (k2 off2 cap2 len2 : Nat) (at' : Int) (y : Nat) (w : World)
    (hA : SlF u8v w p0 k0 off0 len0 A) (hO : SlF u8v w p1 k1 off1 len1 O) (hZ : SlF u8v w p2 k2 off2 len2 Z) (bA : Bytes A) (bO : Bytes O) (bZ : Bytes Z) (hy : y < 256) (hT : Tab w) :
    Calls Tryd.prog 4 #[.slice p0 len0 cap0, .slice p1 len1 cap1, .slice p2 len2 cap2, .int .i64 at', .int .u8 y] w fun e w' => e = .returned (.bool true) ∧ RowKit.Below w.heap.size w w' := by
  have HSA := Lib.hid hA
  have HSO := Lib.hid hO
  have HSZ := Lib.hid hZ
  have HT0 := Lib.hid hT
  have hlA := hA.ln
  have hlO := hO.ln
  have hlZ := hZ.ln
  have hm0 := hA.max
  have hm1' := hO.max
  have hm2' := hZ.max
  clear hA hO hZ
  by_cases g0 : 300 < len0
  · have hz : (300 : Int) < (len0 : Int) := by omega
    have HB0 : Hid (RowKit.Below w.heap.size w w) := Below.refl _ _
    go_enter Tryd.func4, Tryd.ntmps4
    go_wp2_with fail
    refine (head_any _ HT0.out).mono ?_
    rintro _ w1 ⟨rfl, hb⟩
    have HB1 := Lib.hid (HB0.out.trans (hb.mono HB0.out.size))
    have HT1 := Lib.hid (HT0.out.below hb)
    clear hb
    go_wp2
    go_ret
    exact ⟨rfl, HB1.out⟩
  have d0 : decide ((300 : Int) < (len0 : Int)) = false := decide_eq_false (by omega)
  have e0 : ¬ (300 : Int) < (len0 : Int) := by omega
  by_cases g1 : 300 < len1
  · have hz : (300 : Int) < (len1 : Int) := by omega
    have HB0 : Hid (RowKit.Below w.heap.size w w) := Below.refl _ _
    go_enter Tryd.func4, Tryd.ntmps4
    go_wp2_with fail
    refine (head_any _ HT0.out).mono ?_
    rintro _ w1 ⟨rfl, hb⟩
    have HB1 := Lib.hid (HB0.out.trans (hb.mono HB0.out.size))
    have HT1 := Lib.hid (HT0.out.below hb)
    clear hb
    go_wp2
    go_ret
    exact ⟨rfl, HB1.out⟩
  have d1 : decide ((300 : Int) < (len1 : Int)) = false := decide_eq_false (by omega)
  have e1 : ¬ (300 : Int) < (len1 : Int) := by omega
  by_cases g2 : 300 < len2
  · have hz : (300 : Int) < (len2 : Int) := by omega
    have HB0 : Hid (RowKit.Below w.heap.size w w) := Below.refl _ _
    go_enter Tryd.func4, Tryd.ntmps4
    go_wp2_with fail
    refine (head_any _ HT0.out).mono ?_
    rintro _ w1 ⟨rfl, hb⟩
    have HB1 := Lib.hid (HB0.out.trans (hb.mono HB0.out.size))
    have HT1 := Lib.hid (HT0.out.below hb)
    clear hb
    go_wp2
    go_ret
    exact ⟨rfl, HB1.out⟩
  have d2 : decide ((300 : Int) < (len2 : Int)) = false := decide_eq_false (by omega)
  have e2 : ¬ (300 : Int) < (len2 : Int) := by omega
  obtain ⟨DX, hDX⟩ : ∃ D, D = dig (A ++ Z) := ⟨_, rfl⟩
  obtain ⟨DY, hDY⟩ : ∃ D, D = dig (O ++ Z) := ⟨_, rfl⟩
  obtain ⟨DA, hDA⟩ : ∃ D, D = dig A := ⟨_, rfl⟩
  obtain ⟨DO, hDO⟩ : ∃ D, D = dig O := ⟨_, rfl⟩
  have HDX : Hid (dig (A ++ Z) = DX) := hDX.symm
  have HDY : Hid (dig (O ++ Z) = DY) := hDY.symm
  have HDA : Hid (dig A = DA) := hDA.symm
  have HDO : Hid (dig O = DO) := hDO.symm
  have HIFF : DX = DY ↔ DA = DO := by rw [hDX, hDY, hDA, hDO]; exact dig_behind bZ
  have HEQ : Hid ((((DX : Int) == (DY : Int)) == ((DA : Int) == (DO : Int))) = true) := by
    show _ = _
    by_cases h : DA = DO
    · have h2 := HIFF.2 h
      rw [h, h2]; simp
    · have h2 : ¬ DX = DY := fun x => h (HIFF.1 x)
      rw [show ((DX : Int) == (DY : Int)) = false by rw [beq_eq_false_iff_ne]; omega, show ((DA : Int) == (DO : Int)) = false by rw [beq_eq_false_iff_ne]; omega]; rfl
  have heq := HEQ.out
  have HBA := Lib.hid bA
  have HBX := Lib.hid (bytes_app bA bZ)
  have HBY := Lib.hid (bytes_app bO bZ)
  have HBO := Lib.hid bO
  have hlen1 : A.length + Z.length ≤ 600 := by omega
  have hlen2 : O.length + Z.length ≤ 600 := by omega
  obtain ⟨NX, hNX⟩ : ∃ N, N = (A ++ Z).length := ⟨_, rfl⟩
  obtain ⟨NY, hNY⟩ : ∃ N, N = (O ++ Z).length := ⟨_, rfl⟩
  have HNX := Lib.hid hNX.symm
  have HNY := Lib.hid hNY.symm
  have HLA := Lib.hid hlA
  have HLO := Lib.hid hlO
  have HLZ := Lib.hid hlZ
  clear hNX hNY hDX hDY hDA hDO HIFF HEQ bA bO bZ hlA hlO hlZ
  by_cases hl0 : len0 = 0
  · have hz0 : ((len0 : Int) == 0) = true := by rw [beq_iff_eq]; omega
    clear hl0
    have HB0 : Hid (RowKit.Below w.heap.size w w) := Below.refl _ _
    go_enter Tryd.func4, Tryd.ntmps4
    go_wp2_with fail
    refine (head_any _ HT0.out).mono ?_
    rintro _ w1 ⟨rfl, hb⟩
    have HB1 := Lib.hid (HB0.out.trans (hb.mono HB0.out.size))
    have HT1 := Lib.hid (HT0.out.below hb)
    have HA1 := Lib.hid (HSA.out.bel hb)
    have HO1 := Lib.hid (HSO.out.bel hb)
    have HZ1 := Lib.hid (HSZ.out.bel hb)
    clear hb
    have HE1 := Lib.hid (Own.new w1 ([] : List Nat) 5 u8v (by simp))
    have HAa := Lib.hid (HA1.out.alloc (.cells (([] : List Nat).map u8v).toArray 5))
    go_wp2_with (first | (at_builtin; refine list_app_o (f := u8v) el8 u8_one rfl _ _ rfl w1.heap.size (.slice (some ⟨w1.heap.size, 0, none⟩) 0 0) [] rfl HE1.out p0 k0 off0 len0 cap0 A rfl HAa.out (by simp; omega) (by simp) ?_; intro v2 W2 own2 grow2; have HB2 := Lib.hid (((Below.refl _ _).alloc (Nat.le_refl _) (.cells (([] : List Nat).map u8v).toArray 5)).grown grow2 (by simp) HE1.out.block); have HO2 := Lib.hid own2; have HZ2 := Lib.hid (HZ1.out.bel HB2.out); clear own2 grow2) | (at_builtin; refine list_app_o (f := u8v) el8 u8_one rfl _ _ rfl w1.heap.size v2 ([] ++ A) rfl HO2.out p2 k2 off2 len2 cap2 Z rfl HZ2.out (by simp; have := HLZ.out; omega) HB2.out.size ?_; intro v3 W3 own3 grow3; have hb3 := HB2.out.grown grow3 HB2.out.size HO2.out.block; have HB3 := Lib.hid hb3; rw [List.nil_append] at own3; have HX3 := Lib.hid (own3.reads (by rw [List.length_append]; omega)); have HA3 := Lib.hid (HA1.out.bel HB3.out); have HO3 := Lib.hid (HO1.out.bel HB3.out); have HZ3 := Lib.hid (HZ1.out.bel HB3.out); have HE3 := Lib.hid (Own.new W3 ([] : List Nat) 5 u8v (by simp)); have HOa := Lib.hid (HO3.out.alloc (.cells (([] : List Nat).map u8v).toArray 5)); clear own3 grow3 hb3) | (at_builtin; refine list_app_o (f := u8v) el8 u8_one rfl _ _ rfl W3.heap.size (.slice (some ⟨W3.heap.size, 0, none⟩) 0 0) [] rfl HE3.out p1 k1 off1 len1 cap1 O rfl HOa.out (by simp; omega) (by simp) ?_; intro v4 W4 own4 grow4; have HB4 := Lib.hid (((Below.refl _ _).alloc (Nat.le_refl _) (.cells (([] : List Nat).map u8v).toArray 5)).grown grow4 (by simp) HE3.out.block); have HO4 := Lib.hid own4; have HZ4 := Lib.hid (HZ3.out.bel HB4.out); clear own4 grow4) | (at_builtin; refine list_app_o (f := u8v) el8 u8_one rfl _ _ rfl W3.heap.size v4 ([] ++ O) rfl HO4.out p2 k2 off2 len2 cap2 Z rfl HZ4.out (by simp; have := HLZ.out; omega) HB4.out.size ?_; intro v5 W5 own5 grow5; have hb5 := HB4.out.grown grow5 HB4.out.size HO4.out.block; have HBB5 := Lib.hid hb5; rw [List.nil_append] at own5; have HY5 := Lib.hid (own5.reads (by rw [List.length_append]; omega)); clear own5 grow5 hb5) | fail)
    obtain ⟨qx, bx, capx, hvx, hsx, _⟩ := HX3.out
    obtain ⟨qy, by', capy, hvy, hsy, _⟩ := HY5.out
    rw [HNX.out] at hvx hsx
    rw [HNY.out] at hvy hsy
    subst hvx
    subst hvy
    have hb := HB3.out.trans (HBB5.out.mono HB3.out.size)
    have HB5 := Lib.hid (HB1.out.trans (hb.mono HB1.out.size))
    have HT5 := Lib.hid (HT1.out.below hb)
    have HA5 := Lib.hid (HA1.out.bel hb)
    have HO5 := Lib.hid (HO1.out.bel hb)
    have HZ5 := Lib.hid (HZ1.out.bel hb)
    clear hb
    have HQX5 := Lib.hid (hsx.bel HBB5.out)
    have HQY5 := Lib.hid hsy
    clear hsx hsy HX3 HY5 HO2 HO4 HZ2 HZ4 HE1 HE3 HAa HOa
    go_wp2_with fail
    refine (sumK HDX.out HBX.out HQX5.out).mono ?_
    rintro _ w6 ⟨rfl, hb⟩
    have HB6 := Lib.hid (HB5.out.trans (hb.mono HB5.out.size))
    have HT6 := Lib.hid (HT5.out.below hb)
    have HA6 := Lib.hid (HA5.out.bel hb)
    have HO6 := Lib.hid (HO5.out.bel hb)
    have HZ6 := Lib.hid (HZ5.out.bel hb)
    have HQX6 := Lib.hid (HQX5.out.bel hb)
    have HQY6 := Lib.hid (HQY5.out.bel hb)
    clear hb
    go_wp2_with fail
    refine (sumK HDY.out HBY.out HQY6.out).mono ?_
    rintro _ w7 ⟨rfl, hb⟩
    have HB7 := Lib.hid (HB6.out.trans (hb.mono HB6.out.size))
    have HT7 := Lib.hid (HT6.out.below hb)
    have HA7 := Lib.hid (HA6.out.bel hb)
    have HO7 := Lib.hid (HO6.out.bel hb)
    have HZ7 := Lib.hid (HZ6.out.bel hb)
    have HQX7 := Lib.hid (HQX6.out.bel hb)
    have HQY7 := Lib.hid (HQY6.out.bel hb)
    clear hb
    go_wp2_with fail
    refine (sumK HDA.out HBA.out HA7.out).mono ?_
    rintro _ w8 ⟨rfl, hb⟩
    have HB8 := Lib.hid (HB7.out.trans (hb.mono HB7.out.size))
    have HT8 := Lib.hid (HT7.out.below hb)
    have HA8 := Lib.hid (HA7.out.bel hb)
    have HO8 := Lib.hid (HO7.out.bel hb)
    have HZ8 := Lib.hid (HZ7.out.bel hb)
    clear hb
    go_wp2_with fail
    refine (sumK HDO.out HBO.out HO8.out).mono ?_
    rintro _ w9 ⟨rfl, hb⟩
    have HB9 := Lib.hid (HB8.out.trans (hb.mono HB8.out.size))
    have HT9 := Lib.hid (HT8.out.below hb)
    have HA9 := Lib.hid (HA8.out.bel hb)
    have HO9 := Lib.hid (HO8.out.bel hb)
    have HZ9 := Lib.hid (HZ8.out.bel hb)
    clear hb
    go_wp2
    go_ret
    exact ⟨rfl, HB9.out⟩
  have hz0 : ((len0 : Int) == 0) = false := by rw [beq_eq_false_iff_ne]; omega
  have hz0' : decide ((len0 : Int) = 0) = false := decide_eq_false (by omega)
  by_cases hy0 : y = 0
  · subst hy0
    have HB0 : Hid (RowKit.Below w.heap.size w w) := Below.refl _ _
    go_enter Tryd.func4, Tryd.ntmps4
    go_wp2_with fail
    refine (head_any _ HT0.out).mono ?_
    rintro _ w1 ⟨rfl, hb⟩
    have HB1 := Lib.hid (HB0.out.trans (hb.mono HB0.out.size))
    have HT1 := Lib.hid (HT0.out.below hb)
    have HA1 := Lib.hid (HSA.out.bel hb)
    have HO1 := Lib.hid (HSO.out.bel hb)
    have HZ1 := Lib.hid (HSZ.out.bel hb)
    clear hb
    have HE1 := Lib.hid (Own.new w1 ([] : List Nat) 5 u8v (by simp))
    have HAa := Lib.hid (HA1.out.alloc (.cells (([] : List Nat).map u8v).toArray 5))
    go_wp2_with (first | (at_builtin; refine list_app_o (f := u8v) el8 u8_one rfl _ _ rfl w1.heap.size (.slice (some ⟨w1.heap.size, 0, none⟩) 0 0) [] rfl HE1.out p0 k0 off0 len0 cap0 A rfl HAa.out (by simp; omega) (by simp) ?_; intro v2 W2 own2 grow2; have HB2 := Lib.hid (((Below.refl _ _).alloc (Nat.le_refl _) (.cells (([] : List Nat).map u8v).toArray 5)).grown grow2 (by simp) HE1.out.block); have HO2 := Lib.hid own2; have HZ2 := Lib.hid (HZ1.out.bel HB2.out); clear own2 grow2) | (at_builtin; refine list_app_o (f := u8v) el8 u8_one rfl _ _ rfl w1.heap.size v2 ([] ++ A) rfl HO2.out p2 k2 off2 len2 cap2 Z rfl HZ2.out (by simp; have := HLZ.out; omega) HB2.out.size ?_; intro v3 W3 own3 grow3; have hb3 := HB2.out.grown grow3 HB2.out.size HO2.out.block; have HB3 := Lib.hid hb3; rw [List.nil_append] at own3; have HX3 := Lib.hid (own3.reads (by rw [List.length_append]; omega)); have HA3 := Lib.hid (HA1.out.bel HB3.out); have HO3 := Lib.hid (HO1.out.bel HB3.out); have HZ3 := Lib.hid (HZ1.out.bel HB3.out); have HE3 := Lib.hid (Own.new W3 ([] : List Nat) 5 u8v (by simp)); have HOa := Lib.hid (HO3.out.alloc (.cells (([] : List Nat).map u8v).toArray 5)); clear own3 grow3 hb3) | (at_builtin; refine list_app_o (f := u8v) el8 u8_one rfl _ _ rfl W3.heap.size (.slice (some ⟨W3.heap.size, 0, none⟩) 0 0) [] rfl HE3.out p1 k1 off1 len1 cap1 O rfl HOa.out (by simp; omega) (by simp) ?_; intro v4 W4 own4 grow4; have HB4 := Lib.hid (((Below.refl _ _).alloc (Nat.le_refl _) (.cells (([] : List Nat).map u8v).toArray 5)).grown grow4 (by simp) HE3.out.block); have HO4 := Lib.hid own4; have HZ4 := Lib.hid (HZ3.out.bel HB4.out); clear own4 grow4) | (at_builtin; refine list_app_o (f := u8v) el8 u8_one rfl _ _ rfl W3.heap.size v4 ([] ++ O) rfl HO4.out p2 k2 off2 len2 cap2 Z rfl HZ4.out (by simp; have := HLZ.out; omega) HB4.out.size ?_; intro v5 W5 own5 grow5; have hb5 := HB4.out.grown grow5 HB4.out.size HO4.out.block; have HBB5 := Lib.hid hb5; rw [List.nil_append] at own5; have HY5 := Lib.hid (own5.reads (by rw [List.length_append]; omega)); clear own5 grow5 hb5) | fail)
    obtain ⟨qx, bx, capx, hvx, hsx, _⟩ := HX3.out
    obtain ⟨qy, by', capy, hvy, hsy, _⟩ := HY5.out
    rw [HNX.out] at hvx hsx
    rw [HNY.out] at hvy hsy
    subst hvx
    subst hvy
    have hb := HB3.out.trans (HBB5.out.mono HB3.out.size)
    have HB5 := Lib.hid (HB1.out.trans (hb.mono HB1.out.size))
    have HT5 := Lib.hid (HT1.out.below hb)
    have HA5 := Lib.hid (HA1.out.bel hb)
    have HO5 := Lib.hid (HO1.out.bel hb)
    have HZ5 := Lib.hid (HZ1.out.bel hb)
    clear hb
    have HQX5 := Lib.hid (hsx.bel HBB5.out)
    have HQY5 := Lib.hid hsy
    clear hsx hsy HX3 HY5 HO2 HO4 HZ2 HZ4 HE1 HE3 HAa HOa
    go_wp2_with fail
    refine (sumK HDX.out HBX.out HQX5.out).mono ?_
    rintro _ w6 ⟨rfl, hb⟩
    have HB6 := Lib.hid (HB5.out.trans (hb.mono HB5.out.size))
    have HT6 := Lib.hid (HT5.out.below hb)
    have HA6 := Lib.hid (HA5.out.bel hb)
    have HO6 := Lib.hid (HO5.out.bel hb)
    have HZ6 := Lib.hid (HZ5.out.bel hb)
    have HQX6 := Lib.hid (HQX5.out.bel hb)
    have HQY6 := Lib.hid (HQY5.out.bel hb)
    clear hb
    go_wp2_with fail
    refine (sumK HDY.out HBY.out HQY6.out).mono ?_
    rintro _ w7 ⟨rfl, hb⟩
    have HB7 := Lib.hid (HB6.out.trans (hb.mono HB6.out.size))
    have HT7 := Lib.hid (HT6.out.below hb)
    have HA7 := Lib.hid (HA6.out.bel hb)
    have HO7 := Lib.hid (HO6.out.bel hb)
    have HZ7 := Lib.hid (HZ6.out.bel hb)
    have HQX7 := Lib.hid (HQX6.out.bel hb)
    have HQY7 := Lib.hid (HQY6.out.bel hb)
    clear hb
    go_wp2_with fail
    refine (sumK HDA.out HBA.out HA7.out).mono ?_
    rintro _ w8 ⟨rfl, hb⟩
    have HB8 := Lib.hid (HB7.out.trans (hb.mono HB7.out.size))
    have HT8 := Lib.hid (HT7.out.below hb)
    have HA8 := Lib.hid (HA7.out.bel hb)
    have HO8 := Lib.hid (HO7.out.bel hb)
    have HZ8 := Lib.hid (HZ7.out.bel hb)
    clear hb
    go_wp2_with fail
    refine (sumK HDO.out HBO.out HO8.out).mono ?_
    rintro _ w9 ⟨rfl, hb⟩
    have HB9 := Lib.hid (HB8.out.trans (hb.mono HB8.out.size))
    have HT9 := Lib.hid (HT8.out.below hb)
    have HA9 := Lib.hid (HA8.out.bel hb)
    have HO9 := Lib.hid (HO8.out.bel hb)
    have HZ9 := Lib.hid (HZ8.out.bel hb)
    clear hb
    go_wp2
    go_ret
    exact ⟨rfl, HB9.out⟩
  have hy0z : ((y : Int) == 0) = false := by rw [beq_eq_false_iff_ne]; omega
  have hy0d : decide ((y : Int) = 0) = false := decide_eq_false (by omega)
  obtain ⟨k, hk, hmk, hmk1, hmk2⟩ := place at' len0 (by omega)
  have hkA : k < A.length := by have := HLA.out; omega
  obtain ⟨x, hx⟩ : ∃ x, x = A[k] := ⟨_, rfl⟩
  have hx256 : x < 256 := by rw [hx]; exact HBA.out _ (List.getElem_mem hkA)
  have hxor := xor_u8 x y hx256 hy
  have hx256' : x ^^^ y < 256 := by
    have : x ^^^ y < 2 ^ 8 := Nat.xor_lt_two_pow (by omega) (by omega)
    omega
  obtain ⟨DC, hDC⟩ : ∃ D, D = dig (A.set k (x ^^^ y)) := ⟨_, rfl⟩
  have HDC : Hid (dig (A.set k (x ^^^ y)) = DC) := hDC.symm
  have HBC := Lib.hid (bytes_set HBA.out k hx256')
  have hne : ((DC : Int) != (DA : Int)) = true := by
    have h := dig_set HBA.out hkA hx256' (by rw [← hx]; exact xor_ne x y hy0)
    rw [← hDC, HDA.out] at h
    rw [bne_iff_ne]; omega
  have HXX := Lib.hid hx
  have hzk : ¬ (len0 : Int) = 0 := by omega
  clear hx hDC
  have HB0 : Hid (RowKit.Below w.heap.size w w) := Below.refl _ _
  go_enter Tryd.func4, Tryd.ntmps4
  go_wp2_with fail
  refine (head_any _ HT0.out).mono ?_
  rintro _ w1 ⟨rfl, hb⟩
  have HB1 := Lib.hid (HB0.out.trans (hb.mono HB0.out.size))
  have HT1 := Lib.hid (HT0.out.below hb)
  have HA1 := Lib.hid (HSA.out.bel hb)
  have HO1 := Lib.hid (HSO.out.bel hb)
  have HZ1 := Lib.hid (HSZ.out.bel hb)
  clear hb
  have HE1 := Lib.hid (Own.new w1 ([] : List Nat) 5 u8v (by simp))
  have HAa := Lib.hid (HA1.out.alloc (.cells (([] : List Nat).map u8v).toArray 5))
  go_wp2_with (first | (at_builtin; refine list_app_o (f := u8v) el8 u8_one rfl _ _ rfl w1.heap.size (.slice (some ⟨w1.heap.size, 0, none⟩) 0 0) [] rfl HE1.out p0 k0 off0 len0 cap0 A rfl HAa.out (by simp; omega) (by simp) ?_; intro v2 W2 own2 grow2; have HB2 := Lib.hid (((Below.refl _ _).alloc (Nat.le_refl _) (.cells (([] : List Nat).map u8v).toArray 5)).grown grow2 (by simp) HE1.out.block); have HO2 := Lib.hid own2; have HZ2 := Lib.hid (HZ1.out.bel HB2.out); clear own2 grow2) | (at_builtin; refine list_app_o (f := u8v) el8 u8_one rfl _ _ rfl w1.heap.size v2 ([] ++ A) rfl HO2.out p2 k2 off2 len2 cap2 Z rfl HZ2.out (by simp; have := HLZ.out; omega) HB2.out.size ?_; intro v3 W3 own3 grow3; have hb3 := HB2.out.grown grow3 HB2.out.size HO2.out.block; have HB3 := Lib.hid hb3; rw [List.nil_append] at own3; have HX3 := Lib.hid (own3.reads (by rw [List.length_append]; omega)); have HA3 := Lib.hid (HA1.out.bel HB3.out); have HO3 := Lib.hid (HO1.out.bel HB3.out); have HZ3 := Lib.hid (HZ1.out.bel HB3.out); have HE3 := Lib.hid (Own.new W3 ([] : List Nat) 5 u8v (by simp)); have HOa := Lib.hid (HO3.out.alloc (.cells (([] : List Nat).map u8v).toArray 5)); clear own3 grow3 hb3) | (at_builtin; refine list_app_o (f := u8v) el8 u8_one rfl _ _ rfl W3.heap.size (.slice (some ⟨W3.heap.size, 0, none⟩) 0 0) [] rfl HE3.out p1 k1 off1 len1 cap1 O rfl HOa.out (by simp; omega) (by simp) ?_; intro v4 W4 own4 grow4; have HB4 := Lib.hid (((Below.refl _ _).alloc (Nat.le_refl _) (.cells (([] : List Nat).map u8v).toArray 5)).grown grow4 (by simp) HE3.out.block); have HO4 := Lib.hid own4; have HZ4 := Lib.hid (HZ3.out.bel HB4.out); clear own4 grow4) | (at_builtin; refine list_app_o (f := u8v) el8 u8_one rfl _ _ rfl W3.heap.size v4 ([] ++ O) rfl HO4.out p2 k2 off2 len2 cap2 Z rfl HZ4.out (by simp; have := HLZ.out; omega) HB4.out.size ?_; intro v5 W5 own5 grow5; have hb5 := HB4.out.grown grow5 HB4.out.size HO4.out.block; have HBB5 := Lib.hid hb5; rw [List.nil_append] at own5; have HY5 := Lib.hid (own5.reads (by rw [List.length_append]; omega)); clear own5 grow5 hb5) | fail)
  obtain ⟨qx, bx, capx, hvx, hsx, _⟩ := HX3.out
  obtain ⟨qy, by', capy, hvy, hsy, _⟩ := HY5.out
  rw [HNX.out] at hvx hsx
  rw [HNY.out] at hvy hsy
  subst hvx
  subst hvy
  have hb := HB3.out.trans (HBB5.out.mono HB3.out.size)
  have HB5 := Lib.hid (HB1.out.trans (hb.mono HB1.out.size))
  have HT5 := Lib.hid (HT1.out.below hb)
  have HA5 := Lib.hid (HA1.out.bel hb)
  have HO5 := Lib.hid (HO1.out.bel hb)
  have HZ5 := Lib.hid (HZ1.out.bel hb)
  clear hb
  have HQX5 := Lib.hid (hsx.bel HBB5.out)
  have HQY5 := Lib.hid hsy
  clear hsx hsy HX3 HY5 HO2 HO4 HZ2 HZ4 HE1 HE3 HAa HOa
  go_wp2_with fail
  refine (sumK HDX.out HBX.out HQX5.out).mono ?_
  rintro _ w6 ⟨rfl, hb⟩
  have HB6 := Lib.hid (HB5.out.trans (hb.mono HB5.out.size))
  have HT6 := Lib.hid (HT5.out.below hb)
  have HA6 := Lib.hid (HA5.out.bel hb)
  have HO6 := Lib.hid (HO5.out.bel hb)
  have HZ6 := Lib.hid (HZ5.out.bel hb)
  have HQX6 := Lib.hid (HQX5.out.bel hb)
  have HQY6 := Lib.hid (HQY5.out.bel hb)
  clear hb
  go_wp2_with fail
  refine (sumK HDY.out HBY.out HQY6.out).mono ?_
  rintro _ w7 ⟨rfl, hb⟩
  have HB7 := Lib.hid (HB6.out.trans (hb.mono HB6.out.size))
  have HT7 := Lib.hid (HT6.out.below hb)
  have HA7 := Lib.hid (HA6.out.bel hb)
  have HO7 := Lib.hid (HO6.out.bel hb)
  have HZ7 := Lib.hid (HZ6.out.bel hb)
  have HQX7 := Lib.hid (HQX6.out.bel hb)
  have HQY7 := Lib.hid (HQY6.out.bel hb)
  clear hb
  go_wp2_with fail
  refine (sumK HDA.out HBA.out HA7.out).mono ?_
  rintro _ w8 ⟨rfl, hb⟩
  have HB8 := Lib.hid (HB7.out.trans (hb.mono HB7.out.size))
  have HT8 := Lib.hid (HT7.out.below hb)
  have HA8 := Lib.hid (HA7.out.bel hb)
  have HO8 := Lib.hid (HO7.out.bel hb)
  have HZ8 := Lib.hid (HZ7.out.bel hb)
  clear hb
  go_wp2_with fail
  refine (sumK HDO.out HBO.out HO8.out).mono ?_
  rintro _ w9 ⟨rfl, hb⟩
  have HB9 := Lib.hid (HB8.out.trans (hb.mono HB8.out.size))
  have HT9 := Lib.hid (HT8.out.below hb)
  have HA9 := Lib.hid (HA8.out.bel hb)
  have HO9 := Lib.hid (HO8.out.bel hb)
  have HZ9 := Lib.hid (HZ8.out.bel hb)
  clear hb
  have HE9 := Lib.hid (Own.new w9 ([] : List Nat) 5 u8v (by simp))
  have HAa := Lib.hid (HA9.out.alloc (.cells (([] : List Nat).map u8v).toArray 5))
  go_wp2_with (first | (at_builtin; refine list_app_o (f := u8v) el8 u8_one rfl _ _ rfl w9.heap.size (.slice (some ⟨w9.heap.size, 0, none⟩) 0 0) [] rfl HE9.out p0 k0 off0 len0 cap0 A rfl HAa.out (by simp; omega) (by simp) ?_; intro v10 W10 own10 grow10; have HB10 := Lib.hid (((Below.refl _ _).alloc (Nat.le_refl _) (.cells (([] : List Nat).map u8v).toArray 5)).grown grow10 (by simp) HE9.out.block); rw [List.nil_append] at own10; obtain ⟨g, capc, hvc, hcell, hfro, hlec, hbg, hset⟩ := own10.at' (by have := HLA.out; omega) hkA; rw [HLA.out] at hvc hset hlec; subst hvc; rw [← HXX.out] at hcell; unfold u8v at hcell; have HSET := Lib.hid (hset (x ^^^ y)); have HBG := Lib.hid hbg; clear hset own10 grow10 hbg) | fail)
  have hb := HB10.out.setCell (p := ⟨g, k, none⟩) HBG.out (.int .u8 ((x ^^^ y : Nat) : Int))
  have HB11 := Lib.hid (HB9.out.trans (hb.mono HB9.out.size))
  have HT11 := Lib.hid (HT9.out.below hb)
  have HA11 := Lib.hid (HA9.out.bel hb)
  have HO11 := Lib.hid (HO9.out.bel hb)
  have HZ11 := Lib.hid (HZ9.out.bel hb)
  clear hb
  have HQC := Lib.hid HSET.out
  go_wp2_with fail
  refine (sumK HDC.out HBC.out HQC.out).mono ?_
  rintro _ w12 ⟨rfl, hb⟩
  have HB12 := Lib.hid (HB11.out.trans (hb.mono HB11.out.size))
  have HT12 := Lib.hid (HT11.out.below hb)
  have HA12 := Lib.hid (HA11.out.bel hb)
  have HO12 := Lib.hid (HO11.out.bel hb)
  have HZ12 := Lib.hid (HZ11.out.bel hb)
  have HC12 := Lib.hid (HQC.out.bel hb)
  clear hb
  go_wp2_with fail
  refine (sumK HDA.out HBA.out HA12.out).mono ?_
  rintro _ w13 ⟨rfl, hb⟩
  have HB13 := Lib.hid (HB12.out.trans (hb.mono HB12.out.size))
  have HT13 := Lib.hid (HT12.out.below hb)
  have HA13 := Lib.hid (HA12.out.bel hb)
  have HO13 := Lib.hid (HO12.out.bel hb)
  have HZ13 := Lib.hid (HZ12.out.bel hb)
  clear hb
  go_wp2
  go_ret
  exact ⟨rfl, HB13.out⟩
end Go.Proofs.YtlbaggljmbkfdaaDoor
