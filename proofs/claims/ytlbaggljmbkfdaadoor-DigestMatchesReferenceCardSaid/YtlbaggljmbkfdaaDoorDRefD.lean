/-
  The contract of the reference's Check.
-/
import Derived.Test.YtlbaggljmbkfdaaDoorDRefC
import Derived.Test.YtlbaggljmbkfdaaDoorDCheck
namespace Go.Proofs.YtlbaggljmbkfdaaDoor
open Go.RowKit Dg

set_option maxRecDepth 100000 in
set_option maxHeartbeats 2000000 in
theorem rcheck_any (r a : Nat) (i n : Int) (l : List Nat) (p : Option Addr) (b off cap len : Nat) (w : World) (hS : SlF u64v w p b off len l) :
    Calls Tryd.prog 21 #[.int .u64 r, .int .u64 a, .int .i64 i, .int .i64 n, .slice p len cap] w fun e w' => e = .returned (.bool (ck r a i n l)) ∧ RowKit.Below w.heap.size w w' := by
  have HS := Lib.hid hS
  have HL := Lib.hid hS.ln
  have hmx := hS.max
  clear hS
  obtain ⟨R, hR⟩ : ∃ R, R = ck r a i n l := ⟨_, rfl⟩
  rw [← hR]
  have HR0 := Lib.hid hR
  clear hR
  by_cases h1 : n < 1
  · have E : Hid (R = false) := by show _ = _; rw [HR0.out]; exact ck_out (.inl h1)
    go_enter Tryd.func21, Tryd.ntmps21
    go_wp2
    go_ret
    exact ⟨ret_bool E.out.symm, Below.refl _ _⟩
  have h1d : decide (n < 1) = false := decide_eq_false h1
  by_cases h2 : 1024 < n
  · have E : Hid (R = false) := by show _ = _; rw [HR0.out]; exact ck_out (.inr (.inl h2))
    go_enter Tryd.func21, Tryd.ntmps21
    go_wp2
    go_ret
    exact ⟨ret_bool E.out.symm, Below.refl _ _⟩
  have h2d : decide (1024 < n) = false := decide_eq_false h2
  by_cases h3 : i < 0
  · have E : Hid (R = false) := by show _ = _; rw [HR0.out]; exact ck_out (.inr (.inr (.inl h3)))
    go_enter Tryd.func21, Tryd.ntmps21
    go_wp2
    go_ret
    exact ⟨ret_bool E.out.symm, Below.refl _ _⟩
  have h3d : decide (i < 0) = false := decide_eq_false h3
  by_cases h4 : n ≤ i
  · have E : Hid (R = false) := by show _ = _; rw [HR0.out]; exact ck_out (.inr (.inr (.inr h4)))
    go_enter Tryd.func21, Tryd.ntmps21
    go_wp2
    go_ret
    exact ⟨ret_bool E.out.symm, Below.refl _ _⟩
  have h4d : decide (n ≤ i) = false := decide_eq_false h4
  obtain ⟨j0, rfl⟩ : ∃ j : Nat, i = (j : Int) := ⟨i.toNat, by omega⟩
  obtain ⟨n0, rfl⟩ : ∃ j : Nat, n = (j : Int) := ⟨n.toNat, by omega⟩
  have HR : Hid (R = decide (ckV (lfN a) j0 n0 (l.drop 0) = some r)) := by
    show _ = _
    rw [HR0.out, List.drop_zero]
    unfold ck
    rw [decide_eq_true (show (1 : Int) ≤ (n0 : Int) by omega), decide_eq_true (show (n0 : Int) ≤ 1024 by omega), decide_eq_true (show (0 : Int) ≤ (j0 : Int) by omega), decide_eq_true (show (j0 : Int) < (n0 : Int) by omega), Int.toNat_natCast, Int.toNat_natCast]
    rfl
  have hn1 : 1 ≤ n0 := by omega
  have hn2 : n0 ≤ 1024 := by omega
  have hj0 : j0 < n0 := by omega
  have KL := Lib.hid (fun w => rleaf_any a w)
  obtain ⟨A, hA⟩ : ∃ A, A = lfN a := ⟨_, rfl⟩
  rw [← hA] at HR KL
  clear hA HR0
  go_enter Tryd.func21, Tryd.ntmps21
  go_wp2_with fail
  refine (KL.out _).mono ?_
  rintro _ w2 ⟨rfl, hb2⟩
  have HB2 := Lib.hid hb2
  clear hb2 KL h1 h1d h2 h2d h3 h3d h4 h4d
  go_wp2_with fail
  go_loopg [2, 3, 11, 12] n0 (fun gg s2 s3 s11 s12 wr => ∃ (j n x k : Nat), s2 = .int .i64 j ∧ s3 = .int .i64 n ∧ s11 = .int .u64 x ∧ s12 = .int .i64 k ∧ k ≤ len ∧ 1 ≤ n ∧ n ≤ n0 ∧ n ≤ gg ∧ j < n ∧ Hid (R = decide (ckV x j n (l.drop k) = some r)) ∧ Hid (RowKit.Below w.heap.size w wr))
  case atStart => exact ⟨j0, n0, A, 0, rfl, rfl, rfl, rfl, by omega, hn1, Nat.le_refl _, Nat.le_refl _, hj0, HR.out, HB2.out⟩
  case round =>
    obtain ⟨j, n, x, k, rfl, rfl, rfl, rfl, hk, hnn1, hnn, hng, hjn, HRR, HB⟩ := hrel
    clear HB2 HR
    by_cases hlt : 1 < n
    · have hltz : (1 : Int) < (n : Int) := by omega
      obtain ⟨N, hN⟩ : ∃ N, N = (n + 1) / 2 := ⟨_, rfl⟩
      obtain ⟨j2, hj2⟩ : ∃ N, N = j / 2 := ⟨_, rfl⟩
      have hN1 : 1 ≤ N := by omega
      have hN2 : N < n := by omega
      have hj2N : j2 < N := by omega
      have HJ2 := Lib.hid hj2
      have HN2 := Lib.hid hN
      by_cases hbes : j % 2 = 1 ∨ j + 1 < n
      · by_cases hkl : k = len
        · have hkz : ((k : Int) == (len : Int)) = true := by rw [beq_iff_eq]; omega
          have E : Hid (R = false) := by
            show _ = _
            rw [HRR.out, List.drop_eq_nil_of_le (by have := HL.out; omega), ckV_none (by omega) hbes]; rfl
          clear hkl hN hj2
          by_cases hodd : j % 2 = 1
          · have hjm : (j : Int) % 2 = 1 := by omega
            have hjb : ((j : Int) % 2 == 1) = true := by rw [beq_iff_eq]; exact hjm
            go_wp2
            go_ret
            exact ⟨ret_bool E.out.symm, HB.out⟩
          · have hjm : (j : Int) % 2 = 0 := by omega
            have hjb : ((j : Int) % 2 == 1) = false := by rw [beq_eq_false_iff_ne]; omega
            have hbz : (j : Int) + 1 < (n : Int) := by omega
            go_wp2
            go_ret
            exact ⟨ret_bool E.out.symm, HB.out⟩
        · have hkl2 : k < l.length := by have := HL.out; omega
          have hkz : ((k : Int) == (len : Int)) = false := by rw [beq_eq_false_iff_ne]; omega
          have hklz : (k : Int) < (len : Int) := by omega
          have hp1 := HS.out.ptr (by omega)
          have c1 := (HS.out.bel HB.out).cells k hkl2
          obtain ⟨y, hy⟩ : ∃ c, c = l[k] := ⟨_, rfl⟩
          have HDP : Hid (l.drop k = y :: l.drop (k + 1)) := by show _ = _; rw [hy, List.getElem_cons_drop]
          rw [← hy] at c1
          unfold u64v at c1
          clear hy hkl
          subst hp1
          by_cases hodd : j % 2 = 1
          · have hjm : (j : Int) % 2 = 1 := by omega
            have hjb : ((j : Int) % 2 == 1) = true := by rw [beq_iff_eq]; exact hjm
            have HR2 : Hid (R = decide (ckV (prN y x) j2 N (l.drop (k + 1)) = some r)) := by show _ = _; rw [HRR.out, HDP.out, ckV_left (by omega) hodd, ← hj2, ← hN]
            have KP := Lib.hid (fun w => rpair_any y x w)
            clear hN hj2 hbes
            generalize prN y x = z at *
            go_wp2_with fail
            refine (KP.out _).mono ?_
            rintro _ w4 ⟨rfl, hb4⟩
            have HB4 := Lib.hid (HB.out.trans (hb4.mono HB.out.size))
            clear hb4
            go_wp2
            go_roundg N
            case measure => omega
            case rel => exact ⟨j2, N, z, k + 1, by have := HJ2.out; go_num, by have := HN2.out; go_num, rfl, by go_num, by omega, hN1, by omega, Nat.le_refl _, hj2N, HR2.out, HB4.out⟩
          · have hjm : (j : Int) % 2 = 0 := by omega
            have hjb : ((j : Int) % 2 == 1) = false := by rw [beq_eq_false_iff_ne]; omega
            have hbn : j + 1 < n := by omega
            have hbz : (j : Int) + 1 < (n : Int) := by omega
            have HR2 : Hid (R = decide (ckV (prN x y) j2 N (l.drop (k + 1)) = some r)) := by show _ = _; rw [HRR.out, HDP.out, ckV_right hodd hbn, ← hj2, ← hN]
            have KP := Lib.hid (fun w => rpair_any x y w)
            clear hN hj2 hbes
            generalize prN x y = z at *
            go_wp2_with fail
            refine (KP.out _).mono ?_
            rintro _ w4 ⟨rfl, hb4⟩
            have HB4 := Lib.hid (HB.out.trans (hb4.mono HB.out.size))
            clear hb4
            go_wp2
            go_roundg N
            case measure => omega
            case rel => exact ⟨j2, N, z, k + 1, by have := HJ2.out; go_num, by have := HN2.out; go_num, rfl, by go_num, by omega, hN1, by omega, Nat.le_refl _, hj2N, HR2.out, HB4.out⟩
      · have hjm : (j : Int) % 2 = 0 := by omega
        have hjb : ((j : Int) % 2 == 1) = false := by rw [beq_eq_false_iff_ne]; omega
        have hbz : ¬ (j : Int) + 1 < (n : Int) := by omega
        have hbzd : decide ((j : Int) + 1 < (n : Int)) = false := decide_eq_false hbz
        have HR2 : Hid (R = decide (ckV x j2 N (l.drop k) = some r)) := by show _ = _; rw [HRR.out, ckV_skip (by omega) (by omega) (by omega), ← hj2, ← hN]
        clear hN hj2 hbes
        go_wp2
        go_roundg N
        case measure => omega
        case rel => exact ⟨j2, N, x, k, by have := HJ2.out; go_num, by have := HN2.out; go_num, rfl, rfl, hk, hN1, by omega, Nat.le_refl _, hj2N, HR2.out, HB.out⟩
    · obtain rfl : n = 1 := by omega
      have E := HRR.out
      rw [ckV_end, List.length_drop] at E
      have HE := Lib.hid E
      clear E
      by_cases hkl : k = len
      · have hkz : ((k : Int) == (len : Int)) = true := by rw [beq_iff_eq]; omega
        have hl0 : l.length - k = 0 := by have := HL.out; omega
        clear hkl
        by_cases hx : x = r
        · subst hx
          have HE2 : Hid (R = true) := by show _ = _; rw [HE.out, decide_eq_true hl0, decide_eq_true rfl]; rfl
          go_wp2
          go_ret
          exact ⟨ret_bool (by rw [HE2.out]), HB.out⟩
        · have HE2 : Hid (R = false) := by show _ = _; rw [HE.out, decide_eq_false hx]; simp
          have HXB : Hid (((x : Int) == (r : Int)) = false) := by show _ = _; rw [beq_eq_false_iff_ne]; omega
          go_wp2
          go_ret
          exact ⟨ret_bool (by rw [HE2.out]; exact HXB.out), HB.out⟩
      · have hkz : ((k : Int) == (len : Int)) = false := by rw [beq_eq_false_iff_ne]; omega
        have HE2 : Hid (R = false) := by show _ = _; rw [HE.out, decide_eq_false (by have := HL.out; omega)]; rfl
        clear HE hkl
        go_wp2
        go_ret
        exact ⟨ret_bool (by rw [HE2.out]), HB.out⟩
end Go.Proofs.YtlbaggljmbkfdaaDoor
