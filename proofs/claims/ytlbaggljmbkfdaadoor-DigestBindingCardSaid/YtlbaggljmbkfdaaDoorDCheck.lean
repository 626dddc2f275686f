/-
  The contract of Check.
-/
import Derived.Test.YtlbaggljmbkfdaaDoorDTree
namespace Go.Proofs.YtlbaggljmbkfdaaDoor
open Go.RowKit Dg

theorem ckV_jn {a j n x : Nat} {P : List Nat} (hn : 1 < n) (h : bsI j < n) : ckV a j n (x :: P) = ckV (jnV j a x) (j / 2) ((n + 1) / 2) P := by
  unfold bsI at h
  unfold jnV
  by_cases h1 : j % 2 = 0
  · rw [if_pos h1] at h ⊢
    rw [ckV_right (by omega) h]
  · rw [if_neg h1]
    rw [ckV_left (by omega) (by omega)]
theorem ckV_no {a j n : Nat} (hn : 1 < n) (h : bsI j < n) : ckV a j n [] = none := by
  unfold bsI at h
  refine ckV_none (by omega) ?_
  by_cases h1 : j % 2 = 0
  · rw [if_pos h1] at h; exact .inr h
  · exact .inl (by omega)
theorem ckV_sk {a j n : Nat} {P : List Nat} (hn : 1 < n) (hj : j < n) (h : ¬ bsI j < n) : ckV a j n P = ckV a (j / 2) ((n + 1) / 2) P := by
  unfold bsI at h
  by_cases h1 : j % 2 = 0
  · rw [if_pos h1] at h; exact ckV_skip (by omega) (by omega) h
  · rw [if_neg h1] at h; omega
/-- A slice without its first element. -/
theorem SlF.tail {α : Type} {f : α → Value} {w : World} {q : Option Addr} {b off m c : Nat} {x : α} {P : List α} (h : SlF f w q b off m (x :: P)) (hc : m ≤ c) :
    SlF f w (if c = 1 then some ⟨b, off, none⟩ else some ⟨b, off + 1, none⟩) b (off + 1) (m - 1) P := by
  have hl := h.ln
  rw [List.length_cons] at hl
  refine ⟨by omega, fun hm => by rw [if_neg (by omega)], fun k hk => ?_, fun hm => h.lt (by omega), by have := h.max; omega⟩
  have := h.cells (k + 1) (by rw [List.length_cons]; omega)
  rw [Nat.add_assoc, Nat.add_comm 1 k]
  exact this
/-- The answer at the end. -/
theorem ckV_end {a j r : Nat} {P : List Nat} : decide (ckV a j 1 P = some r) = (decide (P.length = 0) && decide (a = r)) := by
  rw [ckV_short (by omega)]
  by_cases h : P = []
  · subst h
    simp
  · rw [if_neg h, decide_eq_false (by simp), decide_eq_false (by simpa using h)]
    rfl

set_option maxRecDepth 100000 in
set_option maxHeartbeats 2000000 in
theorem check_any (r a : Nat) (i n : Int) (l : List Nat) (p : Option Addr) (b off cap len : Nat) (w : World) (hS : SlF u64v w p b off len l) (hc : len ≤ cap) :
    Calls Tryd.prog 20 #[.int .u64 r, .int .u64 a, .int .i64 i, .int .i64 n, .slice p len cap] w fun e w' => e = .returned (.bool (ck r a i n l)) ∧ RowKit.Below w.heap.size w w' := by
  have HS := Lib.hid hS
  have KC := Lib.hid (fun w => count_any n w)
  have KI := Lib.hid (fun w => index_any i n w)
  clear hS
  obtain ⟨R, hR⟩ : ∃ R, R = ck r a i n l := ⟨_, rfl⟩
  rw [← hR]
  have HR0 := Lib.hid hR
  clear hR
  by_cases h : cE n = 0
  · have hn := cE_pos h
    rw [h] at KC
    cases hI : isI i n with
    | false =>
      have E : Hid (R = false) := by
        show _ = _
        rw [HR0.out]
        refine ck_out ?_
        unfold isI at hI
        rw [Bool.and_eq_false_iff, decide_eq_false_iff_not, decide_eq_false_iff_not] at hI
        omega
      rw [hI] at KI
      clear hI h
      go_enter Tryd.func20, Tryd.ntmps20
      go_wp2_with fail
      refine (KC.out _).mono ?_
      rintro _ w1 ⟨rfl, rfl⟩
      go_wp2_with fail
      refine (KI.out _).mono ?_
      rintro _ w2 ⟨rfl, rfl⟩
      go_wp2
      go_ret
      exact ⟨ret_bool E.out.symm, Below.refl _ _⟩
    | true =>
      have hi : 0 ≤ i ∧ i < n := by
        unfold isI at hI
        simp only [Bool.and_eq_true, decide_eq_true_eq] at hI
        exact hI
      rw [hI] at KI
      obtain ⟨j0, rfl⟩ : ∃ j : Nat, i = (j : Int) := ⟨i.toNat, by omega⟩
      obtain ⟨n0, rfl⟩ : ∃ j : Nat, n = (j : Int) := ⟨n.toNat, by omega⟩
      have HR : Hid (R = decide (ckV (lfN a) j0 n0 l = some r)) := by
        show _ = _
        rw [HR0.out]
        unfold ck
        rw [decide_eq_true hn.1, decide_eq_true hn.2, decide_eq_true hi.1, decide_eq_true hi.2, Int.toNat_natCast, Int.toNat_natCast]
        rfl
      have hn1 : 1 ≤ n0 := by omega
      have hn2 : n0 ≤ 1024 := by omega
      have hj0 : j0 < n0 := by omega
      have KL := Lib.hid (fun w => leaf_any a w)
      obtain ⟨A, hA⟩ : ∃ A, A = lfN a := ⟨_, rfl⟩
      rw [← hA] at HR KL
      clear hA hI h hn hi HR0
      go_enter Tryd.func20, Tryd.ntmps20
      go_wp2_with fail
      refine (KC.out _).mono ?_
      rintro _ w1 ⟨rfl, rfl⟩
      go_wp2_with fail
      refine (KI.out _).mono ?_
      rintro _ w1 ⟨rfl, rfl⟩
      go_wp2_with fail
      refine (KL.out _).mono ?_
      rintro _ w2 ⟨rfl, hb2⟩
      have HB2 := Lib.hid hb2
      have HS2 := Lib.hid (HS.out.bel hb2)
      clear hb2 KC KI KL
      go_wp2_with fail
      go_loopg [2, 4, 11, 12] n0 (fun gg s2 s4 s11 s12 wr => ∃ (j n x m c o : Nat) (q : Option Addr) (P : List Nat), s2 = .int .i64 j ∧ s12 = .int .i64 n ∧ s11 = .int .u64 x ∧ s4 = .slice q m c ∧ m ≤ c ∧ 1 ≤ n ∧ n ≤ n0 ∧ n ≤ gg ∧ j < n ∧ Hid (SlF u64v wr q b o m P) ∧ Hid (R = decide (ckV x j n P = some r)) ∧ Hid (RowKit.Below w1.heap.size w1 wr))
      case atStart => exact ⟨j0, n0, A, len, cap, off, p, l, rfl, rfl, rfl, rfl, hc, hn1, Nat.le_refl _, Nat.le_refl _, hj0, HS2.out, HR.out, HB2.out⟩
      case round =>
        obtain ⟨j, n, x, m, c, o, q, P, rfl, rfl, rfl, rfl, hmc, hnn1, hnn, hng, hjn, HSL, HRR, HB⟩ := hrel
        clear HS2 HB2 HR
        have hP : P.length = m := HSL.out.ln
        by_cases hlt : 1 < n
        · have hltz : (1 : Int) < (n : Int) := by omega
          have KB := Lib.hid (fun w => beside_any j w (by omega))
          have KA := Lib.hid (fun w => above_any j w (by omega))
          have KI2 := Lib.hid (fun w => index_any ((bsI j : Nat) : Int) (n : Int) w)
          have KN := Lib.hid (fun w => width_any n w (by omega))
          by_cases hbs : bsI j < n
          · rw [isI_true (by omega) (by omega)] at KI2
            rcases P with _ | ⟨y, P⟩
            · obtain rfl : m = 0 := by simpa using hP.symm
              have E : Hid (R = false) := by show _ = _; rw [HRR.out, ckV_no hlt hbs]; rfl
              generalize bsI j = m at *
              go_wp2_with fail
              refine (KB.out _).mono ?_
              rintro _ w3 ⟨rfl, rfl⟩
              go_wp2_with fail
              refine (KI2.out _).mono ?_
              rintro _ w3 ⟨rfl, rfl⟩
              go_wp2
              go_ret
              exact ⟨ret_bool E.out.symm, HB.out⟩
            · have hm0 : 0 < m := by rw [List.length_cons] at hP; omega
              have hmz : decide ((m : Int) = 0) = false := decide_eq_false (by omega)
              have hmz0 : (0 : Int) < (m : Int) := by omega
              have hp1 := HSL.out.ptr hm0
              have c1 := HSL.out.cells 0 (by simp)
              rw [List.getElem_cons_zero] at c1
              unfold u64v at c1
              rw [Nat.add_zero] at c1
              have KJ := Lib.hid (fun w => join_any j x y w (by omega))
              have HR2 : Hid (R = decide (ckV (jnV j x y) (j / 2) ((n + 1) / 2) P = some r)) := by show _ = _; rw [HRR.out, ckV_jn hlt hbs]
              have HT := Lib.hid (SlF.tail HSL.out hmc)
              obtain ⟨N, hN⟩ : ∃ N, N = (n + 1) / 2 := ⟨_, rfl⟩
              rw [← hN] at KN HR2
              have hN1 : 1 ≤ N := by omega
              have hN2 : N < n := by omega
              obtain ⟨j2, hj2⟩ : ∃ N, N = j / 2 := ⟨_, rfl⟩
              rw [← hj2] at KA HR2
              have hj2N : j2 < N := by omega
              have hc1 : 1 ≤ c := by omega
              clear hN hj2
              generalize bsI j = m1 at *
              generalize jnV j x y = z at *
              subst hp1
              go_wp2_with fail
              refine (KB.out _).mono ?_
              rintro _ w3 ⟨rfl, rfl⟩
              go_wp2_with fail
              refine (KI2.out _).mono ?_
              rintro _ w3 ⟨rfl, rfl⟩
              go_wp2_with fail
              refine (KJ.out _).mono ?_
              rintro _ w4 ⟨rfl, hb4⟩
              have HB4 := Lib.hid (HB.out.trans (hb4.mono HB.out.size))
              have HT4 := Lib.hid (HT.out.bel hb4)
              clear hb4
              by_cases hc2 : c = 1
              · have HT5 := HT4.out
                rw [if_pos hc2] at HT5
                have HT5 := Lib.hid HT5
                go_wp2_with fail
                refine (KA.out _).mono ?_
                rintro _ w5 ⟨rfl, rfl⟩
                go_wp2_with fail
                refine (KN.out _).mono ?_
                rintro _ w5 ⟨rfl, rfl⟩
                go_wp2
                go_roundg N
                case measure => omega
                case rel => exact ⟨j2, N, z, m - 1, 0, o + 1, _, P, rfl, rfl, rfl, rfl, by omega, hN1, by omega, Nat.le_refl _, hj2N, HT5.out, HR2.out, HB4.out⟩
              · have HT5 := HT4.out
                rw [if_neg hc2] at HT5
                have HT5 := Lib.hid HT5
                go_wp2_with fail
                refine (KA.out _).mono ?_
                rintro _ w5 ⟨rfl, rfl⟩
                go_wp2_with fail
                refine (KN.out _).mono ?_
                rintro _ w5 ⟨rfl, rfl⟩
                go_wp2
                go_roundg N
                case measure => omega
                case rel => exact ⟨j2, N, z, m - 1, c - 1, o + 1, _, P, rfl, rfl, rfl, rfl, by omega, hN1, by omega, Nat.le_refl _, hj2N, HT5.out, HR2.out, HB4.out⟩
          · have HR2 : Hid (R = decide (ckV x (j / 2) ((n + 1) / 2) P = some r)) := by show _ = _; rw [HRR.out, ckV_sk hlt hjn hbs]
            rw [isI_false (by omega)] at KI2
            obtain ⟨N, hN⟩ : ∃ N, N = (n + 1) / 2 := ⟨_, rfl⟩
            rw [← hN] at KN HR2
            have hN1 : 1 ≤ N := by omega
            have hN2 : N < n := by omega
            obtain ⟨j2, hj2⟩ : ∃ N, N = j / 2 := ⟨_, rfl⟩
            rw [← hj2] at KA HR2
            have hj2N : j2 < N := by omega
            clear hN hj2
            generalize bsI j = m1 at *
            go_wp2_with fail
            refine (KB.out _).mono ?_
            rintro _ w3 ⟨rfl, rfl⟩
            go_wp2_with fail
            refine (KI2.out _).mono ?_
            rintro _ w3 ⟨rfl, rfl⟩
            go_wp2_with fail
            refine (KA.out _).mono ?_
            rintro _ w5 ⟨rfl, rfl⟩
            go_wp2_with fail
            refine (KN.out _).mono ?_
            rintro _ w5 ⟨rfl, rfl⟩
            go_wp2
            go_roundg N
            case measure => omega
            case rel => exact ⟨j2, N, x, m, c, o, q, P, rfl, rfl, rfl, rfl, hmc, hN1, by omega, Nat.le_refl _, hj2N, HSL.out, HR2.out, HB.out⟩
        · obtain rfl : n = 1 := by omega
          have E := HRR.out
          rw [ckV_end, hP] at E
          have HE := Lib.hid E
          clear E
          by_cases hm0 : m = 0
          · subst hm0
            by_cases hx : x = r
            · subst hx
              have HE2 : Hid (R = true) := by show _ = _; rw [HE.out, decide_eq_true rfl, decide_eq_true rfl]; rfl
              go_wp2
              go_ret
              exact ⟨ret_bool (by rw [HE2.out]), HB.out⟩
            · have hxz : decide ((x : Int) = (r : Int)) = false := decide_eq_false (by omega)
              have HE2 : Hid (R = false) := by show _ = _; rw [HE.out, decide_eq_false hx]; simp
              have HXB : Hid (((x : Int) == (r : Int)) = false) := by show _ = _; rw [beq_eq_false_iff_ne]; omega
              go_wp2
              go_ret
              exact ⟨ret_bool (by rw [HE2.out]; exact HXB.out), HB.out⟩
          · have hmz : decide ((m : Int) = 0) = false := decide_eq_false (by omega)
            have HE2 : Hid (R = false) := by show _ = _; rw [HE.out, decide_eq_false hm0]; rfl
            clear HE
            go_wp2
            go_ret
            exact ⟨ret_bool (by rw [HE2.out]), HB.out⟩
  · have E : Hid (R = false) := by
      show _ = _
      rw [HR0.out]
      refine ck_out ?_
      unfold cE at h
      by_cases h1 : n < 1
      · exact .inl h1
      · rw [if_neg h1] at h
        by_cases h2 : 1024 < n
        · exact .inr (.inl h2)
        · rw [if_neg h2] at h; exact absurd rfl h
    generalize cE n = ce at *
    go_enter Tryd.func20, Tryd.ntmps20
    go_wp2_with fail
    refine (KC.out _).mono ?_
    rintro _ w1 ⟨rfl, rfl⟩
    go_wp2
    go_ret
    exact ⟨ret_bool E.out.symm, Below.refl _ _⟩
end Go.Proofs.YtlbaggljmbkfdaaDoor
