/-
  Contracts of the package: product, power (a loop with a closure that multiplies), isExponent, isSecret, Member, isBase, Mul, Exp, Commit.
-/
import Derived.Test.YtidhhndclkilnaaDoorGRef
namespace Go.Proofs.YtidhhndclkilnaaDoor
open Go.RowKit Dg Gr

set_option maxRecDepth 100000 in
set_option maxHeartbeats 600000 in
theorem gproduct_any (a b : Nat) (w : World) (ha : a < 2147483579) (hb : b < 2147483579) :
    Calls Tryd.prog 36 #[.int .i64 a, .int .i64 b] w fun e w' => e = .returned (.int .i64 (a * b % 2147483579 : Nat)) ∧ w' = w := by
  have hob := mul_top ha hb (by decide)
  have z1 : (a : Int) * (b : Int) ≤ 4611686018427387904 := by rw [← Int.natCast_mul]; omega
  have z0 : 0 ≤ (a : Int) * (b : Int) := Int.mul_nonneg (by omega) (by omega)
  have hw : IntKind.i64.wrap ((a : Int) * (b : Int)) = (a : Int) * (b : Int) := IntWalk.i64_in _ (by omega)
  have E : Hid ((a : Int) * (b : Int) % 2147483579 = ((a * b % 2147483579 : Nat) : Int)) := (cast_mulmod a b 2147483579).symm
  clear hob
  go_enter Tryd.func36, Tryd.ntmps36
  go_wp2_with fail
  go_ret
  exact ⟨ret_i64 E.out, rfl⟩
set_option maxRecDepth 100000 in
set_option maxHeartbeats 600000 in
theorem gtimes_any (n b : Nat) (g : Nat) (w : World) (hn : n < 2147483579) (hb : b < 2147483579) (c0 : w.cell? ⟨g, 0, none⟩ = some (.int .i64 b)) :
    Calls Tryd.prog 52 #[.int .i64 n, .pointer (some ⟨g, 0, none⟩)] w fun e w' => e = .returned (.int .i64 (n * b % 2147483579 : Nat)) ∧ w' = w := by
  have K := Lib.hid (fun w => gproduct_any n b w hn hb)
  generalize n * b % 2147483579 = R at *
  go_enter Tryd.func52, Tryd.ntmps52
  go_wp2_with fail
  refine (K.out _).mono ?_
  rintro _ _ ⟨rfl, rfl⟩
  go_wp2_with fail
  go_ret
  exact ⟨rfl, rfl⟩
set_option maxRecDepth 100000 in
set_option maxHeartbeats 2000000 in
theorem gpower_any (a x : Nat) (w : World) (ha : a < 2147483579) (hx : x < 2147483648) :
    Calls Tryd.prog 37 #[.int .i64 a, .int .i64 x] w fun e w' => e = .returned (.int .i64 (pw a x 2147483579 : Nat)) ∧ RowKit.Below w.heap.size w w' := by
  have hmf : ∀ (fn : Fn) (first cap : Array Value) (w : World), (Instr.makeFunc fn first cap).run Tryd.prog w = .ok (.func fn first cap) w := fun _ _ _ _ => rfl
  obtain ⟨R, hR⟩ : ∃ R, R = pw a x 2147483579 := ⟨_, rfl⟩
  have H0 : Hid (1 * pw a x 2147483579 % 2147483579 = R) := by show _ = _; rw [lp_start, hR]
  rw [← hR]
  clear hR
  have B1 := Lib.hid ((Below.refl w.heap.size w).alloc (Nat.le_refl _) (.cells #[.int .i64 a] 3))
  go_enter Tryd.func37, Tryd.ntmps37
  go_wp2_with fail
  go_loopg [1, 5] x (fun g s1 s5 wr => ∃ (b y o : Nat), s1 = .int .i64 y ∧ s5 = .int .i64 o ∧ y ≤ g ∧ y ≤ x ∧ b < 2147483579 ∧ o < 2147483579 ∧ Hid (o * pw b y 2147483579 % 2147483579 = R) ∧ Hid (wr.cell? ⟨w.heap.size, 0, none⟩ = some (.int .i64 b) ∧ wr.frozen? ⟨w.heap.size, 0, none⟩ = false ∧ RowKit.Below w.heap.size w wr))
  case atStart => exact ⟨a, x, 1, rfl, rfl, Nat.le_refl _, Nat.le_refl _, ha, by decide, H0, by simp, by simp, B1.out⟩
  case round =>
    clear H0
    obtain ⟨b, y, o, rfl, rfl, hyg, hyx, hb, ho, H, HC⟩ := hrel
    obtain ⟨c0, f0, hB⟩ := HC.out
    have HB := Lib.hid hB
    clear hB
    have KB := Lib.hid (fun w c0 => gtimes_any b b w.heap.size w hb hb c0)
    by_cases hy : 0 < y
    · have hyz : (0 : Int) < (y : Int) := by omega
      have mbb : b * b % 2147483579 < 2147483579 := Nat.mod_lt _ (by omega)
      have mob : o * b % 2147483579 < 2147483579 := Nat.mod_lt _ (by omega)
      have C2 : Hid ((wr.setCell ⟨w.heap.size, 0, none⟩ (.int .i64 (b * b % 2147483579 : Nat))).cell? ⟨w.heap.size, 0, none⟩ = some (.int .i64 (b * b % 2147483579 : Nat)) ∧ (wr.setCell ⟨w.heap.size, 0, none⟩ (.int .i64 (b * b % 2147483579 : Nat))).frozen? ⟨w.heap.size, 0, none⟩ = false ∧ RowKit.Below w.heap.size w (wr.setCell ⟨w.heap.size, 0, none⟩ (.int .i64 (b * b % 2147483579 : Nat)))) :=
        ⟨World.cell?_setCell_same _ _ _ c0, by rw [World.frozen?_setCell]; exact f0, HB.out.setCell (p := ⟨w.heap.size, 0, none⟩) (Nat.le_refl _) _⟩
      by_cases h2 : y % 2 = 1
      · have e2 : ((y : Int) % 2 == 1) = true := by simp; omega
        have HN : Hid ((o * b % 2147483579) * pw (b * b % 2147483579) (y / 2) 2147483579 % 2147483579 = R) := by show _ = _; rw [lp_odd h2]; exact H.out
        clear h2
        go_wp2_with fail
        refine (gtimes_any o b _ _ ho hb c0).mono ?_
        rintro _ w2 ⟨rfl, rfl⟩
        go_wp2_with fail
        refine (gtimes_any b b _ _ hb hb c0).mono ?_
        rintro _ w2 ⟨rfl, rfl⟩
        go_wp2_with fail
        go_roundg (y / 2)
        case measure => omega
        case rel => exact ⟨b * b % 2147483579, y / 2, o * b % 2147483579, by go_num, rfl, Nat.le_refl _, by omega, mbb, mob, HN, C2⟩
      · have e2 : ((y : Int) % 2 == 1) = false := by simp; omega
        have HN : Hid (o * pw (b * b % 2147483579) (y / 2) 2147483579 % 2147483579 = R) := by show _ = _; rw [lp_even (by omega)]; exact H.out
        clear h2
        go_wp2_with fail
        refine (gtimes_any b b _ _ hb hb c0).mono ?_
        rintro _ w2 ⟨rfl, rfl⟩
        go_wp2_with fail
        go_roundg (y / 2)
        case measure => omega
        case rel => exact ⟨b * b % 2147483579, y / 2, o, by go_num, rfl, Nat.le_refl _, by omega, mbb, ho, HN, C2⟩
    · have hyz : ¬ (0 : Int) < (y : Int) := by omega
      have hy0 : y = 0 := by omega
      have HE : Hid (o = R) := by have h := H.out; rw [hy0, lp_end ho (by decide)] at h; exact h
      clear hy0 H
      go_wp2_with fail
      go_ret
      exact ⟨ret_i64 (by rw [HE.out]), HB.out⟩
set_option maxRecDepth 100000 in
set_option maxHeartbeats 1000000 in
theorem gmember_any (a : Int) (w : World) : Calls Tryd.prog 14 #[.int .i64 a] w fun e w' => e = .returned (.bool (memZ a)) ∧ RowKit.Below w.heap.size w w' := by
  obtain ⟨R, hR⟩ : ∃ R, R = memZ a := ⟨_, rfl⟩
  rw [← hR]
  unfold memZ at hR
  by_cases h1 : 0 < a
  · by_cases h2 : a < 2147483579
    · obtain ⟨n, rfl⟩ : ∃ n : Nat, a = n := ⟨a.toNat, by omega⟩
      have K := Lib.hid (gpower_any n 1073741789 w (by omega) (by decide))
      rw [decide_eq_true (show (1 : Int) ≤ n by omega), decide_eq_true h2, Int.toNat_natCast] at hR
      obtain ⟨q, hq⟩ : ∃ q, q = pw n 1073741789 2147483579 := ⟨_, rfl⟩
      rw [← hq] at K hR
      have e1 : ((q : Int) == 1) = R := by rw [hR]; by_cases h : q = 1 <;> simp [h] <;> omega
      clear hR hq
      generalize hz : ((n : Nat) : Int) = z at *
      clear hz
      go_enter Tryd.func14, Tryd.ntmps14
      go_wp2_with fail
      refine K.out.mono ?_
      rintro _ w1 ⟨rfl, hb⟩
      have B1 := Lib.hid hb
      clear hb
      go_wp2_with fail
      go_ret
      exact ⟨rfl, B1.out⟩
    · have HR : Hid (R = false) := by show _ = _; rw [hR]; simp [h2]
      clear hR
      go_enter Tryd.func14, Tryd.ntmps14
      go_wp2_with fail
      go_ret
      exact ⟨ret_bool HR.out.symm, Below.refl _ _⟩
  · have HR : Hid (R = false) := by show _ = _; rw [hR, decide_eq_false (show ¬ (1 : Int) ≤ a by omega)]; rfl
    clear hR
    go_enter Tryd.func14, Tryd.ntmps14
    go_wp2_with fail
    go_ret
    exact ⟨ret_bool HR.out.symm, Below.refl _ _⟩
set_option maxRecDepth 100000 in
set_option maxHeartbeats 1000000 in
theorem gbase_any (a : Int) (w : World) : Calls Tryd.prog 39 #[.int .i64 a] w fun e w' => e = .returned (.bool (basZ a)) ∧ RowKit.Below w.heap.size w w' := by
  have K := Lib.hid (gmember_any a w)
  obtain ⟨R, hR⟩ : ∃ R, R = basZ a := ⟨_, rfl⟩
  rw [← hR]
  unfold basZ at hR
  by_cases h : a = 1
  · have HR : Hid (R = false) := by show _ = _; rw [hR, decide_eq_false (show ¬ a ≠ 1 by omega), Bool.and_false]
    have e1 : (a != 1) = false := by simp [h]
    clear hR
    go_enter Tryd.func39, Tryd.ntmps39
    go_wp2_with fail
    go_ret
    exact ⟨ret_bool HR.out.symm, Below.refl _ _⟩
  · have HR : Hid (R = memZ a) := by show _ = _; rw [hR, decide_eq_true (show a ≠ 1 from h), Bool.and_true]
    have e1 : (a != 1) = true := by simp [h]
    clear hR
    generalize memZ a = m at *
    go_enter Tryd.func39, Tryd.ntmps39
    go_wp2_with fail
    refine K.out.mono ?_
    rintro _ w1 ⟨rfl, hb⟩
    have B1 := Lib.hid hb
    clear hb
    go_wp2_with fail
    go_ret
    exact ⟨ret_bool HR.out.symm, B1.out⟩
set_option maxRecDepth 100000 in
set_option maxHeartbeats 600000 in
theorem gexpo_any (x : Int) (w : World) : Calls Tryd.prog 38 #[.int .i64 x] w fun e w' => e = .returned (.bool (expZ x)) ∧ w' = w := by
  obtain ⟨R, hR⟩ : ∃ R, R = expZ x := ⟨_, rfl⟩
  rw [← hR]
  unfold expZ at hR
  by_cases h1 : 0 ≤ x
  · by_cases h2 : x < 1073741789
    · have HR : Hid (R = true) := by show _ = _; rw [hR, decide_eq_true h1, decide_eq_true h2]; rfl
      clear hR
      go_enter Tryd.func38, Tryd.ntmps38
      go_wp2_with fail
      go_ret
      exact ⟨ret_bool HR.out.symm, rfl⟩
    · have HR : Hid (R = false) := by show _ = _; rw [hR, decide_eq_false h2, Bool.and_false]
      clear hR
      go_enter Tryd.func38, Tryd.ntmps38
      go_wp2_with fail
      go_ret
      exact ⟨ret_bool HR.out.symm, rfl⟩
  · have HR : Hid (R = false) := by show _ = _; rw [hR, decide_eq_false h1, Bool.false_and]
    clear hR
    go_enter Tryd.func38, Tryd.ntmps38
    go_wp2_with fail
    go_ret
    exact ⟨ret_bool HR.out.symm, rfl⟩
set_option maxRecDepth 100000 in
set_option maxHeartbeats 600000 in
theorem gsecret_any (x : Int) (w : World) : Calls Tryd.prog 41 #[.int .i64 x] w fun e w' => e = .returned (.bool (secZ x)) ∧ w' = w := by
  have K := Lib.hid (gexpo_any x w)
  obtain ⟨R, hR⟩ : ∃ R, R = secZ x := ⟨_, rfl⟩
  rw [← hR]
  unfold secZ at hR
  by_cases h : x = 0
  · have HR : Hid (R = false) := by show _ = _; rw [hR, decide_eq_false (show ¬ (1 : Int) ≤ x by omega), Bool.false_and]
    have e1 : (x != 0) = false := by simp [h]
    clear hR
    go_enter Tryd.func41, Tryd.ntmps41
    go_wp2_with fail
    go_ret
    exact ⟨ret_bool HR.out.symm, rfl⟩
  · have HR : Hid (R = expZ x) := by
      show _ = _; rw [hR]; unfold expZ
      by_cases h1 : 1 ≤ x
      · rw [decide_eq_true h1, decide_eq_true (show (0 : Int) ≤ x by omega)]
      · rw [decide_eq_false h1, decide_eq_false (show ¬ (0 : Int) ≤ x by omega)]
    have e1 : (x != 0) = true := by simp [h]
    clear hR
    generalize expZ x = m at *
    go_enter Tryd.func41, Tryd.ntmps41
    go_wp2_with fail
    refine K.out.mono ?_
    rintro _ _ ⟨rfl, rfl⟩
    go_wp2_with fail
    go_ret
    exact ⟨ret_bool HR.out.symm, rfl⟩
set_option maxRecDepth 100000 in
set_option maxHeartbeats 1000000 in
theorem gmul_any (a b : Int) (w : World) : Calls Tryd.prog 12 #[.int .i64 a, .int .i64 b] w fun e w' => e = .returned (.tuple #[.int .i64 (mulR a b).1, .int .i64 (mulR a b).2]) ∧ RowKit.Below w.heap.size w w' := by
  have K1 := Lib.hid (gmember_any a)
  have K2 := Lib.hid (gmember_any b)
  obtain ⟨p, q, hR⟩ : ∃ p q, mulR a b = (p, q) := ⟨_, _, rfl⟩
  rw [hR]
  unfold mulR at hR
  rcases cast_and hR with ⟨h1, h2, h3⟩ | ⟨h1, h3⟩
  · obtain ⟨n, rfl, hn⟩ := memZ_nat h1
    obtain ⟨m, rfl, hm⟩ := memZ_nat h2
    obtain ⟨rfl, rfl⟩ := pq_ok h3
    rw [h1] at K1
    rw [h2] at K2
    have K3 := Lib.hid (fun w => gproduct_any n m w hn.2.1 hm.2.1)
    rw [cast_mulmod] at K3
    clear hR h1 h2 h3 hn hm
    go_enter Tryd.func12, Tryd.ntmps12
    go_wp2_with fail
    refine (K1.out _).mono ?_
    rintro _ w1 ⟨rfl, hb1⟩
    have B1 := Lib.hid hb1
    clear hb1
    go_wp2_with fail
    refine (K2.out _).mono ?_
    rintro _ w2 ⟨rfl, hb2⟩
    have B2 := Lib.hid (B1.out.trans (hb2.mono B1.out.size))
    clear hb2
    go_wp2_with fail
    refine (K3.out _).mono ?_
    rintro _ _ ⟨rfl, rfl⟩
    go_wp2_with fail
    go_ret2
    exact ⟨rfl, B2.out⟩
  · obtain ⟨rfl, rfl⟩ := pq_no h3
    clear h3 hR
    generalize memZ a = x at *
    generalize memZ b = y at *
    cases x <;> cases y
    all_goals first | (cases h1; done) | skip
    · clear h1
      go_enter Tryd.func12, Tryd.ntmps12
      go_wp2_with fail
      refine (K1.out _).mono ?_
      rintro _ w1 ⟨rfl, hb1⟩
      have B1 := Lib.hid hb1
      clear hb1
      go_wp2_with fail
      go_ret2
      exact ⟨rfl, B1.out⟩
    · clear h1
      go_enter Tryd.func12, Tryd.ntmps12
      go_wp2_with fail
      refine (K1.out _).mono ?_
      rintro _ w1 ⟨rfl, hb1⟩
      have B1 := Lib.hid hb1
      clear hb1
      go_wp2_with fail
      go_ret2
      exact ⟨rfl, B1.out⟩
    · clear h1
      go_enter Tryd.func12, Tryd.ntmps12
      go_wp2_with fail
      refine (K1.out _).mono ?_
      rintro _ w1 ⟨rfl, hb1⟩
      have B1 := Lib.hid hb1
      clear hb1
      go_wp2_with fail
      refine (K2.out _).mono ?_
      rintro _ w2 ⟨rfl, hb2⟩
      have B2 := Lib.hid (B1.out.trans (hb2.mono B1.out.size))
      clear hb2
      go_wp2_with fail
      go_ret2
      exact ⟨rfl, B2.out⟩
set_option maxRecDepth 100000 in
set_option maxHeartbeats 1000000 in
theorem gexp_any (a b : Int) (w : World) : Calls Tryd.prog 16 #[.int .i64 a, .int .i64 b] w fun e w' => e = .returned (.tuple #[.int .i64 (expR a b).1, .int .i64 (expR a b).2]) ∧ RowKit.Below w.heap.size w w' := by
  have K1 := Lib.hid (gmember_any a)
  have K2 := Lib.hid (gexpo_any b)
  obtain ⟨p, q, hR⟩ : ∃ p q, expR a b = (p, q) := ⟨_, _, rfl⟩
  rw [hR]
  unfold expR at hR
  rcases cast_and hR with ⟨h1, h2, h3⟩ | ⟨h1, h3⟩
  · obtain ⟨n, rfl, hn⟩ := memZ_nat h1
    obtain ⟨m, rfl, hm⟩ := expZ_nat h2
    obtain ⟨rfl, rfl⟩ := pq_ok h3
    rw [h1] at K1
    rw [h2] at K2
    rw [Int.toNat_natCast, Int.toNat_natCast]
    have KP := Lib.hid (fun w => gpower_any n m w hn.2.1 (by omega))
    clear hR h1 h2 h3 hn hm
    generalize pw n m 2147483579 = R at *
    go_enter Tryd.func16, Tryd.ntmps16
    go_wp2_with fail
    refine (K1.out _).mono ?_
    rintro _ w1 ⟨rfl, hb1⟩
    have B1 := Lib.hid hb1
    clear hb1
    go_wp2_with fail
    refine (K2.out _).mono ?_
    rintro _ _ ⟨rfl, rfl⟩
    go_wp2_with fail
    refine (KP.out _).mono ?_
    rintro _ w2 ⟨rfl, hb2⟩
    have B2 := Lib.hid (B1.out.trans (hb2.mono B1.out.size))
    clear hb2
    go_wp2_with fail
    go_ret2
    exact ⟨rfl, B2.out⟩
  · obtain ⟨rfl, rfl⟩ := pq_no h3
    clear h3 hR
    generalize memZ a = x at *
    generalize expZ b = y at *
    cases x <;> cases y
    all_goals first | (cases h1; done) | skip
    · clear h1
      go_enter Tryd.func16, Tryd.ntmps16
      go_wp2_with fail
      refine (K1.out _).mono ?_
      rintro _ w1 ⟨rfl, hb1⟩
      have B1 := Lib.hid hb1
      clear hb1
      go_wp2_with fail
      go_ret2
      exact ⟨rfl, B1.out⟩
    · clear h1
      go_enter Tryd.func16, Tryd.ntmps16
      go_wp2_with fail
      refine (K1.out _).mono ?_
      rintro _ w1 ⟨rfl, hb1⟩
      have B1 := Lib.hid hb1
      clear hb1
      go_wp2_with fail
      go_ret2
      exact ⟨rfl, B1.out⟩
    · clear h1
      go_enter Tryd.func16, Tryd.ntmps16
      go_wp2_with fail
      refine (K1.out _).mono ?_
      rintro _ w1 ⟨rfl, hb1⟩
      have B1 := Lib.hid hb1
      clear hb1
      go_wp2_with fail
      refine (K2.out _).mono ?_
      rintro _ _ ⟨rfl, rfl⟩
      go_wp2_with fail
      go_ret2
      exact ⟨rfl, B1.out⟩
set_option maxRecDepth 100000 in
set_option maxHeartbeats 1000000 in
theorem gcommit_any (a b c : Int) (w : World) : Calls Tryd.prog 18 #[.int .i64 a, .int .i64 b, .int .i64 c] w fun e w' => e = .returned (.tuple #[.int .i64 (comR a b c).1, .int .i64 (comR a b c).2]) ∧ RowKit.Below w.heap.size w w' := by
  have K1 := Lib.hid (gbase_any a)
  have K2 := Lib.hid (gexpo_any b)
  have K3 := Lib.hid (gexpo_any c)
  obtain ⟨p, q, hR⟩ : ∃ p q, comR a b c = (p, q) := ⟨_, _, rfl⟩
  rw [hR]
  unfold comR at hR
  rcases cast_and3 hR with ⟨h1, h2, h4, h3⟩ | ⟨h1, h3⟩
  · obtain ⟨n, rfl, hn, hn1⟩ := basZ_nat h1
    obtain ⟨m, rfl, hm⟩ := expZ_nat h2
    obtain ⟨k, rfl, hk⟩ := expZ_nat h4
    obtain ⟨rfl, rfl⟩ := pq_ok h3
    rw [h1] at K1
    rw [h2] at K2
    rw [h4] at K3
    rw [Int.toNat_natCast, Int.toNat_natCast, Int.toNat_natCast]
    have KP := Lib.hid (fun w => gpower_any 4 m w (by decide) (by omega))
    have KQ := Lib.hid (fun w => gpower_any n k w hn.2.1 (by omega))
    have l1 : pw 4 m 2147483579 < 2147483579 := pw_lt (by decide) _ _
    have l2 : pw n k 2147483579 < 2147483579 := pw_lt (by decide) _ _
    generalize pw 4 m 2147483579 = x at *
    generalize pw n k 2147483579 = y at *
    have KR := Lib.hid (fun w => gproduct_any x y w l1 l2)
    generalize x * y % 2147483579 = z at *
    clear hR h1 h2 h3 h4 hn hn1 hm hk
    go_enter Tryd.func18, Tryd.ntmps18
    go_wp2_with fail
    refine (K1.out _).mono ?_
    rintro _ w1 ⟨rfl, hb1⟩
    have B1 := Lib.hid hb1
    clear hb1
    go_wp2_with fail
    refine (K2.out _).mono ?_
    rintro _ _ ⟨rfl, rfl⟩
    go_wp2_with fail
    refine (K3.out _).mono ?_
    rintro _ _ ⟨rfl, rfl⟩
    go_wp2_with fail
    refine (KP.out _).mono ?_
    rintro _ w2 ⟨rfl, hb2⟩
    have B2 := Lib.hid (B1.out.trans (hb2.mono B1.out.size))
    clear hb2
    go_wp2_with fail
    refine (KQ.out _).mono ?_
    rintro _ w3 ⟨rfl, hb3⟩
    have B3 := Lib.hid (B2.out.trans (hb3.mono B2.out.size))
    clear hb3
    go_wp2_with fail
    refine (KR.out _).mono ?_
    rintro _ _ ⟨rfl, rfl⟩
    go_wp2_with fail
    go_ret2
    exact ⟨rfl, B3.out⟩
  · obtain ⟨rfl, rfl⟩ := pq_no h3
    clear h3 hR
    generalize basZ a = x at *
    generalize expZ b = y at *
    generalize expZ c = z at *
    cases x <;> cases y <;> cases z
    all_goals first | (cases h1; done) | skip
    all_goals
      clear h1
      go_enter Tryd.func18, Tryd.ntmps18
      go_wp2_with fail
      refine (K1.out _).mono ?_
      rintro _ w1 ⟨rfl, hb1⟩
      have B1 := Lib.hid hb1
      clear hb1
      go_wp2_with fail
      repeat' (first | (go_ret2; exact ⟨rfl, B1.out⟩; done) | (refine (K2.out _).mono ?_; rintro _ _ ⟨rfl, rfl⟩; go_wp2_with fail) | (refine (K3.out _).mono ?_; rintro _ _ ⟨rfl, rfl⟩; go_wp2_with fail))
end Go.Proofs.YtidhhndclkilnaaDoor
