/-
  Contracts of the reference: Power, Member, base, Exponent, secret, form, Rest, Secret, Over, Element, Mul, Exp, Commit, Back.
-/
import Derived.Test.YtidhhndclkilnaaDoorDRefI
import Derived.Test.YtidhhndclkilnaaDoorGPow
namespace Go.Proofs.YtidhhndclkilnaaDoor
open Go.RowKit Dg Gr

theorem cast_mulmod (o b m : Nat) : ((o * b % m : Nat) : Int) = (o : Int) * (b : Int) % (m : Int) := by rw [Int.natCast_emod, Int.natCast_mul]
theorem mul_top {o b m : Nat} (ho : o < m) (hb : b < m) (hm : m < 2147483648) : o * b ≤ 4611686018427387904 := by
  have h1 : o * b ≤ 2147483648 * 2147483648 := Nat.mul_le_mul (by omega) (by omega)
  omega
set_option maxRecDepth 100000 in
set_option maxHeartbeats 1000000 in
theorem rpower_any (a x m : Nat) (w : World) (ha : a < m) (hm : 1 < m) (hm2 : m < 2147483648) (hx : x < 2147483648) :
    Calls Tryd.prog 29 #[.int .i64 a, .int .i64 x, .int .i64 m] w fun e w' => e = .returned (.int .i64 (pw a x m : Nat)) ∧ w' = w := by
  obtain ⟨R, hR⟩ : ∃ R, R = pw a x m := ⟨_, rfl⟩
  have H0 : Hid (1 * pw a x m % m = R) := by show _ = _; rw [lp_start, hR]
  rw [← hR]
  clear hR
  go_enter Tryd.func29, Tryd.ntmps29
  go_wp2_with fail
  go_loopg [0, 1, 7] x (fun g s0 s1 s7 wr => ∃ (b y o : Nat), s0 = .int .i64 b ∧ s1 = .int .i64 y ∧ s7 = .int .i64 o ∧ y ≤ g ∧ y ≤ x ∧ b < m ∧ o < m ∧ Hid (o * pw b y m % m = R) ∧ wr = w)
  case atStart => exact ⟨a, x, 1, rfl, rfl, rfl, Nat.le_refl _, Nat.le_refl _, ha, hm, H0, rfl⟩
  case round =>
    clear H0
    obtain ⟨b, y, o, rfl, rfl, rfl, hyg, hyx, hb, ho, H, rfl⟩ := hrel
    have hbb := mul_top hb hb hm2
    have hob := mul_top ho hb hm2
    have hbbz : (b : Int) * (b : Int) ≤ 4611686018427387904 := by rw [← Int.natCast_mul]; omega
    have hobz : (o : Int) * (b : Int) ≤ 4611686018427387904 := by rw [← Int.natCast_mul]; omega
    have hbb0 : 0 ≤ (b : Int) * (b : Int) := Int.mul_nonneg (by omega) (by omega)
    have hob0 : 0 ≤ (o : Int) * (b : Int) := Int.mul_nonneg (by omega) (by omega)
    have wbb : IntKind.i64.wrap ((b : Int) * (b : Int)) = (b : Int) * (b : Int) := IntWalk.i64_in _ (by omega)
    have wob : IntKind.i64.wrap ((o : Int) * (b : Int)) = (o : Int) * (b : Int) := IntWalk.i64_in _ (by omega)
    have hm0 : (m : Int) ≠ 0 := by omega
    by_cases hy : 0 < y
    · have hyz : (0 : Int) < (y : Int) := by omega
      have mbb : b * b % m < m := Nat.mod_lt _ (by omega)
      have mob : o * b % m < m := Nat.mod_lt _ (by omega)
      by_cases h2 : y % 2 = 1
      · have e2 : ((y : Int) % 2 == 1) = true := by simp; omega
        have HN : Hid ((o * b % m) * pw (b * b % m) (y / 2) m % m = R) := by show _ = _; rw [lp_odd h2]; exact H.out
        clear h2 hbb hob
        go_wp2_with fail
        go_roundg (y / 2)
        case measure => omega
        case rel => exact ⟨b * b % m, y / 2, o * b % m, by rw [cast_mulmod], by go_num, by rw [cast_mulmod], Nat.le_refl _, by omega, mbb, mob, HN, rfl⟩
      · have e2 : ((y : Int) % 2 == 1) = false := by simp; omega
        have HN : Hid (o * pw (b * b % m) (y / 2) m % m = R) := by show _ = _; rw [lp_even (by omega)]; exact H.out
        clear h2 hbb hob
        go_wp2_with fail
        go_roundg (y / 2)
        case measure => omega
        case rel => exact ⟨b * b % m, y / 2, o, by rw [cast_mulmod], by go_num, rfl, Nat.le_refl _, by omega, mbb, ho, HN, rfl⟩
    · have hyz : ¬ (0 : Int) < (y : Int) := by omega
      have hy0 : y = 0 := by omega
      have HE : Hid (o = R) := by have h := H.out; rw [hy0, lp_end ho hm] at h; exact h
      clear hy0 H
      go_wp2_with fail
      go_ret
      exact ⟨ret_i64 (by rw [HE.out]), rfl⟩
/-- Is an integer an element, one other than 1, an exponent, a secret? -/
noncomputable def memZ (a : Int) : Bool := decide (1 ≤ a) && decide (a < 2147483579) && decide (pw a.toNat 1073741789 2147483579 = 1)
noncomputable def basZ (a : Int) : Bool := memZ a && decide (a ≠ 1)
def expZ (x : Int) : Bool := decide (0 ≤ x) && decide (x < 1073741789)
def secZ (x : Int) : Bool := decide (1 ≤ x) && decide (x < 1073741789)
set_option maxRecDepth 100000 in
set_option maxHeartbeats 1000000 in
theorem rmember_any (a : Int) (w : World) : Calls Tryd.prog 15 #[.int .i64 a] w fun e w' => e = .returned (.bool (memZ a)) ∧ w' = w := by
  obtain ⟨R, hR⟩ : ∃ R, R = memZ a := ⟨_, rfl⟩
  rw [← hR]
  unfold memZ at hR
  by_cases h1 : 1 ≤ a
  · by_cases h2 : a < 2147483579
    · obtain ⟨n, rfl⟩ : ∃ n : Nat, a = n := ⟨a.toNat, by omega⟩
      have K := Lib.hid (rpower_any n 1073741789 2147483579 w (by omega) (by decide) (by decide) (by decide))
      rw [decide_eq_true h1, decide_eq_true h2, Int.toNat_natCast] at hR
      obtain ⟨q, hq⟩ : ∃ q, q = pw n 1073741789 2147483579 := ⟨_, rfl⟩
      rw [← hq] at K hR
      have e1 : ((q : Int) == 1) = R := by rw [hR]; by_cases h : q = 1 <;> simp [h] <;> omega
      clear hR hq
      go_enter Tryd.func15, Tryd.ntmps15
      go_wp2_with fail
      refine K.out.mono ?_
      rintro _ _ ⟨rfl, rfl⟩
      go_wp2_with fail
      go_ret
      exact ⟨rfl, rfl⟩
    · have HR : Hid (R = false) := by show _ = _; rw [hR]; simp [h2]
      clear hR
      go_enter Tryd.func15, Tryd.ntmps15
      go_wp2_with fail
      go_ret
      exact ⟨ret_bool HR.out.symm, rfl⟩
  · have HR : Hid (R = false) := by show _ = _; rw [hR]; simp [h1]
    clear hR
    go_enter Tryd.func15, Tryd.ntmps15
    go_wp2_with fail
    go_ret
    exact ⟨ret_bool HR.out.symm, rfl⟩
set_option maxRecDepth 100000 in
set_option maxHeartbeats 1000000 in
theorem rbase_any (a : Int) (w : World) : Calls Tryd.prog 40 #[.int .i64 a] w fun e w' => e = .returned (.bool (basZ a)) ∧ w' = w := by
  have K := Lib.hid (rmember_any a w)
  obtain ⟨R, hR⟩ : ∃ R, R = basZ a := ⟨_, rfl⟩
  rw [← hR]
  unfold basZ at hR
  generalize memZ a = b at *
  cases b
  · have HR : Hid (R = false) := by show _ = _; rw [hR]; rfl
    clear hR
    go_enter Tryd.func40, Tryd.ntmps40
    go_wp2_with fail
    refine K.out.mono ?_
    rintro _ _ ⟨rfl, rfl⟩
    go_wp2_with fail
    go_ret
    exact ⟨ret_bool HR.out.symm, rfl⟩
  · have e1 : (a != 1) = R := by rw [hR]; by_cases h : a = 1 <;> simp [h]
    clear hR
    go_enter Tryd.func40, Tryd.ntmps40
    go_wp2_with fail
    refine K.out.mono ?_
    rintro _ _ ⟨rfl, rfl⟩
    go_wp2_with fail
    go_ret
    exact ⟨rfl, rfl⟩
set_option maxRecDepth 100000 in
set_option maxHeartbeats 600000 in
theorem rexp_any (x : Int) (w : World) : Calls Tryd.prog 35 #[.int .i64 x] w fun e w' => e = .returned (.bool (expZ x)) ∧ w' = w := by
  obtain ⟨R, hR⟩ : ∃ R, R = expZ x := ⟨_, rfl⟩
  rw [← hR]
  unfold expZ at hR
  by_cases h1 : 0 ≤ x
  · by_cases h2 : x < 1073741789
    · have HR : Hid (R = true) := by show _ = _; rw [hR, decide_eq_true h1, decide_eq_true h2]; rfl
      clear hR
      go_enter Tryd.func35, Tryd.ntmps35
      go_wp2_with fail
      go_ret
      exact ⟨ret_bool HR.out.symm, rfl⟩
    · have HR : Hid (R = false) := by show _ = _; rw [hR, decide_eq_false h2, Bool.and_false]
      clear hR
      go_enter Tryd.func35, Tryd.ntmps35
      go_wp2_with fail
      go_ret
      exact ⟨ret_bool HR.out.symm, rfl⟩
  · have HR : Hid (R = false) := by show _ = _; rw [hR, decide_eq_false h1, Bool.false_and]
    clear hR
    go_enter Tryd.func35, Tryd.ntmps35
    go_wp2_with fail
    go_ret
    exact ⟨ret_bool HR.out.symm, rfl⟩
set_option maxRecDepth 100000 in
set_option maxHeartbeats 600000 in
theorem rsecret_any (x : Int) (w : World) : Calls Tryd.prog 44 #[.int .i64 x] w fun e w' => e = .returned (.bool (secZ x)) ∧ w' = w := by
  obtain ⟨R, hR⟩ : ∃ R, R = secZ x := ⟨_, rfl⟩
  rw [← hR]
  unfold secZ at hR
  by_cases h1 : 1 ≤ x
  · by_cases h2 : x < 1073741789
    · have HR : Hid (R = true) := by show _ = _; rw [hR, decide_eq_true h1, decide_eq_true h2]; rfl
      clear hR
      go_enter Tryd.func44, Tryd.ntmps44
      go_wp2_with fail
      go_ret
      exact ⟨ret_bool HR.out.symm, rfl⟩
    · have HR : Hid (R = false) := by show _ = _; rw [hR, decide_eq_false h2, Bool.and_false]
      clear hR
      go_enter Tryd.func44, Tryd.ntmps44
      go_wp2_with fail
      go_ret
      exact ⟨ret_bool HR.out.symm, rfl⟩
  · have HR : Hid (R = false) := by show _ = _; rw [hR, decide_eq_false h1, Bool.false_and]
    clear hR
    go_enter Tryd.func44, Tryd.ntmps44
    go_wp2_with fail
    go_ret
    exact ⟨ret_bool HR.out.symm, rfl⟩
theorem expZ_nat {x : Int} (h : expZ x = true) : ∃ n : Nat, x = n ∧ n < 1073741789 := by
  unfold expZ at h
  simp only [Bool.and_eq_true, decide_eq_true_eq] at h
  exact ⟨x.toNat, by omega, by omega⟩
theorem secZ_nat {x : Int} (h : secZ x = true) : ∃ n : Nat, x = n ∧ 1 ≤ n ∧ n < 1073741789 := by
  unfold secZ at h
  simp only [Bool.and_eq_true, decide_eq_true_eq] at h
  exact ⟨x.toNat, by omega, by omega, by omega⟩
theorem memZ_nat {a : Int} (h : memZ a = true) : ∃ n : Nat, a = n ∧ mem n := by
  unfold memZ at h
  simp only [Bool.and_eq_true, decide_eq_true_eq] at h
  exact ⟨a.toNat, by omega, by omega, by show a.toNat < 2147483579; omega, h.2⟩
theorem memZ_of {n : Nat} (h : mem n) : memZ n = true := by
  obtain ⟨h1, h2, h3⟩ := h
  have h2' : n < 2147483579 := h2
  unfold memZ
  rw [decide_eq_true (show (1 : Int) ≤ n by omega), decide_eq_true (show (n : Int) < 2147483579 by omega), Int.toNat_natCast, decide_eq_true (show pw n 1073741789 2147483579 = 1 from h3)]; rfl
/-- A struct of two numbers in a box. -/
structure Box2 (w : World) (b : Nat) (x y : Value) : Prop where
  c0 : w.cell? ⟨b, 0, none⟩ = some x
  c1 : w.cell? ⟨b, 1, none⟩ = some y
theorem Box2.new (w : World) (x y : Value) (T : Nat) : Box2 (w.alloc (.cells #[x, y] T)) w.heap.size x y := ⟨by simp, by simp⟩
set_option maxRecDepth 100000 in
set_option maxHeartbeats 600000 in
theorem rform_any (C S : Int) (w : World) : Calls Tryd.prog 49 #[.agg #[.int .i64 C, .int .i64 S]] w fun e w' => e = .returned (.bool (expZ C && expZ S)) ∧ RowKit.Below w.heap.size w w' := by
  have K1 := Lib.hid (rexp_any C)
  have K2 := Lib.hid (rexp_any S)
  have B := Lib.hid ((Below.refl w.heap.size w).alloc (Nat.le_refl _) (.cells #[.int .i64 C, .int .i64 S] 23))
  generalize expZ C = c at *
  generalize expZ S = s at *
  cases c <;> cases s
  all_goals
    go_enter Tryd.func49, Tryd.ntmps49
    go_wp2_with fail
    refine (K1.out _).mono ?_
    rintro _ _ ⟨rfl, rfl⟩
    go_wp2_with fail
    refine (K2.out _).mono ?_
    rintro _ _ ⟨rfl, rfl⟩
    go_wp2_with fail
    go_ret
    exact ⟨rfl, B.out⟩
set_option maxRecDepth 100000 in
set_option maxHeartbeats 1000000 in
theorem rrest_any (n : Int) (w : World) : Calls Tryd.prog 31 #[.int .i64 n] w fun e w' => e = .returned (.int .i64 (n % 1073741789)) ∧ w' = w := by
  have e : (Int.tmod n 1073741789 + 1073741789).tmod 1073741789 = n % 1073741789 := by
    have h2 := Int.tmod_lt_of_pos n (b := 1073741789) (by decide)
    have h3 := Int.lt_tmod_of_pos n (b := 1073741789) (by decide)
    have h4 := Int.mul_tdiv_add_tmod n 1073741789
    rw [Int.tmod_eq_emod_of_nonneg (by omega)]
    omega
  have hw : IntKind.i64.wrap (Int.tmod n 1073741789 + 1073741789) = Int.tmod n 1073741789 + 1073741789 := IntWalk.i64_in _ (by
    have h2 := Int.tmod_lt_of_pos n (b := 1073741789) (by decide)
    have h3 := Int.lt_tmod_of_pos n (b := 1073741789) (by decide)
    omega)
  have E := Lib.hid e
  clear e
  go_enter Tryd.func31, Tryd.ntmps31
  go_wp2_with fail
  go_ret
  exact ⟨ret_i64 E.out, rfl⟩
/-- A secret, an element that are made of any number. -/
def scrN (n : Nat) : Nat := 1 + n % 1073741788
theorem scr_lt (n : Nat) : 1 ≤ scrN n ∧ scrN n < 1073741789 := by unfold scrN; have := Nat.mod_lt n (show 0 < 1073741788 by decide); omega
set_option maxRecDepth 100000 in
set_option maxHeartbeats 600000 in
theorem rSecret_any (n : Nat) (w : World) (hn : n < 18446744073709551616) : Calls Tryd.prog 30 #[.int .u64 n] w fun e w' => e = .returned (.int .i64 (scrN n : Nat)) ∧ w' = w := by
  have e : (1 : Int) + ((n : Int) % 1073741788) = (scrN n : Nat) := by unfold scrN; omega
  have E := Lib.hid e
  clear e
  go_enter Tryd.func30, Tryd.ntmps30
  go_wp2_with fail
  go_ret
  exact ⟨ret_i64 E.out, rfl⟩
set_option maxRecDepth 100000 in
set_option maxHeartbeats 600000 in
theorem relem_any (n : Nat) (w : World) (hn : n < 18446744073709551616) : Calls Tryd.prog 28 #[.int .u64 n] w fun e w' => e = .returned (.int .i64 (pw 4 (n % 1073741789) 2147483579 : Nat)) ∧ w' = w := by
  have K := Lib.hid (rpower_any 4 (n % 1073741789) 2147483579 w (by decide) (by decide) (by decide) (by have := Nat.mod_lt n (show 0 < 1073741789 by decide); omega))
  generalize pw 4 (n % 1073741789) 2147483579 = R at *
  go_enter Tryd.func28, Tryd.ntmps28
  go_wp2_with fail
  refine K.out.mono ?_
  rintro _ _ ⟨rfl, rfl⟩
  go_wp2_with fail
  go_ret
  exact ⟨rfl, rfl⟩
set_option maxRecDepth 100000 in
set_option maxHeartbeats 600000 in
theorem rover_any (a b : Nat) (w : World) (ha : a < 1073741789) (hb : b < 1073741789) : Calls Tryd.prog 32 #[.int .i64 a, .int .i64 b] w fun e w' => e = .returned (.int .i64 (ovr a b : Nat)) ∧ w' = w := by
  have K := Lib.hid (rpower_any b 1073741787 1073741789 w hb (by decide) (by decide) (by decide))
  have hq : pw b 1073741787 1073741789 < 1073741789 := pw_lt (by decide) _ _
  have e : ((ovr a b : Nat) : Int) = (a : Int) * (pw b 1073741787 1073741789 : Nat) % 1073741789 := cast_mulmod a (pw b 1073741787 1073741789) 1073741789
  have E := Lib.hid e
  clear e
  generalize pw b 1073741787 1073741789 = q at *
  have hm := mul_top ha hq (by decide)
  have h1 : (a : Int) * (q : Int) ≤ 4611686018427387904 := by rw [← Int.natCast_mul]; omega
  have h0 : 0 ≤ (a : Int) * (q : Int) := Int.mul_nonneg (by omega) (by omega)
  have hw : IntKind.i64.wrap ((a : Int) * (q : Int)) = (a : Int) * (q : Int) := IntWalk.i64_in _ (by omega)
  clear hm
  go_enter Tryd.func32, Tryd.ntmps32
  go_wp2_with fail
  refine K.out.mono ?_
  rintro _ _ ⟨rfl, rfl⟩
  go_wp2_with fail
  go_ret
  exact ⟨ret_i64 E.out.symm, rfl⟩
/-- What Mul, Exp and Commit return. -/
noncomputable def mulR (a b : Int) : Int × Int := if memZ a = true ∧ memZ b = true then (a * b % 2147483579, 0) else (0, 1)
noncomputable def expR (a x : Int) : Int × Int := if memZ a = true ∧ expZ x = true then ((pw a.toNat x.toNat 2147483579 : Nat), 0) else (0, 1)
noncomputable def comR (h v r : Int) : Int × Int := if basZ h = true ∧ expZ v = true ∧ expZ r = true then ((pw 4 v.toNat 2147483579 * pw h.toNat r.toNat 2147483579 % 2147483579 : Nat), 0) else (0, 1)
theorem cast_and {a b : Bool} {x y : Int × Int} {p q : Int} (h : (if a = true ∧ b = true then x else y) = (p, q)) : (a = true ∧ b = true ∧ x = (p, q)) ∨ ((a && b) = false ∧ y = (p, q)) := by
  cases a <;> cases b <;> simp at h ⊢ <;> exact h
theorem pq_no {p q : Int} (h : ((0 : Int), (1 : Int)) = (p, q)) : p = 0 ∧ q = 1 := by simp at h; exact ⟨h.1.symm, h.2.symm⟩
theorem pq_ok {x p q : Int} (h : (x, (0 : Int)) = (p, q)) : p = x ∧ q = 0 := by simp at h; exact ⟨h.1.symm, h.2.symm⟩
set_option maxRecDepth 100000 in
set_option maxHeartbeats 1000000 in
theorem rmul_any (a b : Int) (w : World) : Calls Tryd.prog 13 #[.int .i64 a, .int .i64 b] w fun e w' => e = .returned (.tuple #[.int .i64 (mulR a b).1, .int .i64 (mulR a b).2]) ∧ w' = w := by
  have K1 := Lib.hid (rmember_any a)
  have K2 := Lib.hid (rmember_any b)
  obtain ⟨p, q, hR⟩ : ∃ p q, mulR a b = (p, q) := ⟨_, _, rfl⟩
  rw [hR]
  unfold mulR at hR
  rcases cast_and hR with ⟨h1, h2, h3⟩ | ⟨h1, h3⟩
  · obtain ⟨n, rfl, hn⟩ := memZ_nat h1
    obtain ⟨m, rfl, hm⟩ := memZ_nat h2
    obtain ⟨rfl, rfl⟩ := pq_ok h3
    rw [h1] at K1
    rw [h2] at K2
    have hnm := mul_top hn.2.1 hm.2.1 (by decide)
    have z1 : (n : Int) * (m : Int) ≤ 4611686018427387904 := by rw [← Int.natCast_mul]; omega
    have z0 : 0 ≤ (n : Int) * (m : Int) := Int.mul_nonneg (by omega) (by omega)
    have hw : IntKind.i64.wrap ((n : Int) * (m : Int)) = (n : Int) * (m : Int) := IntWalk.i64_in _ (by omega)
    clear hR h1 h2 h3 hnm hn hm
    go_enter Tryd.func13, Tryd.ntmps13
    go_wp2_with fail
    refine (K1.out _).mono ?_
    rintro _ _ ⟨rfl, rfl⟩
    go_wp2_with fail
    refine (K2.out _).mono ?_
    rintro _ _ ⟨rfl, rfl⟩
    go_wp2_with fail
    go_ret2
    exact ⟨rfl, rfl⟩
  · obtain ⟨rfl, rfl⟩ := pq_no h3
    clear h3 hR
    generalize memZ a = x at *
    generalize memZ b = y at *
    cases x <;> cases y
    all_goals first | (cases h1; done) | skip
    all_goals
      clear h1
      go_enter Tryd.func13, Tryd.ntmps13
      go_wp2_with fail
      refine (K1.out _).mono ?_
      rintro _ _ ⟨rfl, rfl⟩
      go_wp2_with fail
      refine (K2.out _).mono ?_
      rintro _ _ ⟨rfl, rfl⟩
      go_wp2_with fail
      go_ret2
      exact ⟨rfl, rfl⟩
set_option maxRecDepth 100000 in
set_option maxHeartbeats 1000000 in
theorem rExp_any (a b : Int) (w : World) : Calls Tryd.prog 17 #[.int .i64 a, .int .i64 b] w fun e w' => e = .returned (.tuple #[.int .i64 (expR a b).1, .int .i64 (expR a b).2]) ∧ w' = w := by
  have K1 := Lib.hid (rmember_any a)
  have K2 := Lib.hid (rexp_any b)
  obtain ⟨p, q, hR⟩ : ∃ p q, expR a b = (p, q) := ⟨_, _, rfl⟩
  rw [hR]
  unfold expR at hR
  rcases cast_and hR with ⟨h1, h2, h3⟩ | ⟨h1, h3⟩
  · obtain ⟨n, rfl, hn⟩ := memZ_nat h1
    obtain ⟨m, rfl, hm⟩ := expZ_nat h2
    obtain ⟨rfl, rfl⟩ := pq_ok h3
    rw [h1] at K1
    rw [h2] at K2
    rw [Int.toNat_natCast, Int.toNat_natCast]
    have KP := Lib.hid (fun w => rpower_any n m 2147483579 w hn.2.1 (by decide) (by decide) (by omega))
    clear hR h1 h2 h3 hn hm
    generalize pw n m 2147483579 = R at *
    go_enter Tryd.func17, Tryd.ntmps17
    go_wp2_with fail
    refine (K1.out _).mono ?_
    rintro _ _ ⟨rfl, rfl⟩
    go_wp2_with fail
    refine (K2.out _).mono ?_
    rintro _ _ ⟨rfl, rfl⟩
    go_wp2_with fail
    refine (KP.out _).mono ?_
    rintro _ _ ⟨rfl, rfl⟩
    go_wp2_with fail
    go_ret2
    exact ⟨rfl, rfl⟩
  · obtain ⟨rfl, rfl⟩ := pq_no h3
    clear h3 hR
    generalize memZ a = x at *
    generalize expZ b = y at *
    cases x <;> cases y
    all_goals first | (cases h1; done) | skip
    all_goals
      clear h1
      go_enter Tryd.func17, Tryd.ntmps17
      go_wp2_with fail
      refine (K1.out _).mono ?_
      rintro _ _ ⟨rfl, rfl⟩
      go_wp2_with fail
      refine (K2.out _).mono ?_
      rintro _ _ ⟨rfl, rfl⟩
      go_wp2_with fail
      go_ret2
      exact ⟨rfl, rfl⟩
theorem cast_and3 {a b c : Bool} {x y : Int × Int} {p q : Int} (h : (if a = true ∧ b = true ∧ c = true then x else y) = (p, q)) : (a = true ∧ b = true ∧ c = true ∧ x = (p, q)) ∨ ((a && b && c) = false ∧ y = (p, q)) := by
  cases a <;> cases b <;> cases c <;> simp at h ⊢ <;> exact h
theorem basZ_nat {a : Int} (h : basZ a = true) : ∃ n : Nat, a = n ∧ mem n ∧ n ≠ 1 := by
  unfold basZ at h
  rw [Bool.and_eq_true, decide_eq_true_eq] at h
  obtain ⟨n, rfl, hn⟩ := memZ_nat h.1
  exact ⟨n, rfl, hn, by omega⟩
set_option maxRecDepth 100000 in
set_option maxHeartbeats 1000000 in
theorem rcommit_any (a b c : Int) (w : World) : Calls Tryd.prog 19 #[.int .i64 a, .int .i64 b, .int .i64 c] w fun e w' => e = .returned (.tuple #[.int .i64 (comR a b c).1, .int .i64 (comR a b c).2]) ∧ w' = w := by
  have K1 := Lib.hid (rbase_any a)
  have K2 := Lib.hid (rexp_any b)
  have K3 := Lib.hid (rexp_any c)
  obtain ⟨p, q, hR⟩ : ∃ p q, comR a b c = (p, q) := ⟨_, _, rfl⟩
  rw [hR]
  unfold comR at hR
  rcases cast_and3 hR with ⟨h1, h2, h4, h3⟩ | ⟨h1, h3⟩
  · obtain ⟨n, rfl, hn, hn1⟩ := basZ_nat h1
    obtain ⟨m, rfl, hm⟩ := expZ_nat h2
    obtain ⟨k, rfl, hk⟩ := expZ_nat h4
    obtain ⟨rfl, rfl⟩ := pq_ok h3
    rw [h1] at K1
    rw [h2] at K2
    rw [h4] at K3
    rw [Int.toNat_natCast, Int.toNat_natCast, Int.toNat_natCast]
    have KP := Lib.hid (fun w => rpower_any 4 m 2147483579 w (by decide) (by decide) (by decide) (by omega))
    have KQ := Lib.hid (fun w => rpower_any n k 2147483579 w hn.2.1 (by decide) (by decide) (by omega))
    have l1 : pw 4 m 2147483579 < 2147483579 := pw_lt (by decide) _ _
    have l2 : pw n k 2147483579 < 2147483579 := pw_lt (by decide) _ _
    rw [cast_mulmod]
    generalize pw 4 m 2147483579 = x at *
    generalize pw n k 2147483579 = y at *
    have hnm := mul_top l1 l2 (by decide)
    have z1 : (x : Int) * (y : Int) ≤ 4611686018427387904 := by rw [← Int.natCast_mul]; omega
    have z0 : 0 ≤ (x : Int) * (y : Int) := Int.mul_nonneg (by omega) (by omega)
    have hw : IntKind.i64.wrap ((x : Int) * (y : Int)) = (x : Int) * (y : Int) := IntWalk.i64_in _ (by omega)
    clear hR h1 h2 h3 h4 hnm hn hn1 hm hk
    go_enter Tryd.func19, Tryd.ntmps19
    go_wp2_with fail
    refine (K1.out _).mono ?_
    rintro _ _ ⟨rfl, rfl⟩
    go_wp2_with fail
    refine (K2.out _).mono ?_
    rintro _ _ ⟨rfl, rfl⟩
    go_wp2_with fail
    refine (K3.out _).mono ?_
    rintro _ _ ⟨rfl, rfl⟩
    go_wp2_with fail
    refine (KP.out _).mono ?_
    rintro _ _ ⟨rfl, rfl⟩
    go_wp2_with fail
    refine (KQ.out _).mono ?_
    rintro _ _ ⟨rfl, rfl⟩
    go_wp2_with fail
    go_ret2
    exact ⟨rfl, rfl⟩
  · obtain ⟨rfl, rfl⟩ := pq_no h3
    clear h3 hR
    generalize basZ a = x at *
    generalize expZ b = y at *
    generalize expZ c = z at *
    cases x <;> cases y <;> cases z
    all_goals first | (cases h1; done) | skip
    all_goals
      clear h1
      go_enter Tryd.func19, Tryd.ntmps19
      go_wp2_with fail
      refine (K1.out _).mono ?_
      rintro _ _ ⟨rfl, rfl⟩
      go_wp2_with fail
      refine (K2.out _).mono ?_
      rintro _ _ ⟨rfl, rfl⟩
      go_wp2_with fail
      refine (K3.out _).mono ?_
      rintro _ _ ⟨rfl, rfl⟩
      go_wp2_with fail
      go_ret2
      exact ⟨rfl, rfl⟩
end Go.Proofs.YtidhhndclkilnaaDoor
