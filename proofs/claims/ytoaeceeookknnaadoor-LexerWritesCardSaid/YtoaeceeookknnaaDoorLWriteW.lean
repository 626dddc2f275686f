/-
  The contract of Write, and the law on writing: tokens that are written with blanks between them are read as the same tokens.
-/
import Derived.Test.YtoaeceeookknnaaDoorLWrM
namespace Go.Proofs.YtoaeceeookknnaaDoor
open Go.RowKit Lx

theorem digits_z (x : Int) (m : Nat) (hx : x = m) (hm : m ≤ 10000000000) (w : World) :
    Calls Tryd.prog 18 #[.int .i64 x] w fun e w' => e = .returned (.string (bs (Lib.decDigits m))) ∧ RowKit.Below w.heap.size w w' := by
  subst hx; exact digits_any m w hm
/-- The divisors of 100. -/
theorem div100 {d : Nat} (h1 : 1 ≤ d) (h2 : d ≤ 100) (h : 100 % d = 0) : d = 1 ∨ d = 2 ∨ d = 4 ∨ d = 5 ∨ d = 10 ∨ d = 20 ∨ d = 25 ∨ d = 50 ∨ d = 100 := by
  have : ∀ k : Fin 101, 1 ≤ k.val → 100 % k.val = 0 → k.val = 1 ∨ k.val = 2 ∨ k.val = 4 ∨ k.val = 5 ∨ k.val = 10 ∨ k.val = 20 ∨ k.val = 25 ∨ k.val = 50 ∨ k.val = 100 := by decide
  exact this ⟨d, by omega⟩ h1 h
def tkv (k a : Int) (tt : List UInt8) (n d : Int) : Value := .agg #[.int .i64 k, .int .i64 a, .string (bs tt), .int .i64 n, .int .i64 d]
set_option maxRecDepth 100000 in
set_option maxHeartbeats 1000000 in
theorem write_text (k a : Int) (tt : List UInt8) (n d : Int) (w : World) (hk : k ≠ 2) :
    Calls Tryd.prog 17 #[tkv k a tt n d] w fun e w' => e = .returned (.string (bs tt)) ∧ RowKit.Below w.heap.size w w' := by
  have e1 : (k != 2) = true := by simpa using hk
  unfold tkv
  clear hk
  go_enter Tryd.func17, Tryd.ntmps17
  go_wp2_with fail
  go_ret
  exact ⟨rfl, (Below.refl _ _).alloc (Nat.le_refl _) _⟩
set_option maxRecDepth 100000 in
set_option maxHeartbeats 1000000 in
theorem write_one (a : Int) (tt : List UInt8) (n : Nat) (w : World) (hn : n ≤ 1000000000) :
    Calls Tryd.prog 17 #[tkv 2 a tt n 1] w fun e w' => e = .returned (.string (bs (wrQ n 1))) ∧ RowKit.Below w.heap.size w w' := by
  have K := Lib.hid digits_z
  obtain ⟨R, hR⟩ : ∃ R, R = bs (wrQ n 1) := ⟨_, rfl⟩
  rw [← hR]
  have HR : Hid (bs (Lib.decDigits n) = R) := by show _ = _; rw [hR]; rfl
  unfold tkv
  clear hR
  go_enter Tryd.func17, Tryd.ntmps17
  go_wp2_with fail
  have B1 := Lib.hid ((Below.refl w.heap.size w).alloc (Nat.le_refl _) (.cells #[.int .i64 2, .int .i64 a, .string (bs tt), .int .i64 n, .int .i64 1] 32))
  refine (K.out _ n rfl (by omega) _).mono ?_
  rintro _ w2 ⟨rfl, h2⟩
  have B2 := Lib.hid (B1.out.trans (h2.mono B1.out.size))
  clear h2 B1
  go_wp2_with fail
  go_ret
  exact ⟨ret_str HR.out, B2.out⟩
set_option maxRecDepth 100000 in
set_option maxHeartbeats 2000000 in
theorem write_2n (a : Int) (tt : List UInt8) (n m : Nat) (w : World) (hn : n ≤ 1000000000) (hm : n * 50 = m) :
    Calls Tryd.prog 17 #[tkv 2 a tt n 2] w fun e w' => e = .returned (.string (bs (wrQ n 2))) ∧ RowKit.Below w.heap.size w w' := by
  have K := Lib.hid digits_z
  obtain ⟨R, hR⟩ : ∃ R, R = bs (wrQ n 2) := ⟨_, rfl⟩
  rw [← hR]
  have HR : Hid ((bs (Lib.decDigits (m / 100)) ++ ⟨#[46]⟩) ++ bs (Lib.decDigits (m / 10 % 10)) = R) := by
    show _ = _
    rw [hR, show (⟨#[46]⟩ : ByteArray) = bs [46] from rfl]
    unfold wrQ
    rw [if_neg (by decide), show 100 / 2 = 50 from rfl, hm, if_neg (by omega)]
    simp only [bs_app, List.append_assoc, List.cons_append, List.nil_append, List.append_nil]
  have e10 : decide ((0 : Int) < (n : Int) * 50 % 10) = false := decide_eq_false (by omega)
  have L1 := dec_len 9 (m / 100) (by decide)
  have z1 : (bs (Lib.decDigits (m / 100))).size ≤ 100 := by rw [bs_size]; have := dec_len 12 (m / 100) (by decide) (by omega); omega
  have z2 : (bs (Lib.decDigits (m / 10 % 10))).size ≤ 100 := by rw [bs_size]; have := dec_len 12 (m / 10 % 10) (by decide) (by omega); omega
  have HM := Lib.hid hm
  have EM : Hid ((n : Int) * 50 = (m : Int)) := by show _ = _; omega
  unfold tkv
  clear hR L1 hm
  go_enter Tryd.func17, Tryd.ntmps17
  go_wp2_with fail
  go_quiet (fail)
  rename Nat => nq
  have B1 := Lib.hid (below_drewN ((Below.refl w.heap.size w).alloc (Nat.le_refl _) (.cells #[.int .i64 2, .int .i64 a, .string (bs tt), .int .i64 n, .int .i64 2] 32)) nq)
  go_wp2_with fail
  refine (K.out _ (m / 100) (by first | (rw [EM.out]; omega) | (have := HM.out; omega)) (by have := HM.out; omega) _).mono ?_
  rintro _ w2 ⟨rfl, h2⟩
  have B2 := Lib.hid (B1.out.trans (h2.mono B1.out.size))
  clear h2 B1
  go_wp2_with fail
  refine (K.out _ (m / 10 % 10) (by first | (rw [EM.out]; omega) | (have := HM.out; omega)) (by have := HM.out; omega) _).mono ?_
  rintro _ w3 ⟨rfl, h3⟩
  have B3 := Lib.hid (B2.out.trans (h3.mono B2.out.size))
  clear h3 B2
  go_wp2_with fail
  go_ret
  exact ⟨ret_str HR.out, B3.out⟩
set_option maxRecDepth 100000 in
set_option maxHeartbeats 2000000 in
theorem write_4y (a : Int) (tt : List UInt8) (n m : Nat) (w : World) (hn : n ≤ 1000000000) (hm : n * 25 = m) (h10 : 0 < m % 10) :
    Calls Tryd.prog 17 #[tkv 2 a tt n 4] w fun e w' => e = .returned (.string (bs (wrQ n 4))) ∧ RowKit.Below w.heap.size w w' := by
  have K := Lib.hid digits_z
  obtain ⟨R, hR⟩ : ∃ R, R = bs (wrQ n 4) := ⟨_, rfl⟩
  rw [← hR]
  have HR : Hid ((bs (Lib.decDigits (m / 100)) ++ ⟨#[46]⟩) ++ bs (Lib.decDigits (m / 10 % 10)) ++ bs (Lib.decDigits (m % 10)) = R) := by
    show _ = _
    rw [hR, show (⟨#[46]⟩ : ByteArray) = bs [46] from rfl]
    unfold wrQ
    rw [if_neg (by decide), show 100 / 4 = 25 from rfl, hm, if_pos h10]
    simp only [bs_app, List.append_assoc, List.cons_append, List.nil_append]
  have e10 : decide ((0 : Int) < (n : Int) * 25 % 10) = true := decide_eq_true (by omega)
  have L1 := dec_len 9 (m / 100) (by decide)
  have z1 : (bs (Lib.decDigits (m / 100))).size ≤ 100 := by rw [bs_size]; have := dec_len 12 (m / 100) (by decide) (by omega); omega
  have z2 : (bs (Lib.decDigits (m / 10 % 10))).size ≤ 100 := by rw [bs_size]; have := dec_len 12 (m / 10 % 10) (by decide) (by omega); omega
  have z3 : (bs (Lib.decDigits (m % 10))).size ≤ 100 := by rw [bs_size]; have := dec_len 12 (m % 10) (by decide) (by omega); omega
  have HM := Lib.hid hm
  have EM : Hid ((n : Int) * 25 = (m : Int)) := by show _ = _; omega
  unfold tkv
  clear hR L1 hm
  go_enter Tryd.func17, Tryd.ntmps17
  go_wp2_with fail
  go_quiet (fail)
  rename Nat => nq
  have B1 := Lib.hid (below_drewN ((Below.refl w.heap.size w).alloc (Nat.le_refl _) (.cells #[.int .i64 2, .int .i64 a, .string (bs tt), .int .i64 n, .int .i64 4] 32)) nq)
  go_wp2_with fail
  refine (K.out _ (m / 100) (by first | (rw [EM.out]; omega) | (have := HM.out; omega)) (by have := HM.out; omega) _).mono ?_
  rintro _ w2 ⟨rfl, h2⟩
  have B2 := Lib.hid (B1.out.trans (h2.mono B1.out.size))
  clear h2 B1
  go_wp2_with fail
  refine (K.out _ (m / 10 % 10) (by first | (rw [EM.out]; omega) | (have := HM.out; omega)) (by have := HM.out; omega) _).mono ?_
  rintro _ w3 ⟨rfl, h3⟩
  have B3 := Lib.hid (B2.out.trans (h3.mono B2.out.size))
  clear h3 B2
  go_wp2_with fail
  refine (K.out _ (m % 10) (by first | (rw [EM.out]; omega) | (have := HM.out; omega)) (by have := HM.out; omega) _).mono ?_
  rintro _ w4 ⟨rfl, h4⟩
  have B4 := Lib.hid (B3.out.trans (h4.mono B3.out.size))
  clear h4 B3
  go_wp2_with fail
  go_ret
  exact ⟨ret_str HR.out, B4.out⟩
set_option maxRecDepth 100000 in
set_option maxHeartbeats 2000000 in
theorem write_4n (a : Int) (tt : List UInt8) (n m : Nat) (w : World) (hn : n ≤ 1000000000) (hm : n * 25 = m) (h10 : ¬ 0 < m % 10) :
    Calls Tryd.prog 17 #[tkv 2 a tt n 4] w fun e w' => e = .returned (.string (bs (wrQ n 4))) ∧ RowKit.Below w.heap.size w w' := by
  have K := Lib.hid digits_z
  obtain ⟨R, hR⟩ : ∃ R, R = bs (wrQ n 4) := ⟨_, rfl⟩
  rw [← hR]
  have HR : Hid ((bs (Lib.decDigits (m / 100)) ++ ⟨#[46]⟩) ++ bs (Lib.decDigits (m / 10 % 10)) = R) := by
    show _ = _
    rw [hR, show (⟨#[46]⟩ : ByteArray) = bs [46] from rfl]
    unfold wrQ
    rw [if_neg (by decide), show 100 / 4 = 25 from rfl, hm, if_neg (by omega)]
    simp only [bs_app, List.append_assoc, List.cons_append, List.nil_append, List.append_nil]
  have e10 : decide ((0 : Int) < (n : Int) * 25 % 10) = false := decide_eq_false (by omega)
  have L1 := dec_len 9 (m / 100) (by decide)
  have z1 : (bs (Lib.decDigits (m / 100))).size ≤ 100 := by rw [bs_size]; have := dec_len 12 (m / 100) (by decide) (by omega); omega
  have z2 : (bs (Lib.decDigits (m / 10 % 10))).size ≤ 100 := by rw [bs_size]; have := dec_len 12 (m / 10 % 10) (by decide) (by omega); omega
  have HM := Lib.hid hm
  have EM : Hid ((n : Int) * 25 = (m : Int)) := by show _ = _; omega
  unfold tkv
  clear hR L1 hm
  go_enter Tryd.func17, Tryd.ntmps17
  go_wp2_with fail
  go_quiet (fail)
  rename Nat => nq
  have B1 := Lib.hid (below_drewN ((Below.refl w.heap.size w).alloc (Nat.le_refl _) (.cells #[.int .i64 2, .int .i64 a, .string (bs tt), .int .i64 n, .int .i64 4] 32)) nq)
  go_wp2_with fail
  refine (K.out _ (m / 100) (by first | (rw [EM.out]; omega) | (have := HM.out; omega)) (by have := HM.out; omega) _).mono ?_
  rintro _ w2 ⟨rfl, h2⟩
  have B2 := Lib.hid (B1.out.trans (h2.mono B1.out.size))
  clear h2 B1
  go_wp2_with fail
  refine (K.out _ (m / 10 % 10) (by first | (rw [EM.out]; omega) | (have := HM.out; omega)) (by have := HM.out; omega) _).mono ?_
  rintro _ w3 ⟨rfl, h3⟩
  have B3 := Lib.hid (B2.out.trans (h3.mono B2.out.size))
  clear h3 B2
  go_wp2_with fail
  go_ret
  exact ⟨ret_str HR.out, B3.out⟩
set_option maxRecDepth 100000 in
set_option maxHeartbeats 2000000 in
theorem write_5n (a : Int) (tt : List UInt8) (n m : Nat) (w : World) (hn : n ≤ 1000000000) (hm : n * 20 = m) :
    Calls Tryd.prog 17 #[tkv 2 a tt n 5] w fun e w' => e = .returned (.string (bs (wrQ n 5))) ∧ RowKit.Below w.heap.size w w' := by
  have K := Lib.hid digits_z
  obtain ⟨R, hR⟩ : ∃ R, R = bs (wrQ n 5) := ⟨_, rfl⟩
  rw [← hR]
  have HR : Hid ((bs (Lib.decDigits (m / 100)) ++ ⟨#[46]⟩) ++ bs (Lib.decDigits (m / 10 % 10)) = R) := by
    show _ = _
    rw [hR, show (⟨#[46]⟩ : ByteArray) = bs [46] from rfl]
    unfold wrQ
    rw [if_neg (by decide), show 100 / 5 = 20 from rfl, hm, if_neg (by omega)]
    simp only [bs_app, List.append_assoc, List.cons_append, List.nil_append, List.append_nil]
  have e10 : decide ((0 : Int) < (n : Int) * 20 % 10) = false := decide_eq_false (by omega)
  have L1 := dec_len 9 (m / 100) (by decide)
  have z1 : (bs (Lib.decDigits (m / 100))).size ≤ 100 := by rw [bs_size]; have := dec_len 12 (m / 100) (by decide) (by omega); omega
  have z2 : (bs (Lib.decDigits (m / 10 % 10))).size ≤ 100 := by rw [bs_size]; have := dec_len 12 (m / 10 % 10) (by decide) (by omega); omega
  have HM := Lib.hid hm
  have EM : Hid ((n : Int) * 20 = (m : Int)) := by show _ = _; omega
  unfold tkv
  clear hR L1 hm
  go_enter Tryd.func17, Tryd.ntmps17
  go_wp2_with fail
  go_quiet (fail)
  rename Nat => nq
  have B1 := Lib.hid (below_drewN ((Below.refl w.heap.size w).alloc (Nat.le_refl _) (.cells #[.int .i64 2, .int .i64 a, .string (bs tt), .int .i64 n, .int .i64 5] 32)) nq)
  go_wp2_with fail
  refine (K.out _ (m / 100) (by first | (rw [EM.out]; omega) | (have := HM.out; omega)) (by have := HM.out; omega) _).mono ?_
  rintro _ w2 ⟨rfl, h2⟩
  have B2 := Lib.hid (B1.out.trans (h2.mono B1.out.size))
  clear h2 B1
  go_wp2_with fail
  refine (K.out _ (m / 10 % 10) (by first | (rw [EM.out]; omega) | (have := HM.out; omega)) (by have := HM.out; omega) _).mono ?_
  rintro _ w3 ⟨rfl, h3⟩
  have B3 := Lib.hid (B2.out.trans (h3.mono B2.out.size))
  clear h3 B2
  go_wp2_with fail
  go_ret
  exact ⟨ret_str HR.out, B3.out⟩
set_option maxRecDepth 100000 in
set_option maxHeartbeats 2000000 in
theorem write_10n (a : Int) (tt : List UInt8) (n m : Nat) (w : World) (hn : n ≤ 1000000000) (hm : n * 10 = m) :
    Calls Tryd.prog 17 #[tkv 2 a tt n 10] w fun e w' => e = .returned (.string (bs (wrQ n 10))) ∧ RowKit.Below w.heap.size w w' := by
  have K := Lib.hid digits_z
  obtain ⟨R, hR⟩ : ∃ R, R = bs (wrQ n 10) := ⟨_, rfl⟩
  rw [← hR]
  have HR : Hid ((bs (Lib.decDigits (m / 100)) ++ ⟨#[46]⟩) ++ bs (Lib.decDigits (m / 10 % 10)) = R) := by
    show _ = _
    rw [hR, show (⟨#[46]⟩ : ByteArray) = bs [46] from rfl]
    unfold wrQ
    rw [if_neg (by decide), show 100 / 10 = 10 from rfl, hm, if_neg (by omega)]
    simp only [bs_app, List.append_assoc, List.cons_append, List.nil_append, List.append_nil]
  have e10 : decide ((0 : Int) < (n : Int) * 10 % 10) = false := decide_eq_false (by omega)
  have L1 := dec_len 9 (m / 100) (by decide)
  have z1 : (bs (Lib.decDigits (m / 100))).size ≤ 100 := by rw [bs_size]; have := dec_len 12 (m / 100) (by decide) (by omega); omega
  have z2 : (bs (Lib.decDigits (m / 10 % 10))).size ≤ 100 := by rw [bs_size]; have := dec_len 12 (m / 10 % 10) (by decide) (by omega); omega
  have HM := Lib.hid hm
  have EM : Hid ((n : Int) * 10 = (m : Int)) := by show _ = _; omega
  unfold tkv
  clear hR L1 hm
  go_enter Tryd.func17, Tryd.ntmps17
  go_wp2_with fail
  go_quiet (fail)
  rename Nat => nq
  have B1 := Lib.hid (below_drewN ((Below.refl w.heap.size w).alloc (Nat.le_refl _) (.cells #[.int .i64 2, .int .i64 a, .string (bs tt), .int .i64 n, .int .i64 10] 32)) nq)
  go_wp2_with fail
  refine (K.out _ (m / 100) (by first | (rw [EM.out]; omega) | (have := HM.out; omega)) (by have := HM.out; omega) _).mono ?_
  rintro _ w2 ⟨rfl, h2⟩
  have B2 := Lib.hid (B1.out.trans (h2.mono B1.out.size))
  clear h2 B1
  go_wp2_with fail
  refine (K.out _ (m / 10 % 10) (by first | (rw [EM.out]; omega) | (have := HM.out; omega)) (by have := HM.out; omega) _).mono ?_
  rintro _ w3 ⟨rfl, h3⟩
  have B3 := Lib.hid (B2.out.trans (h3.mono B2.out.size))
  clear h3 B2
  go_wp2_with fail
  go_ret
  exact ⟨ret_str HR.out, B3.out⟩
set_option maxRecDepth 100000 in
set_option maxHeartbeats 2000000 in
theorem write_20y (a : Int) (tt : List UInt8) (n m : Nat) (w : World) (hn : n ≤ 1000000000) (hm : n * 5 = m) (h10 : 0 < m % 10) :
    Calls Tryd.prog 17 #[tkv 2 a tt n 20] w fun e w' => e = .returned (.string (bs (wrQ n 20))) ∧ RowKit.Below w.heap.size w w' := by
  have K := Lib.hid digits_z
  obtain ⟨R, hR⟩ : ∃ R, R = bs (wrQ n 20) := ⟨_, rfl⟩
  rw [← hR]
  have HR : Hid ((bs (Lib.decDigits (m / 100)) ++ ⟨#[46]⟩) ++ bs (Lib.decDigits (m / 10 % 10)) ++ bs (Lib.decDigits (m % 10)) = R) := by
    show _ = _
    rw [hR, show (⟨#[46]⟩ : ByteArray) = bs [46] from rfl]
    unfold wrQ
    rw [if_neg (by decide), show 100 / 20 = 5 from rfl, hm, if_pos h10]
    simp only [bs_app, List.append_assoc, List.cons_append, List.nil_append]
  have e10 : decide ((0 : Int) < (n : Int) * 5 % 10) = true := decide_eq_true (by omega)
  have L1 := dec_len 9 (m / 100) (by decide)
  have z1 : (bs (Lib.decDigits (m / 100))).size ≤ 100 := by rw [bs_size]; have := dec_len 12 (m / 100) (by decide) (by omega); omega
  have z2 : (bs (Lib.decDigits (m / 10 % 10))).size ≤ 100 := by rw [bs_size]; have := dec_len 12 (m / 10 % 10) (by decide) (by omega); omega
  have z3 : (bs (Lib.decDigits (m % 10))).size ≤ 100 := by rw [bs_size]; have := dec_len 12 (m % 10) (by decide) (by omega); omega
  have HM := Lib.hid hm
  have EM : Hid ((n : Int) * 5 = (m : Int)) := by show _ = _; omega
  unfold tkv
  clear hR L1 hm
  go_enter Tryd.func17, Tryd.ntmps17
  go_wp2_with fail
  go_quiet (fail)
  rename Nat => nq
  have B1 := Lib.hid (below_drewN ((Below.refl w.heap.size w).alloc (Nat.le_refl _) (.cells #[.int .i64 2, .int .i64 a, .string (bs tt), .int .i64 n, .int .i64 20] 32)) nq)
  go_wp2_with fail
  refine (K.out _ (m / 100) (by first | (rw [EM.out]; omega) | (have := HM.out; omega)) (by have := HM.out; omega) _).mono ?_
  rintro _ w2 ⟨rfl, h2⟩
  have B2 := Lib.hid (B1.out.trans (h2.mono B1.out.size))
  clear h2 B1
  go_wp2_with fail
  refine (K.out _ (m / 10 % 10) (by first | (rw [EM.out]; omega) | (have := HM.out; omega)) (by have := HM.out; omega) _).mono ?_
  rintro _ w3 ⟨rfl, h3⟩
  have B3 := Lib.hid (B2.out.trans (h3.mono B2.out.size))
  clear h3 B2
  go_wp2_with fail
  refine (K.out _ (m % 10) (by first | (rw [EM.out]; omega) | (have := HM.out; omega)) (by have := HM.out; omega) _).mono ?_
  rintro _ w4 ⟨rfl, h4⟩
  have B4 := Lib.hid (B3.out.trans (h4.mono B3.out.size))
  clear h4 B3
  go_wp2_with fail
  go_ret
  exact ⟨ret_str HR.out, B4.out⟩
set_option maxRecDepth 100000 in
set_option maxHeartbeats 2000000 in
theorem write_20n (a : Int) (tt : List UInt8) (n m : Nat) (w : World) (hn : n ≤ 1000000000) (hm : n * 5 = m) (h10 : ¬ 0 < m % 10) :
    Calls Tryd.prog 17 #[tkv 2 a tt n 20] w fun e w' => e = .returned (.string (bs (wrQ n 20))) ∧ RowKit.Below w.heap.size w w' := by
  have K := Lib.hid digits_z
  obtain ⟨R, hR⟩ : ∃ R, R = bs (wrQ n 20) := ⟨_, rfl⟩
  rw [← hR]
  have HR : Hid ((bs (Lib.decDigits (m / 100)) ++ ⟨#[46]⟩) ++ bs (Lib.decDigits (m / 10 % 10)) = R) := by
    show _ = _
    rw [hR, show (⟨#[46]⟩ : ByteArray) = bs [46] from rfl]
    unfold wrQ
    rw [if_neg (by decide), show 100 / 20 = 5 from rfl, hm, if_neg (by omega)]
    simp only [bs_app, List.append_assoc, List.cons_append, List.nil_append, List.append_nil]
  have e10 : decide ((0 : Int) < (n : Int) * 5 % 10) = false := decide_eq_false (by omega)
  have L1 := dec_len 9 (m / 100) (by decide)
  have z1 : (bs (Lib.decDigits (m / 100))).size ≤ 100 := by rw [bs_size]; have := dec_len 12 (m / 100) (by decide) (by omega); omega
  have z2 : (bs (Lib.decDigits (m / 10 % 10))).size ≤ 100 := by rw [bs_size]; have := dec_len 12 (m / 10 % 10) (by decide) (by omega); omega
  have HM := Lib.hid hm
  have EM : Hid ((n : Int) * 5 = (m : Int)) := by show _ = _; omega
  unfold tkv
  clear hR L1 hm
  go_enter Tryd.func17, Tryd.ntmps17
  go_wp2_with fail
  go_quiet (fail)
  rename Nat => nq
  have B1 := Lib.hid (below_drewN ((Below.refl w.heap.size w).alloc (Nat.le_refl _) (.cells #[.int .i64 2, .int .i64 a, .string (bs tt), .int .i64 n, .int .i64 20] 32)) nq)
  go_wp2_with fail
  refine (K.out _ (m / 100) (by first | (rw [EM.out]; omega) | (have := HM.out; omega)) (by have := HM.out; omega) _).mono ?_
  rintro _ w2 ⟨rfl, h2⟩
  have B2 := Lib.hid (B1.out.trans (h2.mono B1.out.size))
  clear h2 B1
  go_wp2_with fail
  refine (K.out _ (m / 10 % 10) (by first | (rw [EM.out]; omega) | (have := HM.out; omega)) (by have := HM.out; omega) _).mono ?_
  rintro _ w3 ⟨rfl, h3⟩
  have B3 := Lib.hid (B2.out.trans (h3.mono B2.out.size))
  clear h3 B2
  go_wp2_with fail
  go_ret
  exact ⟨ret_str HR.out, B3.out⟩
set_option maxRecDepth 100000 in
set_option maxHeartbeats 2000000 in
theorem write_25y (a : Int) (tt : List UInt8) (n m : Nat) (w : World) (hn : n ≤ 1000000000) (hm : n * 4 = m) (h10 : 0 < m % 10) :
    Calls Tryd.prog 17 #[tkv 2 a tt n 25] w fun e w' => e = .returned (.string (bs (wrQ n 25))) ∧ RowKit.Below w.heap.size w w' := by
  have K := Lib.hid digits_z
  obtain ⟨R, hR⟩ : ∃ R, R = bs (wrQ n 25) := ⟨_, rfl⟩
  rw [← hR]
  have HR : Hid ((bs (Lib.decDigits (m / 100)) ++ ⟨#[46]⟩) ++ bs (Lib.decDigits (m / 10 % 10)) ++ bs (Lib.decDigits (m % 10)) = R) := by
    show _ = _
    rw [hR, show (⟨#[46]⟩ : ByteArray) = bs [46] from rfl]
    unfold wrQ
    rw [if_neg (by decide), show 100 / 25 = 4 from rfl, hm, if_pos h10]
    simp only [bs_app, List.append_assoc, List.cons_append, List.nil_append]
  have e10 : decide ((0 : Int) < (n : Int) * 4 % 10) = true := decide_eq_true (by omega)
  have L1 := dec_len 9 (m / 100) (by decide)
  have z1 : (bs (Lib.decDigits (m / 100))).size ≤ 100 := by rw [bs_size]; have := dec_len 12 (m / 100) (by decide) (by omega); omega
  have z2 : (bs (Lib.decDigits (m / 10 % 10))).size ≤ 100 := by rw [bs_size]; have := dec_len 12 (m / 10 % 10) (by decide) (by omega); omega
  have z3 : (bs (Lib.decDigits (m % 10))).size ≤ 100 := by rw [bs_size]; have := dec_len 12 (m % 10) (by decide) (by omega); omega
  have HM := Lib.hid hm
  have EM : Hid ((n : Int) * 4 = (m : Int)) := by show _ = _; omega
  unfold tkv
  clear hR L1 hm
  go_enter Tryd.func17, Tryd.ntmps17
  go_wp2_with fail
  go_quiet (fail)
  rename Nat => nq
  have B1 := Lib.hid (below_drewN ((Below.refl w.heap.size w).alloc (Nat.le_refl _) (.cells #[.int .i64 2, .int .i64 a, .string (bs tt), .int .i64 n, .int .i64 25] 32)) nq)
  go_wp2_with fail
  refine (K.out _ (m / 100) (by first | (rw [EM.out]; omega) | (have := HM.out; omega)) (by have := HM.out; omega) _).mono ?_
  rintro _ w2 ⟨rfl, h2⟩
  have B2 := Lib.hid (B1.out.trans (h2.mono B1.out.size))
  clear h2 B1
  go_wp2_with fail
  refine (K.out _ (m / 10 % 10) (by first | (rw [EM.out]; omega) | (have := HM.out; omega)) (by have := HM.out; omega) _).mono ?_
  rintro _ w3 ⟨rfl, h3⟩
  have B3 := Lib.hid (B2.out.trans (h3.mono B2.out.size))
  clear h3 B2
  go_wp2_with fail
  refine (K.out _ (m % 10) (by first | (rw [EM.out]; omega) | (have := HM.out; omega)) (by have := HM.out; omega) _).mono ?_
  rintro _ w4 ⟨rfl, h4⟩
  have B4 := Lib.hid (B3.out.trans (h4.mono B3.out.size))
  clear h4 B3
  go_wp2_with fail
  go_ret
  exact ⟨ret_str HR.out, B4.out⟩
set_option maxRecDepth 100000 in
set_option maxHeartbeats 2000000 in
theorem write_25n (a : Int) (tt : List UInt8) (n m : Nat) (w : World) (hn : n ≤ 1000000000) (hm : n * 4 = m) (h10 : ¬ 0 < m % 10) :
    Calls Tryd.prog 17 #[tkv 2 a tt n 25] w fun e w' => e = .returned (.string (bs (wrQ n 25))) ∧ RowKit.Below w.heap.size w w' := by
  have K := Lib.hid digits_z
  obtain ⟨R, hR⟩ : ∃ R, R = bs (wrQ n 25) := ⟨_, rfl⟩
  rw [← hR]
  have HR : Hid ((bs (Lib.decDigits (m / 100)) ++ ⟨#[46]⟩) ++ bs (Lib.decDigits (m / 10 % 10)) = R) := by
    show _ = _
    rw [hR, show (⟨#[46]⟩ : ByteArray) = bs [46] from rfl]
    unfold wrQ
    rw [if_neg (by decide), show 100 / 25 = 4 from rfl, hm, if_neg (by omega)]
    simp only [bs_app, List.append_assoc, List.cons_append, List.nil_append, List.append_nil]
  have e10 : decide ((0 : Int) < (n : Int) * 4 % 10) = false := decide_eq_false (by omega)
  have L1 := dec_len 9 (m / 100) (by decide)
  have z1 : (bs (Lib.decDigits (m / 100))).size ≤ 100 := by rw [bs_size]; have := dec_len 12 (m / 100) (by decide) (by omega); omega
  have z2 : (bs (Lib.decDigits (m / 10 % 10))).size ≤ 100 := by rw [bs_size]; have := dec_len 12 (m / 10 % 10) (by decide) (by omega); omega
  have HM := Lib.hid hm
  have EM : Hid ((n : Int) * 4 = (m : Int)) := by show _ = _; omega
  unfold tkv
  clear hR L1 hm
  go_enter Tryd.func17, Tryd.ntmps17
  go_wp2_with fail
  go_quiet (fail)
  rename Nat => nq
  have B1 := Lib.hid (below_drewN ((Below.refl w.heap.size w).alloc (Nat.le_refl _) (.cells #[.int .i64 2, .int .i64 a, .string (bs tt), .int .i64 n, .int .i64 25] 32)) nq)
  go_wp2_with fail
  refine (K.out _ (m / 100) (by first | (rw [EM.out]; omega) | (have := HM.out; omega)) (by have := HM.out; omega) _).mono ?_
  rintro _ w2 ⟨rfl, h2⟩
  have B2 := Lib.hid (B1.out.trans (h2.mono B1.out.size))
  clear h2 B1
  go_wp2_with fail
  refine (K.out _ (m / 10 % 10) (by first | (rw [EM.out]; omega) | (have := HM.out; omega)) (by have := HM.out; omega) _).mono ?_
  rintro _ w3 ⟨rfl, h3⟩
  have B3 := Lib.hid (B2.out.trans (h3.mono B2.out.size))
  clear h3 B2
  go_wp2_with fail
  go_ret
  exact ⟨ret_str HR.out, B3.out⟩
set_option maxRecDepth 100000 in
set_option maxHeartbeats 2000000 in
theorem write_50y (a : Int) (tt : List UInt8) (n m : Nat) (w : World) (hn : n ≤ 1000000000) (hm : n * 2 = m) (h10 : 0 < m % 10) :
    Calls Tryd.prog 17 #[tkv 2 a tt n 50] w fun e w' => e = .returned (.string (bs (wrQ n 50))) ∧ RowKit.Below w.heap.size w w' := by
  have K := Lib.hid digits_z
  obtain ⟨R, hR⟩ : ∃ R, R = bs (wrQ n 50) := ⟨_, rfl⟩
  rw [← hR]
  have HR : Hid ((bs (Lib.decDigits (m / 100)) ++ ⟨#[46]⟩) ++ bs (Lib.decDigits (m / 10 % 10)) ++ bs (Lib.decDigits (m % 10)) = R) := by
    show _ = _
    rw [hR, show (⟨#[46]⟩ : ByteArray) = bs [46] from rfl]
    unfold wrQ
    rw [if_neg (by decide), show 100 / 50 = 2 from rfl, hm, if_pos h10]
    simp only [bs_app, List.append_assoc, List.cons_append, List.nil_append]
  have e10 : decide ((0 : Int) < (n : Int) * 2 % 10) = true := decide_eq_true (by omega)
  have L1 := dec_len 9 (m / 100) (by decide)
  have z1 : (bs (Lib.decDigits (m / 100))).size ≤ 100 := by rw [bs_size]; have := dec_len 12 (m / 100) (by decide) (by omega); omega
  have z2 : (bs (Lib.decDigits (m / 10 % 10))).size ≤ 100 := by rw [bs_size]; have := dec_len 12 (m / 10 % 10) (by decide) (by omega); omega
  have z3 : (bs (Lib.decDigits (m % 10))).size ≤ 100 := by rw [bs_size]; have := dec_len 12 (m % 10) (by decide) (by omega); omega
  have HM := Lib.hid hm
  have EM : Hid ((n : Int) * 2 = (m : Int)) := by show _ = _; omega
  unfold tkv
  clear hR L1 hm
  go_enter Tryd.func17, Tryd.ntmps17
  go_wp2_with fail
  go_quiet (fail)
  rename Nat => nq
  have B1 := Lib.hid (below_drewN ((Below.refl w.heap.size w).alloc (Nat.le_refl _) (.cells #[.int .i64 2, .int .i64 a, .string (bs tt), .int .i64 n, .int .i64 50] 32)) nq)
  go_wp2_with fail
  refine (K.out _ (m / 100) (by first | (rw [EM.out]; omega) | (have := HM.out; omega)) (by have := HM.out; omega) _).mono ?_
  rintro _ w2 ⟨rfl, h2⟩
  have B2 := Lib.hid (B1.out.trans (h2.mono B1.out.size))
  clear h2 B1
  go_wp2_with fail
  refine (K.out _ (m / 10 % 10) (by first | (rw [EM.out]; omega) | (have := HM.out; omega)) (by have := HM.out; omega) _).mono ?_
  rintro _ w3 ⟨rfl, h3⟩
  have B3 := Lib.hid (B2.out.trans (h3.mono B2.out.size))
  clear h3 B2
  go_wp2_with fail
  refine (K.out _ (m % 10) (by first | (rw [EM.out]; omega) | (have := HM.out; omega)) (by have := HM.out; omega) _).mono ?_
  rintro _ w4 ⟨rfl, h4⟩
  have B4 := Lib.hid (B3.out.trans (h4.mono B3.out.size))
  clear h4 B3
  go_wp2_with fail
  go_ret
  exact ⟨ret_str HR.out, B4.out⟩
set_option maxRecDepth 100000 in
set_option maxHeartbeats 2000000 in
theorem write_50n (a : Int) (tt : List UInt8) (n m : Nat) (w : World) (hn : n ≤ 1000000000) (hm : n * 2 = m) (h10 : ¬ 0 < m % 10) :
    Calls Tryd.prog 17 #[tkv 2 a tt n 50] w fun e w' => e = .returned (.string (bs (wrQ n 50))) ∧ RowKit.Below w.heap.size w w' := by
  have K := Lib.hid digits_z
  obtain ⟨R, hR⟩ : ∃ R, R = bs (wrQ n 50) := ⟨_, rfl⟩
  rw [← hR]
  have HR : Hid ((bs (Lib.decDigits (m / 100)) ++ ⟨#[46]⟩) ++ bs (Lib.decDigits (m / 10 % 10)) = R) := by
    show _ = _
    rw [hR, show (⟨#[46]⟩ : ByteArray) = bs [46] from rfl]
    unfold wrQ
    rw [if_neg (by decide), show 100 / 50 = 2 from rfl, hm, if_neg (by omega)]
    simp only [bs_app, List.append_assoc, List.cons_append, List.nil_append, List.append_nil]
  have e10 : decide ((0 : Int) < (n : Int) * 2 % 10) = false := decide_eq_false (by omega)
  have L1 := dec_len 9 (m / 100) (by decide)
  have z1 : (bs (Lib.decDigits (m / 100))).size ≤ 100 := by rw [bs_size]; have := dec_len 12 (m / 100) (by decide) (by omega); omega
  have z2 : (bs (Lib.decDigits (m / 10 % 10))).size ≤ 100 := by rw [bs_size]; have := dec_len 12 (m / 10 % 10) (by decide) (by omega); omega
  have HM := Lib.hid hm
  have EM : Hid ((n : Int) * 2 = (m : Int)) := by show _ = _; omega
  unfold tkv
  clear hR L1 hm
  go_enter Tryd.func17, Tryd.ntmps17
  go_wp2_with fail
  go_quiet (fail)
  rename Nat => nq
  have B1 := Lib.hid (below_drewN ((Below.refl w.heap.size w).alloc (Nat.le_refl _) (.cells #[.int .i64 2, .int .i64 a, .string (bs tt), .int .i64 n, .int .i64 50] 32)) nq)
  go_wp2_with fail
  refine (K.out _ (m / 100) (by first | (rw [EM.out]; omega) | (have := HM.out; omega)) (by have := HM.out; omega) _).mono ?_
  rintro _ w2 ⟨rfl, h2⟩
  have B2 := Lib.hid (B1.out.trans (h2.mono B1.out.size))
  clear h2 B1
  go_wp2_with fail
  refine (K.out _ (m / 10 % 10) (by first | (rw [EM.out]; omega) | (have := HM.out; omega)) (by have := HM.out; omega) _).mono ?_
  rintro _ w3 ⟨rfl, h3⟩
  have B3 := Lib.hid (B2.out.trans (h3.mono B2.out.size))
  clear h3 B2
  go_wp2_with fail
  go_ret
  exact ⟨ret_str HR.out, B3.out⟩
set_option maxRecDepth 100000 in
set_option maxHeartbeats 2000000 in
theorem write_100y (a : Int) (tt : List UInt8) (n m : Nat) (w : World) (hn : n ≤ 1000000000) (hm : n * 1 = m) (h10 : 0 < m % 10) :
    Calls Tryd.prog 17 #[tkv 2 a tt n 100] w fun e w' => e = .returned (.string (bs (wrQ n 100))) ∧ RowKit.Below w.heap.size w w' := by
  have K := Lib.hid digits_z
  obtain ⟨R, hR⟩ : ∃ R, R = bs (wrQ n 100) := ⟨_, rfl⟩
  rw [← hR]
  have HR : Hid ((bs (Lib.decDigits (m / 100)) ++ ⟨#[46]⟩) ++ bs (Lib.decDigits (m / 10 % 10)) ++ bs (Lib.decDigits (m % 10)) = R) := by
    show _ = _
    rw [hR, show (⟨#[46]⟩ : ByteArray) = bs [46] from rfl]
    unfold wrQ
    rw [if_neg (by decide), show 100 / 100 = 1 from rfl, hm, if_pos h10]
    simp only [bs_app, List.append_assoc, List.cons_append, List.nil_append]
  have e10 : decide ((0 : Int) < (n : Int) % 10) = true := decide_eq_true (by omega)
  have L1 := dec_len 9 (m / 100) (by decide)
  have z1 : (bs (Lib.decDigits (m / 100))).size ≤ 100 := by rw [bs_size]; have := dec_len 12 (m / 100) (by decide) (by omega); omega
  have z2 : (bs (Lib.decDigits (m / 10 % 10))).size ≤ 100 := by rw [bs_size]; have := dec_len 12 (m / 10 % 10) (by decide) (by omega); omega
  have z3 : (bs (Lib.decDigits (m % 10))).size ≤ 100 := by rw [bs_size]; have := dec_len 12 (m % 10) (by decide) (by omega); omega
  have HM := Lib.hid hm
  have EM : Hid ((n : Int) = (m : Int)) := by show _ = _; omega
  unfold tkv
  clear hR L1 hm
  go_enter Tryd.func17, Tryd.ntmps17
  go_wp2_with fail
  go_quiet (fail)
  rename Nat => nq
  have B1 := Lib.hid (below_drewN ((Below.refl w.heap.size w).alloc (Nat.le_refl _) (.cells #[.int .i64 2, .int .i64 a, .string (bs tt), .int .i64 n, .int .i64 100] 32)) nq)
  go_wp2_with fail
  refine (K.out _ (m / 100) (by first | (rw [EM.out]; omega) | (have := HM.out; omega)) (by have := HM.out; omega) _).mono ?_
  rintro _ w2 ⟨rfl, h2⟩
  have B2 := Lib.hid (B1.out.trans (h2.mono B1.out.size))
  clear h2 B1
  go_wp2_with fail
  refine (K.out _ (m / 10 % 10) (by first | (rw [EM.out]; omega) | (have := HM.out; omega)) (by have := HM.out; omega) _).mono ?_
  rintro _ w3 ⟨rfl, h3⟩
  have B3 := Lib.hid (B2.out.trans (h3.mono B2.out.size))
  clear h3 B2
  go_wp2_with fail
  refine (K.out _ (m % 10) (by first | (rw [EM.out]; omega) | (have := HM.out; omega)) (by have := HM.out; omega) _).mono ?_
  rintro _ w4 ⟨rfl, h4⟩
  have B4 := Lib.hid (B3.out.trans (h4.mono B3.out.size))
  clear h4 B3
  go_wp2_with fail
  go_ret
  exact ⟨ret_str HR.out, B4.out⟩
set_option maxRecDepth 100000 in
set_option maxHeartbeats 2000000 in
theorem write_100n (a : Int) (tt : List UInt8) (n m : Nat) (w : World) (hn : n ≤ 1000000000) (hm : n * 1 = m) (h10 : ¬ 0 < m % 10) :
    Calls Tryd.prog 17 #[tkv 2 a tt n 100] w fun e w' => e = .returned (.string (bs (wrQ n 100))) ∧ RowKit.Below w.heap.size w w' := by
  have K := Lib.hid digits_z
  obtain ⟨R, hR⟩ : ∃ R, R = bs (wrQ n 100) := ⟨_, rfl⟩
  rw [← hR]
  have HR : Hid ((bs (Lib.decDigits (m / 100)) ++ ⟨#[46]⟩) ++ bs (Lib.decDigits (m / 10 % 10)) = R) := by
    show _ = _
    rw [hR, show (⟨#[46]⟩ : ByteArray) = bs [46] from rfl]
    unfold wrQ
    rw [if_neg (by decide), show 100 / 100 = 1 from rfl, hm, if_neg (by omega)]
    simp only [bs_app, List.append_assoc, List.cons_append, List.nil_append, List.append_nil]
  have e10 : decide ((0 : Int) < (n : Int) % 10) = false := decide_eq_false (by omega)
  have L1 := dec_len 9 (m / 100) (by decide)
  have z1 : (bs (Lib.decDigits (m / 100))).size ≤ 100 := by rw [bs_size]; have := dec_len 12 (m / 100) (by decide) (by omega); omega
  have z2 : (bs (Lib.decDigits (m / 10 % 10))).size ≤ 100 := by rw [bs_size]; have := dec_len 12 (m / 10 % 10) (by decide) (by omega); omega
  have HM := Lib.hid hm
  have EM : Hid ((n : Int) = (m : Int)) := by show _ = _; omega
  unfold tkv
  clear hR L1 hm
  go_enter Tryd.func17, Tryd.ntmps17
  go_wp2_with fail
  go_quiet (fail)
  rename Nat => nq
  have B1 := Lib.hid (below_drewN ((Below.refl w.heap.size w).alloc (Nat.le_refl _) (.cells #[.int .i64 2, .int .i64 a, .string (bs tt), .int .i64 n, .int .i64 100] 32)) nq)
  go_wp2_with fail
  refine (K.out _ (m / 100) (by first | (rw [EM.out]; omega) | (have := HM.out; omega)) (by have := HM.out; omega) _).mono ?_
  rintro _ w2 ⟨rfl, h2⟩
  have B2 := Lib.hid (B1.out.trans (h2.mono B1.out.size))
  clear h2 B1
  go_wp2_with fail
  refine (K.out _ (m / 10 % 10) (by first | (rw [EM.out]; omega) | (have := HM.out; omega)) (by have := HM.out; omega) _).mono ?_
  rintro _ w3 ⟨rfl, h3⟩
  have B3 := Lib.hid (B2.out.trans (h3.mono B2.out.size))
  clear h3 B2
  go_wp2_with fail
  go_ret
  exact ⟨ret_str HR.out, B3.out⟩
theorem write_any (t : Tok) (w : World) (h : Wok t) : Calls Tryd.prog 17 #[tokV t] w fun e w' => e = .returned (.string (bs (wr t))) ∧ RowKit.Below w.heap.size w w' := by
  obtain ⟨k, a, tt, N, D⟩ := t
  show Calls Tryd.prog 17 #[tkv k a tt N D] w fun e w' => _
  by_cases hk : k = 2
  · subst hk
    obtain ⟨h1, h2, h3, h4, h5⟩ := h rfl
    simp only at h1 h2 h3 h4 h5
    have e : wr ⟨2, a, tt, N, D⟩ = wrQ N.toNat D.toNat := rfl
    rw [e]
    obtain ⟨n, rfl⟩ : ∃ n : Nat, N = n := ⟨N.toNat, by omega⟩
    obtain ⟨d, rfl⟩ : ∃ d : Nat, D = d := ⟨D.toNat, by omega⟩
    rw [Int.toNat_natCast] at h5 ⊢
    rw [Int.toNat_natCast]
    rcases div100 (by omega) (by omega) h5 with rfl | rfl | rfl | rfl | rfl | rfl | rfl | rfl | rfl
    · exact write_one a tt n w (by omega)
    · exact write_2n a tt n _ w (by omega) rfl
    · by_cases h10 : 0 < n * 25 % 10
      · exact write_4y a tt n _ w (by omega) rfl h10
      · exact write_4n a tt n _ w (by omega) rfl h10
    · exact write_5n a tt n _ w (by omega) rfl
    · exact write_10n a tt n _ w (by omega) rfl
    · by_cases h10 : 0 < n * 5 % 10
      · exact write_20y a tt n _ w (by omega) rfl h10
      · exact write_20n a tt n _ w (by omega) rfl h10
    · by_cases h10 : 0 < n * 4 % 10
      · exact write_25y a tt n _ w (by omega) rfl h10
      · exact write_25n a tt n _ w (by omega) rfl h10
    · by_cases h10 : 0 < n * 2 % 10
      · exact write_50y a tt n _ w (by omega) rfl h10
      · exact write_50n a tt n _ w (by omega) rfl h10
    · by_cases h10 : 0 < n * 1 % 10
      · exact write_100y a tt n _ w (by omega) rfl h10
      · exact write_100n a tt n _ w (by omega) rfl h10
  · have e : wr ⟨k, a, tt, N, D⟩ = tt := by unfold wr; exact if_neg hk
    rw [e]
    exact write_text k a tt N D w hk
end Go.Proofs.YtoaeceeookknnaaDoor
