/-
  The law on products: products and powers are elements; exponents are added and multiplied.
-/
import Derived.Test.YtidhhndclkilnaaDoorGHead
namespace Go.Proofs.YtidhhndclkilnaaDoor
open Go.RowKit Dg Gr

theorem cast_addmod (x y : Nat) : ((x : Int) + (y : Int)) % 1073741789 = ((x + y) % 1073741789 : Nat) := by omega
theorem cast_mulQ (x y : Nat) : ((x : Int) * (y : Int)) % 1073741789 = (x * y % 1073741789 : Nat) := by rw [cast_mulmod]; rfl
set_option maxRecDepth 100000 in
set_option maxHeartbeats 3000000 in
theorem products_law (K : Con) (n m i k : Nat) (w : World) (hT : Tab w) (hn : n < 18446744073709551616) (hm : m < 18446744073709551616) (hi : i < 18446744073709551616) (hk : k < 18446744073709551616) :
    Calls Tryd.prog 4 #[.int .u64 n, .int .u64 m, .int .u64 i, .int .u64 k] w fun e w' => e = .returned (.bool true) ∧ RowKit.Below w.heap.size w w' := by
  have HD := Lib.hid (fun w hT => head_any K w hT)
  have HT := Lib.hid hT
  have E1 := Lib.hid (fun w => relem_any n w hn)
  have E2 := Lib.hid (fun w => relem_any m w hm)
  obtain ⟨a, ha⟩ : ∃ a, a = pw 4 (n % 1073741789) P := ⟨_, rfl⟩
  obtain ⟨b, hb⟩ : ∃ b, b = pw 4 (m % 1073741789) P := ⟨_, rfl⟩
  have ma : mem a := by rw [ha]; exact mem_pw four_Q _
  have mb : mem b := by rw [hb]; exact mem_pw four_Q _
  rw [show pw 4 (n % 1073741789) 2147483579 = a from ha.symm] at E1
  rw [show pw 4 (m % 1073741789) 2147483579 = b from hb.symm] at E2
  obtain ⟨x, hx⟩ : ∃ x, x = i % 1073741789 := ⟨_, rfl⟩
  obtain ⟨y, hy⟩ : ∃ y, y = k % 1073741789 := ⟨_, rfl⟩
  have zx : (i : Int) % 1073741789 = (x : Int) := by omega
  have zy : (k : Int) % 1073741789 = (y : Int) := by omega
  have lx : x < 1073741789 := by omega
  have ly : y < 1073741789 := by omega
  obtain ⟨ab, hab⟩ : ∃ r, r = a * b % P := ⟨_, rfl⟩
  obtain ⟨p, hp⟩ : ∃ r, r = pw a x P := ⟨_, rfl⟩
  obtain ⟨q, hq⟩ : ∃ r, r = pw a y P := ⟨_, rfl⟩
  obtain ⟨r, hr⟩ : ∃ r, r = pw a ((x + y) % 1073741789) P := ⟨_, rfl⟩
  obtain ⟨u, hu⟩ : ∃ r, r = pw a (x * y % 1073741789) P := ⟨_, rfl⟩
  have mab : mem ab := by rw [hab]; exact mem_mul ma mb
  have mp : mem p := by rw [hp]; exact mem_pw ma.2.2 _
  have mq : mem q := by rw [hq]; exact mem_pw ma.2.2 _
  have es : p * q % P = r := by rw [hp, hq, hr, ← pw_add]; exact pw_period ma.2.2 _
  have et : pw p y P = u := by rw [hp, hu, pw_pw]; exact pw_period ma.2.2 _
  have M1 : Hid (∀ w : World, Calls Tryd.prog 12 #[.int .i64 (a : Nat), .int .i64 (b : Nat)] w fun e w' => e = .returned (.tuple #[.int .i64 (ab : Nat), .int .i64 0]) ∧ RowKit.Below w.heap.size w w') := fun w => by
    have h := K.mul (a : Nat) (b : Nat) w
    rw [mul_ok ma mb, ← hab] at h
    exact h
  have M2 : Hid (∀ w : World, Calls Tryd.prog 12 #[.int .i64 (b : Nat), .int .i64 (a : Nat)] w fun e w' => e = .returned (.tuple #[.int .i64 (ab : Nat), .int .i64 0]) ∧ RowKit.Below w.heap.size w w') := fun w => by
    have h := K.mul (b : Nat) (a : Nat) w
    rw [mul_ok mb ma, Nat.mul_comm, ← hab] at h
    exact h
  have N1 : Hid (∀ w : World, Calls Tryd.prog 14 #[.int .i64 (ab : Nat)] w fun e w' => e = .returned (.bool true) ∧ RowKit.Below w.heap.size w w') := fun w => by
    have h := K.member (ab : Nat) w
    rw [memZ_of mab] at h
    exact h
  have X1 : Hid (∀ w : World, Calls Tryd.prog 16 #[.int .i64 (a : Nat), .int .i64 x] w fun e w' => e = .returned (.tuple #[.int .i64 (p : Nat), .int .i64 0]) ∧ RowKit.Below w.heap.size w w') := fun w => by
    have h := K.exp (a : Nat) (x : Nat) w
    rw [exp_ok ma lx, ← hp] at h
    exact h
  have X2 : Hid (∀ w : World, Calls Tryd.prog 16 #[.int .i64 (a : Nat), .int .i64 y] w fun e w' => e = .returned (.tuple #[.int .i64 (q : Nat), .int .i64 0]) ∧ RowKit.Below w.heap.size w w') := fun w => by
    have h := K.exp (a : Nat) (y : Nat) w
    rw [exp_ok ma ly, ← hq] at h
    exact h
  have X3 : Hid (∀ w : World, Calls Tryd.prog 16 #[.int .i64 (a : Nat), .int .i64 (((x : Int) + (y : Int)) % 1073741789)] w fun e w' => e = .returned (.tuple #[.int .i64 (r : Nat), .int .i64 0]) ∧ RowKit.Below w.heap.size w w') := fun w => by
    have h := K.exp (a : Nat) ((x + y) % 1073741789 : Nat) w
    rw [exp_ok ma (Nat.mod_lt _ (by decide)), ← hr, ← cast_addmod] at h
    exact h
  have N2 : Hid (∀ w : World, Calls Tryd.prog 14 #[.int .i64 (p : Nat)] w fun e w' => e = .returned (.bool true) ∧ RowKit.Below w.heap.size w w') := fun w => by
    have h := K.member (p : Nat) w
    rw [memZ_of mp] at h
    exact h
  have N3 : Hid (∀ w : World, Calls Tryd.prog 14 #[.int .i64 (q : Nat)] w fun e w' => e = .returned (.bool true) ∧ RowKit.Below w.heap.size w w') := fun w => by
    have h := K.member (q : Nat) w
    rw [memZ_of mq] at h
    exact h
  have M3 : Hid (∀ w : World, Calls Tryd.prog 12 #[.int .i64 (p : Nat), .int .i64 (q : Nat)] w fun e w' => e = .returned (.tuple #[.int .i64 (r : Nat), .int .i64 0]) ∧ RowKit.Below w.heap.size w w') := fun w => by
    have h := K.mul (p : Nat) (q : Nat) w
    rw [mul_ok mp mq, es] at h
    exact h
  have X4 : Hid (∀ w : World, Calls Tryd.prog 16 #[.int .i64 (p : Nat), .int .i64 y] w fun e w' => e = .returned (.tuple #[.int .i64 (u : Nat), .int .i64 0]) ∧ RowKit.Below w.heap.size w w') := fun w => by
    have h := K.exp (p : Nat) (y : Nat) w
    rw [exp_ok mp ly, et] at h
    exact h
  have X5 : Hid (∀ w : World, Calls Tryd.prog 16 #[.int .i64 (a : Nat), .int .i64 ((x : Int) * (y : Int) % 1073741789)] w fun e w' => e = .returned (.tuple #[.int .i64 (u : Nat), .int .i64 0]) ∧ RowKit.Below w.heap.size w w') := fun w => by
    have h := K.exp (a : Nat) (x * y % 1073741789 : Nat) w
    rw [exp_ok ma (Nat.mod_lt _ (by decide)), ← hu, ← cast_mulQ] at h
    exact h
  have z1 : (x : Int) * (y : Int) ≤ 4611686018427387904 := by
    have h1 : x * y ≤ 2147483648 * 2147483648 := Nat.mul_le_mul (by omega) (by omega)
    rw [← Int.natCast_mul]; omega
  have z0 : 0 ≤ (x : Int) * (y : Int) := Int.mul_nonneg (by omega) (by omega)
  have hw : IntKind.i64.wrap ((x : Int) * (y : Int)) = (x : Int) * (y : Int) := IntWalk.i64_in _ (by omega)
  clear ha hb hx hy hab hp hq hr hu mab mp mq es et ma mb K hT
  go_enter Tryd.func4, Tryd.ntmps4
  go_wp2_with fail
  refine (HD.out _ HT.out).mono ?_
  rintro _ w1 ⟨rfl, hb⟩
  have B1 := Lib.hid hb
  clear hb
  go_wp2_with fail
  refine (E1.out _).mono ?_
  rintro _ _ ⟨rfl, rfl⟩
  go_wp2_with fail
  refine (E2.out _).mono ?_
  rintro _ _ ⟨rfl, rfl⟩
  go_wp2_with fail
  refine (M1.out _).mono ?_
  rintro _ w2 ⟨rfl, hb⟩
  have B2 := Lib.hid (B1.out.trans (hb.mono B1.out.size))
  clear hb B1
  go_wp2_with fail
  refine (M2.out _).mono ?_
  rintro _ w3 ⟨rfl, hb⟩
  have B3 := Lib.hid (B2.out.trans (hb.mono B2.out.size))
  clear hb B2
  go_wp2_with fail
  refine (N1.out _).mono ?_
  rintro _ w4 ⟨rfl, hb⟩
  have B4 := Lib.hid (B3.out.trans (hb.mono B3.out.size))
  clear hb B3
  go_wp2_with fail
  refine (X1.out _).mono ?_
  rintro _ w5 ⟨rfl, hb⟩
  have B5 := Lib.hid (B4.out.trans (hb.mono B4.out.size))
  clear hb B4
  go_wp2_with fail
  refine (X2.out _).mono ?_
  rintro _ w6 ⟨rfl, hb⟩
  have B6 := Lib.hid (B5.out.trans (hb.mono B5.out.size))
  clear hb B5
  go_wp2_with fail
  refine (X3.out _).mono ?_
  rintro _ w7 ⟨rfl, hb⟩
  have B7 := Lib.hid (B6.out.trans (hb.mono B6.out.size))
  clear hb B6
  go_wp2_with fail
  refine (N2.out _).mono ?_
  rintro _ w8 ⟨rfl, hb⟩
  have B8 := Lib.hid (B7.out.trans (hb.mono B7.out.size))
  clear hb B7
  go_wp2_with fail
  refine (N3.out _).mono ?_
  rintro _ w9 ⟨rfl, hb⟩
  have B9 := Lib.hid (B8.out.trans (hb.mono B8.out.size))
  clear hb B8
  go_wp2_with fail
  refine (M3.out _).mono ?_
  rintro _ w10 ⟨rfl, hb⟩
  have B10 := Lib.hid (B9.out.trans (hb.mono B9.out.size))
  clear hb B9
  go_wp2_with fail
  refine (X4.out _).mono ?_
  rintro _ w11 ⟨rfl, hb⟩
  have B11 := Lib.hid (B10.out.trans (hb.mono B10.out.size))
  clear hb B10
  go_wp2_with fail
  refine (X5.out _).mono ?_
  rintro _ w12 ⟨rfl, hb⟩
  have B12 := Lib.hid (B11.out.trans (hb.mono B11.out.size))
  clear hb B11
  go_wp2_with fail
  go_ret
  exact ⟨rfl, B12.out⟩
end Go.Proofs.YtidhhndclkilnaaDoor
