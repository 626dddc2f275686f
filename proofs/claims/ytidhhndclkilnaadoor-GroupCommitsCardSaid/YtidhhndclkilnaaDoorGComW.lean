/-
  The law on commitments: the product of two is the commitment to the sum.
-/
import Derived.Test.YtidhhndclkilnaaDoorGProdW
namespace Go.Proofs.YtidhhndclkilnaaDoor
open Go.RowKit Dg Gr

set_option maxRecDepth 100000 in
set_option maxHeartbeats 3000000 in
theorem commits_law (K : Con) (n v v2 b b2 : Nat) (w : World) (hT : Tab w) (hn : n < 18446744073709551616) (hv : v < 18446744073709551616) (hv2 : v2 < 18446744073709551616) (hb : b < 18446744073709551616) (hb2 : b2 < 18446744073709551616) :
    Calls Tryd.prog 5 #[.int .u64 n, .int .u64 v, .int .u64 v2, .int .u64 b, .int .u64 b2] w fun e w' => e = .returned (.bool true) ∧ RowKit.Below w.heap.size w w' := by
  have HD := Lib.hid (fun w hT => head_any K w hT)
  have HT := Lib.hid hT
  have S1 := Lib.hid (fun w => rSecret_any n w hn)
  obtain ⟨k, hk⟩ : ∃ k, k = scrN n := ⟨_, rfl⟩
  have lk := scr_lt n
  rw [← hk] at S1 lk
  have E1 := Lib.hid (fun w => rpower_any 4 k 2147483579 w (by decide) (by decide) (by decide) (by omega))
  obtain ⟨h, hh⟩ : ∃ h, h = pw 4 k P := ⟨_, rfl⟩
  have mh : mem h ∧ h ≠ 1 := by rw [hh]; exact pub_ok lk.1 lk.2
  rw [show pw 4 k 2147483579 = h from hh.symm] at E1
  obtain ⟨x, hx⟩ : ∃ z, z = v % 1073741789 := ⟨_, rfl⟩
  have zx : (v : Int) % 1073741789 = (x : Int) := by omega
  have lx : x < 1073741789 := by omega
  obtain ⟨y, hy⟩ : ∃ z, z = v2 % 1073741789 := ⟨_, rfl⟩
  have zy : (v2 : Int) % 1073741789 = (y : Int) := by omega
  have ly : y < 1073741789 := by omega
  obtain ⟨r, hr⟩ : ∃ z, z = b % 1073741789 := ⟨_, rfl⟩
  have zr : (b : Int) % 1073741789 = (r : Int) := by omega
  have lr : r < 1073741789 := by omega
  obtain ⟨s, hs⟩ : ∃ z, z = b2 % 1073741789 := ⟨_, rfl⟩
  have zs : (b2 : Int) % 1073741789 = (s : Int) := by omega
  have ls : s < 1073741789 := by omega
  obtain ⟨o, ho⟩ : ∃ z, z = pw 4 (x + k * r) P := ⟨_, rfl⟩
  obtain ⟨t, ht⟩ : ∃ z, z = pw 4 (y + k * s) P := ⟨_, rfl⟩
  obtain ⟨u, hu⟩ : ∃ z, z = pw 4 ((x + y) % 1073741789 + k * ((r + s) % 1073741789)) P := ⟨_, rfl⟩
  have mo : mem o := by rw [ho]; exact mem_pw four_Q _
  have mt : mem t := by rw [ht]; exact mem_pw four_Q _
  have eu : o * t % P = u := by
    rw [ho, ht, hu, ← pw_add]
    refine pw_same four_Q ?_
    show _ % 1073741789 = _ % 1073741789
    rw [Nat.add_mod ((x + y) % 1073741789), Nat.mul_mod_mod, Nat.mod_mod, ← Nat.add_mod, Nat.mul_add]
    congr 1; omega
  have C1 : Hid (∀ w : World, Calls Tryd.prog 18 #[.int .i64 (h : Nat), .int .i64 x, .int .i64 r] w fun e w' => e = .returned (.tuple #[.int .i64 (o : Nat), .int .i64 0]) ∧ RowKit.Below w.heap.size w w') := fun w => by
    have h := K.commit (h : Nat) (x : Nat) (r : Nat) w
    rw [com_ok mh.1 mh.2 lx lr, hh, com_eq, ← ho, ← hh] at h
    exact h
  have C2 : Hid (∀ w : World, Calls Tryd.prog 18 #[.int .i64 (h : Nat), .int .i64 y, .int .i64 s] w fun e w' => e = .returned (.tuple #[.int .i64 (t : Nat), .int .i64 0]) ∧ RowKit.Below w.heap.size w w') := fun w => by
    have h := K.commit (h : Nat) (y : Nat) (s : Nat) w
    rw [com_ok mh.1 mh.2 ly ls, hh, com_eq, ← ht, ← hh] at h
    exact h
  have C3 : Hid (∀ w : World, Calls Tryd.prog 18 #[.int .i64 (h : Nat), .int .i64 (((x : Int) + (y : Int)) % 1073741789), .int .i64 (((r : Int) + (s : Int)) % 1073741789)] w fun e w' => e = .returned (.tuple #[.int .i64 (u : Nat), .int .i64 0]) ∧ RowKit.Below w.heap.size w w') := fun w => by
    have h := K.commit (h : Nat) ((x + y) % 1073741789 : Nat) ((r + s) % 1073741789 : Nat) w
    rw [com_ok mh.1 mh.2 (Nat.mod_lt _ (by decide)) (Nat.mod_lt _ (by decide)), hh, com_eq, ← hu, ← hh, ← cast_addmod, ← cast_addmod] at h
    exact h
  have M1 : Hid (∀ w : World, Calls Tryd.prog 12 #[.int .i64 (o : Nat), .int .i64 (t : Nat)] w fun e w' => e = .returned (.tuple #[.int .i64 (u : Nat), .int .i64 0]) ∧ RowKit.Below w.heap.size w w') := fun w => by
    have h := K.mul (o : Nat) (t : Nat) w
    rw [mul_ok mo mt, eu] at h
    exact h
  clear hk hh hx hy hr hs ho ht hu mo mt eu mh K hT
  go_enter Tryd.func5, Tryd.ntmps5
  go_wp2_with fail
  refine (HD.out _ HT.out).mono ?_
  rintro _ w1 ⟨rfl, hb⟩
  have B1 := Lib.hid hb
  clear hb
  go_wp2_with fail
  refine (S1.out _).mono ?_
  rintro _ _ ⟨rfl, rfl⟩
  go_wp2_with fail
  refine (E1.out _).mono ?_
  rintro _ _ ⟨rfl, rfl⟩
  go_wp2_with fail
  refine (C1.out _).mono ?_
  rintro _ w2 ⟨rfl, hb⟩
  have B2 := Lib.hid (B1.out.trans (hb.mono B1.out.size))
  clear hb B1
  go_wp2_with fail
  refine (C2.out _).mono ?_
  rintro _ w3 ⟨rfl, hb⟩
  have B3 := Lib.hid (B2.out.trans (hb.mono B2.out.size))
  clear hb B2
  go_wp2_with fail
  refine (C3.out _).mono ?_
  rintro _ w4 ⟨rfl, hb⟩
  have B4 := Lib.hid (B3.out.trans (hb.mono B3.out.size))
  clear hb B3
  go_wp2_with fail
  refine (M1.out _).mono ?_
  rintro _ w5 ⟨rfl, hb⟩
  have B5 := Lib.hid (B4.out.trans (hb.mono B4.out.size))
  clear hb B4
  go_wp2_with fail
  go_ret
  exact ⟨rfl, B5.out⟩
end Go.Proofs.YtidhhndclkilnaaDoor
