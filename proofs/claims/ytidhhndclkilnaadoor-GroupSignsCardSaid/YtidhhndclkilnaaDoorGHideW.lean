/-
  The law on hiding: each commitment to a number is also one to any other number, with another blind.
-/
import Derived.Test.YtidhhndclkilnaaDoorGProdW
namespace Go.Proofs.YtidhhndclkilnaaDoor
open Go.RowKit Dg Gr

theorem dif_cast {x y : Nat} (_hy : y < 1073741789) : ((x : Int) - (y : Int)) % 1073741789 = (dif x y : Nat) := by
  have e : dif x y = (x + (1073741789 - y % 1073741789)) % 1073741789 := rfl
  rw [e]; omega
set_option maxRecDepth 100000 in
set_option maxHeartbeats 3000000 in
theorem hides_law (K : Con) (n v v2 b : Nat) (w : World) (hT : Tab w) (hn : n < 18446744073709551616) (hv : v < 18446744073709551616) (hv2 : v2 < 18446744073709551616) (hb : b < 18446744073709551616) :
    Calls Tryd.prog 6 #[.int .u64 n, .int .u64 v, .int .u64 v2, .int .u64 b] w fun e w' => e = .returned (.bool true) ∧ RowKit.Below w.heap.size w w' := by
  have HD := Lib.hid (fun w hT => head_any K w hT)
  have HT := Lib.hid hT
  have S1 := Lib.hid (fun w => rSecret_any n w hn)
  obtain ⟨k, hk⟩ : ∃ k, k = scrN n := ⟨_, rfl⟩
  have lk := scr_lt n
  rw [← hk] at S1 lk
  have E1 := Lib.hid (fun w => rpower_any 4 k 2147483579 w (by decide) (by decide) (by decide) (by omega))
  obtain ⟨h, hh⟩ : ∃ h, h = pw 4 k P := ⟨_, rfl⟩
  have mh : mem h ∧ h ≠ 1 := by rw [hh]; exact pub_ok lk.1 lk.2
  rw [show pw 4 k 2147483579 = h from hh.symm] at E1
  obtain ⟨x, hx⟩ : ∃ z, z = v % 1073741789 := ⟨_, rfl⟩
  have zx : (v : Int) % 1073741789 = (x : Int) := by omega
  have lx : x < 1073741789 := by omega
  obtain ⟨y, hy⟩ : ∃ z, z = v2 % 1073741789 := ⟨_, rfl⟩
  have zy : (v2 : Int) % 1073741789 = (y : Int) := by omega
  have ly : y < 1073741789 := by omega
  obtain ⟨r, hr⟩ : ∃ z, z = b % 1073741789 := ⟨_, rfl⟩
  have zr : (b : Int) % 1073741789 = (r : Int) := by omega
  have lr : r < 1073741789 := by omega
  have hkq : k % Q ≠ 0 := by rw [Nat.mod_eq_of_lt (show k < Q from lk.2)]; omega
  obtain ⟨d, hd⟩ : ∃ z, z = dif x y := ⟨_, rfl⟩
  have ld : d < 1073741789 := by rw [hd]; exact dif_lt x y
  obtain ⟨o, ho⟩ : ∃ z, z = ovr d k := ⟨_, rfl⟩
  have lo : o < 1073741789 := by rw [ho]; exact ovr_lt d k
  obtain ⟨t, ht⟩ : ∃ z, z = (r + o) % 1073741789 := ⟨_, rfl⟩
  have lt_ : t < 1073741789 := by rw [ht]; exact Nat.mod_lt _ (by decide)
  obtain ⟨u, hu⟩ : ∃ z, z = pw 4 x P * pw h r P % P := ⟨_, rfl⟩
  have eu : pw 4 y P * pw h t P % P = u := by
    have e := hide_eq (x := x) (y := y) (r := r) hkq
    rw [← hh, ← hd, ← ho] at e
    rw [hu, e, ht]; rfl
  have ne : x ≠ y → t ≠ r := fun hxy e => hxy (hide_ne hkq lx ly lr (by rw [← hd, ← ho]; show (r + o) % 1073741789 = r; rw [← ht]; exact e))
  have R1 : Hid (∀ w : World, Calls Tryd.prog 31 #[.int .i64 ((x : Int) - (y : Int))] w fun e w' => e = .returned (.int .i64 (d : Nat)) ∧ w' = w) := fun w => by
    have h := rrest_any ((x : Int) - (y : Int)) w
    rw [dif_cast ly, ← hd] at h
    exact h
  have R2 : Hid (∀ w : World, Calls Tryd.prog 31 #[.int .i64 ((r : Int) + (o : Int))] w fun e w' => e = .returned (.int .i64 (t : Nat)) ∧ w' = w) := fun w => by
    have h := rrest_any ((r : Int) + (o : Int)) w
    rw [cast_addmod, ← ht] at h
    exact h
  have O1 : Hid (∀ w : World, Calls Tryd.prog 32 #[.int .i64 d, .int .i64 k] w fun e w' => e = .returned (.int .i64 (o : Nat)) ∧ w' = w) := fun w => by
    have h := rover_any d k w ld lk.2
    rw [← ho] at h
    exact h
  have C1 : Hid (∀ w : World, Calls Tryd.prog 18 #[.int .i64 (h : Nat), .int .i64 x, .int .i64 r] w fun e w' => e = .returned (.tuple #[.int .i64 (u : Nat), .int .i64 0]) ∧ RowKit.Below w.heap.size w w') := fun w => by
    have h := K.commit (h : Nat) (x : Nat) (r : Nat) w
    rw [com_ok mh.1 mh.2 lx lr, ← hu] at h
    exact h
  have C2 : Hid (∀ w : World, Calls Tryd.prog 18 #[.int .i64 (h : Nat), .int .i64 y, .int .i64 t] w fun e w' => e = .returned (.tuple #[.int .i64 (u : Nat), .int .i64 0]) ∧ RowKit.Below w.heap.size w w') := fun w => by
    have h := K.commit (h : Nat) (y : Nat) (t : Nat) w
    rw [com_ok mh.1 mh.2 ly lt_, eu] at h
    exact h
  clear hk hh hx hy hr hd ho ht hu eu mh hkq K hT
  by_cases hxy : x = y
  · have e1 : ((x : Int) == (y : Int)) = true := by rw [hxy]; simp
    clear ne hxy
    go_enter Tryd.func6, Tryd.ntmps6
    go_wp2_with fail
    refine (HD.out _ HT.out).mono ?_
    rintro _ w1 ⟨rfl, hb⟩
    have B1 := Lib.hid hb
    clear hb
    go_wp2_with fail
    refine (S1.out _).mono ?_
    rintro _ _ ⟨rfl, rfl⟩
    go_wp2_with fail
    refine (E1.out _).mono ?_
    rintro _ _ ⟨rfl, rfl⟩
    go_wp2_with fail
    refine (R1.out _).mono ?_
    rintro _ _ ⟨rfl, rfl⟩
    go_wp2_with fail
    refine (O1.out _).mono ?_
    rintro _ _ ⟨rfl, rfl⟩
    go_wp2_with fail
    refine (R2.out _).mono ?_
    rintro _ _ ⟨rfl, rfl⟩
    go_wp2_with fail
    refine (C1.out _).mono ?_
    rintro _ w2 ⟨rfl, hb⟩
    have B2 := Lib.hid (B1.out.trans (hb.mono B1.out.size))
    clear hb B1
    go_wp2_with fail
    refine (C2.out _).mono ?_
    rintro _ w3 ⟨rfl, hb⟩
    have B3 := Lib.hid (B2.out.trans (hb.mono B2.out.size))
    clear hb B2
    go_wp2_with fail
    go_ret
    exact ⟨rfl, B3.out⟩
  · have e1 : ((x : Int) == (y : Int)) = false := by simp; omega
    have e2 : ((t : Int) != (r : Int)) = true := by have := ne hxy; simp; omega
    clear ne hxy
    go_enter Tryd.func6, Tryd.ntmps6
    go_wp2_with fail
    refine (HD.out _ HT.out).mono ?_
    rintro _ w1 ⟨rfl, hb⟩
    have B1 := Lib.hid hb
    clear hb
    go_wp2_with fail
    refine (S1.out _).mono ?_
    rintro _ _ ⟨rfl, rfl⟩
    go_wp2_with fail
    refine (E1.out _).mono ?_
    rintro _ _ ⟨rfl, rfl⟩
    go_wp2_with fail
    refine (R1.out _).mono ?_
    rintro _ _ ⟨rfl, rfl⟩
    go_wp2_with fail
    refine (O1.out _).mono ?_
    rintro _ _ ⟨rfl, rfl⟩
    go_wp2_with fail
    refine (R2.out _).mono ?_
    rintro _ _ ⟨rfl, rfl⟩
    go_wp2_with fail
    refine (C1.out _).mono ?_
    rintro _ w2 ⟨rfl, hb⟩
    have B2 := Lib.hid (B1.out.trans (hb.mono B1.out.size))
    clear hb B1
    go_wp2_with fail
    refine (C2.out _).mono ?_
    rintro _ w3 ⟨rfl, hb⟩
    have B3 := Lib.hid (B2.out.trans (hb.mono B2.out.size))
    clear hb B2
    go_wp2_with fail
    go_ret
    exact ⟨rfl, B3.out⟩
end Go.Proofs.YtidhhndclkilnaaDoor
