/-
  The contract of few; the law on extraction: two signatures with the same number that is used once show the secret.
-/
import Derived.Test.YtidhhndclkilnaaDoorGHideW
namespace Go.Proofs.YtidhhndclkilnaaDoor
open Go.RowKit Dg Gr

theorem SlF.take {α : Type} {f : α → Value} {w : World} {p : Option Addr} {b off len : Nat} {l : List α} (h : SlF f w p b off len l) {k : Nat} (hk : k ≤ len) : SlF f w p b off k (l.take k) :=
  ⟨by rw [List.length_take, h.ln]; omega, fun hp => h.ptr (by omega), fun j hj => by
    rw [List.length_take] at hj
    have := h.cells j (by omega)
    rw [List.getElem_take]; exact this, fun hp => h.lt (by omega), by have := h.max; omega⟩
theorem i64s_take {l : List Int} (h : I64s l) (k : Nat) : I64s (l.take k) := fun y hy => h y (List.mem_of_mem_take hy)
set_option maxRecDepth 100000 in
set_option maxHeartbeats 400000 in
theorem few_any (p : Option Addr) (len cap N : Nat) (w : World) (hc : len ≤ cap) (hN : (min (len : Int) 20).toNat = N) :
    Calls Tryd.prog 11 #[.slice p len cap] w fun e w' => e = .returned (.slice p N cap) ∧ w' = w := by
  have h1 : (0 : Int) ≤ min (len : Int) 20 := by omega
  have h2 : min (len : Int) 20 ≤ (cap : Int) := by omega
  go_enter Tryd.func11, Tryd.ntmps11
  go_wp2_with fail
  go_ret
  exact ⟨rfl, rfl⟩
set_option maxRecDepth 100000 in
set_option maxHeartbeats 3000000 in
theorem extracts_law (K : Con) (n m : Nat) (l1 l2 : List Int) (p1 p2 : Option Addr) (b1 off1 cap1 len1 b2 off2 cap2 len2 : Nat) (w : World) (hT : Tab w) (hn : n < 18446744073709551616) (hm : m < 18446744073709551616)
    (hS1 : SlF i64v w p1 b1 off1 len1 l1) (hS2 : SlF i64v w p2 b2 off2 len2 l2) (hI1 : I64s l1) (hI2 : I64s l2) (hc1 : len1 ≤ cap1) (hc2 : len2 ≤ cap2) :
    Calls Tryd.prog 9 #[.int .u64 n, .int .u64 m, .slice p1 len1 cap1, .slice p2 len2 cap2] w fun e w' => e = .returned (.bool true) ∧ RowKit.Below w.heap.size w w' := by
  have HD := Lib.hid (fun w hT => head_any K w hT)
  have HT := Lib.hid hT
  have S1 := Lib.hid (fun w => rSecret_any n w hn)
  have S2 := Lib.hid (fun w => rSecret_any m w hm)
  obtain ⟨k, hk⟩ : ∃ k, k = scrN n := ⟨_, rfl⟩
  obtain ⟨r, hr⟩ : ∃ r, r = scrN m := ⟨_, rfl⟩
  have lk := scr_lt n
  have lr := scr_lt m
  rw [← hk] at S1 lk
  rw [← hr] at S2 lr
  obtain ⟨N1, hN1⟩ : ∃ N, (min (len1 : Int) 20).toNat = N := ⟨_, rfl⟩
  obtain ⟨N2, hN2⟩ : ∃ N, (min (len2 : Int) 20).toNat = N := ⟨_, rfl⟩
  have F1 := Lib.hid (fun w => few_any p1 len1 cap1 N1 w hc1 hN1)
  have F2 := Lib.hid (fun w => few_any p2 len2 cap2 N2 w hc2 hN2)
  have L1 := Lib.hid (hS1.take (k := N1) (by omega))
  have L2 := Lib.hid (hS2.take (k := N2) (by omega))
  obtain ⟨c1, hc1'⟩ : ∃ c, c = sigC k r (l1.take N1) := ⟨_, rfl⟩
  obtain ⟨c2, hc2'⟩ : ∃ c, c = sigC k r (l2.take N2) := ⟨_, rfl⟩
  have lc1 : c1 < 1073741789 := by rw [hc1']; exact sigC_lt _ _ _
  have lc2 : c2 < 1073741789 := by rw [hc2']; exact sigC_lt _ _ _
  obtain ⟨s1, hs1⟩ : ∃ s, s = sgS c1 r k := ⟨_, rfl⟩
  obtain ⟨s2, hs2⟩ : ∃ s, s = sgS c2 r k := ⟨_, rfl⟩
  have ls1 : s1 < 1073741789 := by rw [hs1]; exact sgS_lt _ _ _
  have ls2 : s2 < 1073741789 := by rw [hs2]; exact sgS_lt _ _ _
  have G1 : Hid (∀ w : World, SlF i64v w p1 b1 off1 N1 (l1.take N1) → Tab w → Calls Tryd.prog 20 #[.int .i64 (k : Nat), .int .i64 (r : Nat), .slice p1 N1 cap1] w fun e w' => e = .returned (.tuple #[.agg #[.int .i64 (c1 : Nat), .int .i64 (s1 : Nat)], .int .i64 0]) ∧ RowKit.Below w.heap.size w w') := fun w hS hT => by
    have h := K.sign k r (l1.take N1) p1 b1 off1 cap1 N1 w hS (i64s_take hI1 _) (by omega) hT
    rw [sig_ok lk.1 lk.2 lr.1 lr.2, ← hc1', ← hs1] at h
    exact h
  have G2 : Hid (∀ w : World, SlF i64v w p2 b2 off2 N2 (l2.take N2) → Tab w → Calls Tryd.prog 20 #[.int .i64 (k : Nat), .int .i64 (r : Nat), .slice p2 N2 cap2] w fun e w' => e = .returned (.tuple #[.agg #[.int .i64 (c2 : Nat), .int .i64 (s2 : Nat)], .int .i64 0]) ∧ RowKit.Below w.heap.size w w') := fun w hS hT => by
    have h := K.sign k r (l2.take N2) p2 b2 off2 cap2 N2 w hS (i64s_take hI2 _) (by omega) hT
    rw [sig_ok lk.1 lk.2 lr.1 lr.2, ← hc2', ← hs2] at h
    exact h
  have X1 : Hid (∀ w : World, Calls Tryd.prog 35 #[.int .i64 (c1 : Nat)] w fun e w' => e = .returned (.bool true) ∧ w' = w) := fun w => by have h := rexp_any c1 w; rwa [expZ_of lc1] at h
  have X2 : Hid (∀ w : World, Calls Tryd.prog 35 #[.int .i64 (s1 : Nat)] w fun e w' => e = .returned (.bool true) ∧ w' = w) := fun w => by have h := rexp_any s1 w; rwa [expZ_of ls1] at h
  have X3 : Hid (∀ w : World, Calls Tryd.prog 35 #[.int .i64 (c2 : Nat)] w fun e w' => e = .returned (.bool true) ∧ w' = w) := fun w => by have h := rexp_any c2 w; rwa [expZ_of lc2] at h
  have X4 : Hid (∀ w : World, Calls Tryd.prog 35 #[.int .i64 (s2 : Nat)] w fun e w' => e = .returned (.bool true) ∧ w' = w) := fun w => by have h := rexp_any s2 w; rwa [expZ_of ls2] at h
  have R1 : Hid (∀ w : World, Calls Tryd.prog 31 #[.int .i64 ((s1 : Int) - (s2 : Int))] w fun e w' => e = .returned (.int .i64 (dif s1 s2 : Nat)) ∧ w' = w) := fun w => by have h := rrest_any ((s1 : Int) - (s2 : Int)) w; rwa [dif_cast ls2] at h
  have R2 : Hid (∀ w : World, Calls Tryd.prog 31 #[.int .i64 ((c1 : Int) - (c2 : Int))] w fun e w' => e = .returned (.int .i64 (dif c1 c2 : Nat)) ∧ w' = w) := fun w => by have h := rrest_any ((c1 : Int) - (c2 : Int)) w; rwa [dif_cast lc2] at h
  have V : c1 ≠ c2 → ∀ w : World, Calls Tryd.prog 32 #[.int .i64 (dif s1 s2 : Nat), .int .i64 (dif c1 c2 : Nat)] w fun e w' => e = .returned (.int .i64 (k : Nat)) ∧ w' = w := fun hne w => by
    have h := rover_any (dif s1 s2) (dif c1 c2) w (dif_lt _ _) (dif_lt _ _)
    have e : ovr (dif s1 s2) (dif c1 c2) = k := by rw [hs1, hs2]; exact extract_eq lk.2 lc1 lc2 hne
    rwa [e] at h
  generalize l1.take N1 = m1 at *
  generalize l2.take N2 = m2 at *
  generalize dif s1 s2 = d1 at *
  generalize dif c1 c2 = d2 at *
  clear hk hr hN1 hN2 hc1' hc2' hs1 hs2 hS1 hS2 hI1 hI2 hc1 hc2 K hT
  by_cases hcc : c1 = c2
  · have e1 : ((c1 : Int) == (c2 : Int)) = true := by rw [hcc]; simp
    clear hcc V
    go_enter Tryd.func9, Tryd.ntmps9
    go_wp2_with fail
    refine (HD.out _ HT.out).mono ?_
    rintro _ w1 ⟨rfl, hb⟩
    have B1 := Lib.hid hb
    clear hb
    go_wp2_with fail
    refine (S1.out _).mono ?_
    rintro _ _ ⟨rfl, rfl⟩
    go_wp2_with fail
    refine (S2.out _).mono ?_
    rintro _ _ ⟨rfl, rfl⟩
    go_wp2_with fail
    refine (F1.out _).mono ?_
    rintro _ _ ⟨rfl, rfl⟩
    go_wp2_with fail
    refine (G1.out _ (L1.out.below B1.out L1.out.lt) (HT.out.below B1.out)).mono ?_
    rintro _ w2 ⟨rfl, hb⟩
    have B2 := Lib.hid (B1.out.trans (hb.mono B1.out.size))
    have B3 := Lib.hid (B2.out.alloc B2.out.size (.cells #[.int .i64 c1, .int .i64 s1] 23))
    have C3 := Lib.hid (Cel.new w2 (.int .i64 c1) (.int .i64 s1) 23)
    clear hb B1 B2
    go_wp2_with fail
    refine (F2.out _).mono ?_
    rintro _ _ ⟨rfl, rfl⟩
    go_wp2_with fail
    refine (G2.out _ (L2.out.below B3.out L2.out.lt) (HT.out.below B3.out)).mono ?_
    rintro _ w4 ⟨rfl, hb⟩
    have B4 := Lib.hid (B3.out.trans (hb.mono B3.out.size))
    have C4 := Lib.hid (C3.out.below hb)
    have B5 := Lib.hid (B4.out.alloc B4.out.size (.cells #[.int .i64 c2, .int .i64 s2] 23))
    have C5 := Lib.hid (C4.out.below ((Below.refl w4.heap.size w4).alloc (Nat.le_refl _) (.cells #[.int .i64 c2, .int .i64 s2] 23)))
    have D5 := Lib.hid (Cel.new w4 (.int .i64 c2) (.int .i64 s2) 23)
    clear hb B3 C3 B4 C4
    obtain ⟨u0, u1, -, -⟩ := C5.out
    obtain ⟨t0, t1, -, -⟩ := D5.out
    go_wp2_with fail
    generalize w4.alloc (.cells #[.int .i64 c2, .int .i64 s2] 23) = w5 at *
    refine (X1.out _).mono ?_
    rintro _ _ ⟨rfl, rfl⟩
    go_wp2_with fail
    refine (X2.out _).mono ?_
    rintro _ _ ⟨rfl, rfl⟩
    go_wp2_with fail
    refine (X3.out _).mono ?_
    rintro _ _ ⟨rfl, rfl⟩
    go_wp2_with fail
    refine (X4.out _).mono ?_
    rintro _ _ ⟨rfl, rfl⟩
    go_wp2_with fail
    go_quiet (fail)
    go_wp2_with fail
    go_ret
    exact ⟨rfl, below_drewN B5.out _⟩
  · have hw1 : IntKind.i64.wrap ((s1 : Int) - (s2 : Int)) = (s1 : Int) - (s2 : Int) := IntWalk.i64_in _ (by omega)
    have hw2 : IntKind.i64.wrap ((c1 : Int) - (c2 : Int)) = (c1 : Int) - (c2 : Int) := IntWalk.i64_in _ (by omega)
    have e2 : ((k : Int) == (k : Int)) = true := by simp
    have e1 : ((c1 : Int) == (c2 : Int)) = false := by simp; omega
    have V1 := Lib.hid (V hcc)
    clear hcc V
    go_enter Tryd.func9, Tryd.ntmps9
    go_wp2_with fail
    refine (HD.out _ HT.out).mono ?_
    rintro _ w1 ⟨rfl, hb⟩
    have B1 := Lib.hid hb
    clear hb
    go_wp2_with fail
    refine (S1.out _).mono ?_
    rintro _ _ ⟨rfl, rfl⟩
    go_wp2_with fail
    refine (S2.out _).mono ?_
    rintro _ _ ⟨rfl, rfl⟩
    go_wp2_with fail
    refine (F1.out _).mono ?_
    rintro _ _ ⟨rfl, rfl⟩
    go_wp2_with fail
    refine (G1.out _ (L1.out.below B1.out L1.out.lt) (HT.out.below B1.out)).mono ?_
    rintro _ w2 ⟨rfl, hb⟩
    have B2 := Lib.hid (B1.out.trans (hb.mono B1.out.size))
    have B3 := Lib.hid (B2.out.alloc B2.out.size (.cells #[.int .i64 c1, .int .i64 s1] 23))
    have C3 := Lib.hid (Cel.new w2 (.int .i64 c1) (.int .i64 s1) 23)
    clear hb B1 B2
    go_wp2_with fail
    refine (F2.out _).mono ?_
    rintro _ _ ⟨rfl, rfl⟩
    go_wp2_with fail
    refine (G2.out _ (L2.out.below B3.out L2.out.lt) (HT.out.below B3.out)).mono ?_
    rintro _ w4 ⟨rfl, hb⟩
    have B4 := Lib.hid (B3.out.trans (hb.mono B3.out.size))
    have C4 := Lib.hid (C3.out.below hb)
    have B5 := Lib.hid (B4.out.alloc B4.out.size (.cells #[.int .i64 c2, .int .i64 s2] 23))
    have C5 := Lib.hid (C4.out.below ((Below.refl w4.heap.size w4).alloc (Nat.le_refl _) (.cells #[.int .i64 c2, .int .i64 s2] 23)))
    have D5 := Lib.hid (Cel.new w4 (.int .i64 c2) (.int .i64 s2) 23)
    clear hb B3 C3 B4 C4
    obtain ⟨u0, u1, -, -⟩ := C5.out
    obtain ⟨t0, t1, -, -⟩ := D5.out
    go_wp2_with fail
    generalize w4.alloc (.cells #[.int .i64 c2, .int .i64 s2] 23) = w5 at *
    refine (X1.out _).mono ?_
    rintro _ _ ⟨rfl, rfl⟩
    go_wp2_with fail
    refine (X2.out _).mono ?_
    rintro _ _ ⟨rfl, rfl⟩
    go_wp2_with fail
    refine (X3.out _).mono ?_
    rintro _ _ ⟨rfl, rfl⟩
    go_wp2_with fail
    refine (X4.out _).mono ?_
    rintro _ _ ⟨rfl, rfl⟩
    go_wp2_with fail
    go_quiet (first | (go_at_call 31; with_reducible exact Calls.quiet_of_same (R1.out _)) | (go_at_call 31; with_reducible exact Calls.quiet_of_same (R2.out _)) | (go_at_call 32; with_reducible exact Calls.quiet_of_same (V1.out _)))
    go_wp2_with fail
    go_ret
    exact ⟨rfl, below_drewN B5.out _⟩
end Go.Proofs.YtidhhndclkilnaaDoor
