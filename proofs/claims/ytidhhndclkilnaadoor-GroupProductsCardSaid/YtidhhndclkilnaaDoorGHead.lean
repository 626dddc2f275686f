/-
  The law's head: the examples of the chapter.
-/
import Derived.Test.YtidhhndclkilnaaDoorGCon
namespace Go.Proofs.YtidhhndclkilnaaDoor
open Go.RowKit Dg Gr

theorem mem_nine : mem 9 := ⟨by decide, by decide, nine_Q⟩
theorem two_not : memZ 2 = false := by
  have h := bp_eq (m := P) (by decide) 31 1 2 Q (by decide) (by decide)
  rw [lp_start] at h
  have e : pw 2 Q P = 2147483578 := by rw [← h]; decide +kernel
  unfold memZ
  have e2 : pw (2 : Int).toNat 1073741789 2147483579 = 2147483578 := e
  rw [e2]; decide
theorem zero_not : memZ 0 = false := by unfold memZ; rw [decide_eq_false (show ¬ (1 : Int) ≤ 0 by decide)]; rfl
theorem p43 : pw 4 3 P = 64 := by rw [pw_def]; decide
theorem p42 : pw 4 2 P = 16 := by rw [pw_def]; decide
theorem p91 : pw 9 1 P = 9 := by rw [pw_def]; decide
theorem p93 : pw 9 3 P = 729 := by rw [pw_def]; decide
theorem p45 : pw 4 5 P = 1024 := by rw [pw_def]; decide
set_option maxRecDepth 100000 in
set_option maxHeartbeats 2000000 in
theorem head_any (K : Con) (w : World) (hT : Tab w) : Calls Tryd.prog 10 #[] w fun e w' => e = .returned (.bool true) ∧ RowKit.Below w.heap.size w w' := by
  have H1 : Hid (∀ w : World, Calls Tryd.prog 12 #[.int .i64 4, .int .i64 9] w fun e w' => e = .returned (.tuple #[.int .i64 36, .int .i64 0]) ∧ RowKit.Below w.heap.size w w') := fun w => by
    have h := K.mul (4 : Nat) (9 : Nat) w
    rw [mul_ok mem_four mem_nine] at h
    exact h
  have H2 : Hid (∀ w : World, Calls Tryd.prog 16 #[.int .i64 4, .int .i64 3] w fun e w' => e = .returned (.tuple #[.int .i64 64, .int .i64 0]) ∧ RowKit.Below w.heap.size w w') := fun w => by
    have h := K.exp (4 : Nat) (3 : Nat) w
    rw [exp_ok mem_four (by decide), p43] at h
    exact h
  have H3 : Hid (∀ w : World, Calls Tryd.prog 18 #[.int .i64 9, .int .i64 2, .int .i64 1] w fun e w' => e = .returned (.tuple #[.int .i64 144, .int .i64 0]) ∧ RowKit.Below w.heap.size w w') := fun w => by
    have h := K.commit (9 : Nat) (2 : Nat) (1 : Nat) w
    rw [com_ok mem_nine (by decide) (by decide) (by decide), p42, p91] at h
    exact h
  obtain ⟨c, hc⟩ : ∃ c, c = sigC (5 : Nat) (7 : Nat) [1, 2] := ⟨_, rfl⟩
  obtain ⟨s, hs⟩ : ∃ s, s = sgS c 7 5 := ⟨_, rfl⟩
  have H4 : Hid (∀ (w : World) (p : Option Addr) (b cap : Nat), SlF i64v w p b 0 2 [1, 2] → Tab w → Calls Tryd.prog 20 #[.int .i64 5, .int .i64 7, .slice p 2 cap] w fun e w' => e = .returned (.tuple #[.agg #[.int .i64 c, .int .i64 s], .int .i64 0]) ∧ RowKit.Below w.heap.size w w') := fun w p b cap hS hT => by
    have h := K.sign (5 : Nat) (7 : Nat) [1, 2] p b 0 cap 2 w hS (i64s_cons (by decide) (i64s_cons (by decide) i64s_nil)) (by decide) hT
    rw [sig_ok (by decide) (by decide) (by decide) (by decide), ← hc, ← hs] at h
    exact h
  have H5 : Hid (∀ (w : World) (p : Option Addr) (b cap : Nat), SlF i64v w p b 0 2 [1, 2] → Tab w → Calls Tryd.prog 22 #[.int .i64 1024, .agg #[.int .i64 c, .int .i64 s], .slice p 2 cap] w fun e w' => e = .returned (.tuple #[.bool true, .int .i64 0]) ∧ RowKit.Below w.heap.size w w') := fun w p b cap hS hT => by
    have h := K.verify (1024 : Nat) c s [1, 2] p b 0 cap 2 w hS (i64s_cons (by decide) (i64s_cons (by decide) i64s_nil)) (by decide) hT
    have r := sig_right (k := 5) (o := 7) [1, 2]
    rw [p45, ← hc, ← hs] at r
    rw [r] at h
    exact h
  obtain ⟨d, hd⟩ : ∃ d, d = samC 4 9 3 5 := ⟨_, rfl⟩
  obtain ⟨t, ht⟩ : ∃ t, t = sgS d 5 3 := ⟨_, rfl⟩
  have H6 : Hid (∀ w : World, Tab w → Calls Tryd.prog 24 #[.int .i64 4, .int .i64 9, .int .i64 3, .int .i64 5] w fun e w' => e = .returned (.tuple #[.agg #[.int .i64 d, .int .i64 t], .int .i64 0]) ∧ RowKit.Below w.heap.size w w') := fun w hT => by
    have h := K.same (4 : Nat) (9 : Nat) (3 : Nat) (5 : Nat) w hT
    rw [sam_ok mem_four (by decide) mem_nine (by decide) (by decide) (by decide) (by decide) (by decide), ← hd, ← ht] at h
    exact h
  have H7 : Hid (∀ w : World, Tab w → Calls Tryd.prog 26 #[.int .i64 4, .int .i64 64, .int .i64 9, .int .i64 729, .agg #[.int .i64 d, .int .i64 t]] w fun e w' => e = .returned (.tuple #[.bool true, .int .i64 0]) ∧ RowKit.Below w.heap.size w w') := fun w hT => by
    have h := K.equal (4 : Nat) (64 : Nat) (9 : Nat) (729 : Nat) d t w hT
    have r := sam_right (b := 4) (o := 9) (x := 3) (s := 5) mem_four (by decide) mem_nine (by decide)
    rw [p43, p93, ← hd, ← ht] at r
    rw [r] at h
    exact h
  have M4 : Hid (∀ w : World, Calls Tryd.prog 14 #[.int .i64 4] w fun e w' => e = .returned (.bool true) ∧ RowKit.Below w.heap.size w w') := fun w => by
    have h := K.member (4 : Nat) w
    rw [memZ_of mem_four] at h; exact h
  have M9 : Hid (∀ w : World, Calls Tryd.prog 14 #[.int .i64 9] w fun e w' => e = .returned (.bool true) ∧ RowKit.Below w.heap.size w w') := fun w => by
    have h := K.member (9 : Nat) w
    rw [memZ_of mem_nine] at h; exact h
  have M2 : Hid (∀ w : World, Calls Tryd.prog 14 #[.int .i64 2] w fun e w' => e = .returned (.bool false) ∧ RowKit.Below w.heap.size w w') := fun w => by
    have h := K.member 2 w
    rw [two_not] at h; exact h
  have M0 : Hid (∀ w : World, Calls Tryd.prog 14 #[.int .i64 0] w fun e w' => e = .returned (.bool false) ∧ RowKit.Below w.heap.size w w') := fun w => by
    have h := K.member 0 w
    rw [zero_not] at h; exact h
  have TW := Lib.hid (fun v : World => sl_two v 1 2)
  have HT := Lib.hid hT
  clear hc hs hd ht K hT
  go_enter Tryd.func10, Tryd.ntmps10
  go_wp2_with fail
  refine (H1.out _).mono ?_
  rintro _ w1 ⟨rfl, hb⟩
  have B1 := Lib.hid hb
  clear hb
  go_wp2_with fail
  refine (H2.out _).mono ?_
  rintro _ w2 ⟨rfl, hb⟩
  have B2 := Lib.hid (B1.out.trans (hb.mono B1.out.size))
  clear hb B1
  go_wp2_with fail
  refine (H3.out _).mono ?_
  rintro _ w3 ⟨rfl, hb⟩
  have B3 := Lib.hid (B2.out.trans (hb.mono B2.out.size))
  clear hb B2
  go_wp2_with fail
  have B3' := Lib.hid (B3.out.alloc B3.out.size (.cells #[.int .i64 1, .int .i64 2] 3))
  refine (H4.out _ _ _ _ (TW.out w3) (HT.out.below B3'.out)).mono ?_
  rintro _ w4 ⟨rfl, hb⟩
  have B4 := Lib.hid (B3'.out.trans (hb.mono B3'.out.size))
  clear hb B3 B3'
  go_wp2_with fail
  have t5 := TW.out (w4.alloc (.cells #[.int .i64 c, .int .i64 s] 23))
  rw [World.size_alloc] at t5
  have B4' := Lib.hid ((B4.out.alloc B4.out.size (.cells #[.int .i64 c, .int .i64 s] 23)).alloc (by simp; have := B4.out.size; omega) (.cells #[.int .i64 1, .int .i64 2] 3))
  refine (H5.out _ _ _ _ t5 (HT.out.below B4'.out)).mono ?_
  rintro _ w5 ⟨rfl, hb⟩
  have B5 := Lib.hid (B4'.out.trans (hb.mono B4'.out.size))
  clear hb B4 B4' t5
  go_wp2_with fail
  refine (H6.out _ (HT.out.below B5.out)).mono ?_
  rintro _ w6 ⟨rfl, hb⟩
  have B6 := Lib.hid (B5.out.trans (hb.mono B5.out.size))
  clear hb B5
  go_wp2_with fail
  have B6' := Lib.hid (B6.out.alloc B6.out.size (.cells #[.int .i64 d, .int .i64 t] 23))
  refine (H7.out _ (HT.out.below B6'.out)).mono ?_
  rintro _ w7 ⟨rfl, hb⟩
  have B7 := Lib.hid (B6'.out.trans (hb.mono B6'.out.size))
  clear hb B6 B6'
  go_wp2_with fail
  refine (M4.out _).mono ?_
  rintro _ w8 ⟨rfl, hb⟩
  have B8 := Lib.hid (B7.out.trans (hb.mono B7.out.size))
  clear hb B7
  go_wp2_with fail
  refine (M9.out _).mono ?_
  rintro _ w9 ⟨rfl, hb⟩
  have B9 := Lib.hid (B8.out.trans (hb.mono B8.out.size))
  clear hb B8
  go_wp2_with fail
  refine (M2.out _).mono ?_
  rintro _ w10 ⟨rfl, hb⟩
  have B10 := Lib.hid (B9.out.trans (hb.mono B9.out.size))
  clear hb B9
  go_wp2_with fail
  refine (M0.out _).mono ?_
  rintro _ w11 ⟨rfl, hb⟩
  have B11 := Lib.hid (B10.out.trans (hb.mono B10.out.size))
  clear hb B10
  go_wp2_with fail
  go_ret
  exact ⟨rfl, B11.out⟩
end Go.Proofs.YtidhhndclkilnaaDoor
