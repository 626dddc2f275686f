/-
  The law on recovery: a declaration with an error between two texts without errors gives this error alone.
-/
import Derived.Test.YtedbpjcglnkjmaaGreatDoorZR
import Derived.Test.YtedbpjcglnkjmaaGreatDoorZQ
namespace Go.Proofs.YtedbpjcglnkjmaaGreatDoor
open Go.RowKit Lx Pa

set_option maxRecDepth 100000 in
set_option maxHeartbeats 12000000 in
theorem recovers_main (s0 s1 s2 : ByteArray) (w : World) (h0 : s0.size ≤ 2000) (h1 : s1.size ≤ 2000) (h2 : s2.size ≤ 2000) : Calls Tryz.prog 6 #[.string s0, .string s1, .string s2] w fun e w' => e = .returned (.bool true) ∧ RowKit.Below w.heap.size w w' := by
  obtain ⟨A, hA⟩ : ∃ l, s0.data.toList = l := ⟨_, rfl⟩
  obtain ⟨C, hC⟩ : ∃ l, s1.data.toList = l := ⟨_, rfl⟩
  obtain ⟨B, hB⟩ : ∃ l, s2.data.toList = l := ⟨_, rfl⟩
  have z0 : s0.size = A.length := by rw [← hA, len_bytes]
  have z1 : s1.size = C.length := by rw [← hC, len_bytes]
  have z2 : s2.size = B.length := by rw [← hB, len_bytes]
  have hD : (s0 ++ ⟨#[10]⟩ ++ s1 ++ ⟨#[10]⟩ ++ s2).data.toList = A ++ 10 :: (C ++ 10 :: B) := by rw [← hA, ← hB, ← hC]; simp
  have hF : (s0 ++ ⟨#[10]⟩ ++ s2).data.toList = A ++ 10 :: B := by rw [← hA, ← hB]; simp
  have zD : (s0 ++ ⟨#[10]⟩ ++ s1 ++ ⟨#[10]⟩ ++ s2).size ≤ 281474976710656 := by rw [← len_bytes, hD]; simp; omega
  have zF : (s0 ++ ⟨#[10]⟩ ++ s2).size ≤ 281474976710656 := by rw [← len_bytes, hF]; simp; omega
  obtain ⟨c2, hc2⟩ : ∃ c, byR A = c := ⟨_, rfl⟩
  obtain ⟨d2, hd2⟩ : ∃ c, dN c2 = c := ⟨_, rfl⟩
  obtain ⟨r2, hr2⟩ : ∃ c, rN c2 = c := ⟨_, rfl⟩
  obtain ⟨n2, hn2⟩ : ∃ c, c2.es.length = c := ⟨_, rfl⟩
  obtain ⟨c3, hc3⟩ : ∃ c, byR B = c := ⟨_, rfl⟩
  obtain ⟨d3, hd3⟩ : ∃ c, dN c3 = c := ⟨_, rfl⟩
  obtain ⟨r3, hr3⟩ : ∃ c, rN c3 = c := ⟨_, rfl⟩
  obtain ⟨n3, hn3⟩ : ∃ c, c3.es.length = c := ⟨_, rfl⟩
  obtain ⟨c4, hc4⟩ : ∃ c, byR C = c := ⟨_, rfl⟩
  obtain ⟨d4, hd4⟩ : ∃ c, dN c4 = c := ⟨_, rfl⟩
  obtain ⟨r4, hr4⟩ : ∃ c, rN c4 = c := ⟨_, rfl⟩
  obtain ⟨n4, hn4⟩ : ∃ c, c4.es.length = c := ⟨_, rfl⟩
  obtain ⟨c7, hc7⟩ : ∃ c, byR (A ++ 10 :: B) = c := ⟨_, rfl⟩
  obtain ⟨d7, hd7⟩ : ∃ c, dN c7 = c := ⟨_, rfl⟩
  obtain ⟨r7, hr7⟩ : ∃ c, rN c7 = c := ⟨_, rfl⟩
  obtain ⟨n7, hn7⟩ : ∃ c, c7.es.length = c := ⟨_, rfl⟩
  obtain ⟨c8, hc8⟩ : ∃ c, byR (A ++ 10 :: (C ++ 10 :: B)) = c := ⟨_, rfl⟩
  obtain ⟨d8, hd8⟩ : ∃ c, dN c8 = c := ⟨_, rfl⟩
  obtain ⟨r8, hr8⟩ : ∃ c, rN c8 = c := ⟨_, rfl⟩
  obtain ⟨n8, hn8⟩ : ∃ c, c8.es.length = c := ⟨_, rfl⟩
  have KA := Lib.hid (fun w => parS (s := s0) w hA hc2 hd2 hr2 hn2 (by omega))
  have KB := Lib.hid (fun w => parS (s := s2) w hB hc3 hd3 hr3 hn3 (by omega))
  have KC := Lib.hid (fun w => parS (s := s1) w hC hc4 hd4 hr4 hn4 (by omega))
  have KG := Lib.hid (fun w => parS (s := (s0 ++ ⟨#[10]⟩ ++ s2)) w hF hc7 hd7 hr7 hn7 zF)
  have KH := Lib.hid (fun w => parS (s := (s0 ++ ⟨#[10]⟩ ++ s1 ++ ⟨#[10]⟩ ++ s2)) w hD hc8 hd8 hr8 hn8 zD)
  have KE := Lib.hid (fun w => ends_any s1 C hC (by omega) w)
  have KF := Lib.hid (fun w => ends_any (s0 ++ ⟨#[10]⟩ ++ s1 ++ ⟨#[10]⟩ ++ s2) _ hD zD w)
  obtain ⟨N, hN⟩ : ∃ N, endsN C = N := ⟨_, rfl⟩
  obtain ⟨Bd, hBd⟩ : ∃ N, endsB C = N := ⟨_, rfl⟩
  obtain ⟨NA, hNA⟩ : ∃ N, endsN (A ++ 10 :: (C ++ 10 :: B)) = N := ⟨_, rfl⟩
  obtain ⟨BA, hBA⟩ : ∃ N, endsB (A ++ 10 :: (C ++ 10 :: B)) = N := ⟨_, rfl⟩
  have REC : Hid (n2 = 0 → n3 = 0 → N = 1 → ¬ NA < 0 → n4 ≠ 0 → n7 = 0 → (n4 = 1 ∧ n8 = 1 ∧ ∃ (E : Int) (k k' : Nat), c4.es = [(E, k)] ∧ c8.es = [(E, k')] ∧ ofsR (A ++ 10 :: (C ++ 10 :: B)) k' = (s0.size : Int) + 1 + ofsR C k ∧ 0 ≤ ofsR C k ∧ ofsR C k < (s1.size : Int)) ∨ Bd = false) := by
    intro g2 g3 gN gA g4 g7
    cases hb : Bd with
    | false => exact .inr rfl
    | true =>
      left
      obtain ⟨E, k, k', x1, x2, x3, x4, x5⟩ := by_recover (a := A) (c := C) (b := B) (by rw [hc2]; exact List.length_eq_zero_iff.1 (by rw [hn2]; exact g2)) (by rw [hc3]; exact List.length_eq_zero_iff.1 (by rw [hn3]; exact g3)) (by rw [hN]; exact gN) (by rw [hBd]; exact hb) (by rw [hNA]; omega) (by rw [hc4]; intro e; rw [e] at hn4; exact g4 hn4.symm) (by rw [hc7]; exact List.length_eq_zero_iff.1 (by rw [hn7]; exact g7)) (by omega)
      rw [hc4] at x1
      rw [hc8] at x2
      exact ⟨by rw [← hn4, x1]; rfl, by rw [← hn8, x2]; rfl, E, k, k', x1, x2, by rw [x3, z0], x4, by rw [z1]; exact x5⟩
  have R7 : Hid (0 < n7 → r7 = 0) := fun h => by rw [← hr7]; exact (dN_er (fun e => by rw [e] at hn7; rw [← hn7] at h; exact absurd h (by decide))).2
  have HN4 := Lib.hid hn4
  have HN8 := Lib.hid hn8
  rw [hN, hBd] at KE
  rw [hNA, hBA] at KF
  have l0 : decide ((2000 : Int) < (s0.size : Int)) = false := decide_eq_false (by omega)
  have l1 : decide ((2000 : Int) < (s1.size : Int)) = false := decide_eq_false (by omega)
  have l2 : decide ((2000 : Int) < (s2.size : Int)) = false := decide_eq_false (by omega)
  have hn8' : n4 ≤ 20 ∧ n8 ≤ 20 ∧ n7 ≤ 20 ∧ n2 ≤ 20 ∧ n3 ≤ 20 := by
    rw [← hn4, ← hn8, ← hn7, ← hn2, ← hn3, ← hc4, ← hc8, ← hc7, ← hc2, ← hc3]
    exact ⟨(by_errs _).1, (by_errs _).1, (by_errs _).1, (by_errs _).1, (by_errs _).1⟩
  clear hA hB hC hD hF zD zF z0 z1 z2 hN hBd hNA hBA hc2 hd2 hr2 hn2 hc3 hd3 hr3 hn3 hc4 hd4 hr4 hn4 hc7 hd7 hr7 hn7 hc8 hd8 hr8 hn8
  go_enter Tryz.func6, Tryz.ntmps6
  go_wp2_with fail
  refine (head_any _).mono ?_
  rintro _ w1 ⟨rfl, hb⟩
  have B1 := Lib.hid hb
  clear hb
  go_wp2_with fail
  refine (KA.out _).mono ?_
  rintro _ v2 ⟨qd2, cd2, qr2, cr2, qg2, cg2, ns2, rfl, hp, hb⟩
  have bV := (Below.refl _ v2).alloc (Nat.le_refl _) (.cells #[.slice qd2 d2 cd2, .slice qr2 r2 cr2] 26)
  have hbV := hb.trans (bV.mono hb.size)
  have B2 := Lib.hid (B1.out.trans (hbV.mono B1.out.size))
  have P2 := Lib.hid (hp.bel bV)
  have A2 := Lib.hid (At2.new v2 (.slice qd2 d2 cd2) (.slice qr2 r2 cr2) 26)
  clear bV hbV hb hp
  go_wp2_with fail
  generalize v2.alloc (.cells #[.slice qd2 d2 cd2, .slice qr2 r2 cr2] 26) = V2 at *
  refine (KB.out _).mono ?_
  rintro _ v3 ⟨qd3, cd3, qr3, cr3, qg3, cg3, ns3, rfl, hp, hb⟩
  have bV := (Below.refl _ v3).alloc (Nat.le_refl _) (.cells #[.slice qd3 d3 cd3, .slice qr3 r3 cr3] 26)
  have hbV := hb.trans (bV.mono hb.size)
  have B3 := Lib.hid (B2.out.trans (hbV.mono B2.out.size))
  have P3 := Lib.hid (hp.bel bV)
  have A3 := Lib.hid (At2.new v3 (.slice qd3 d3 cd3) (.slice qr3 r3 cr3) 26)
  replace P2 := Lib.hid (P2.out.bel hbV)
  replace A2 := Lib.hid (A2.out.bel hbV)
  clear bV hbV hb hp
  go_wp2_with fail
  generalize v3.alloc (.cells #[.slice qd3 d3 cd3, .slice qr3 r3 cr3] 26) = V3 at *
  refine (KC.out _).mono ?_
  rintro _ v4 ⟨qd4, cd4, qr4, cr4, qg4, cg4, ns4, rfl, hp, hb⟩
  have bV := (Below.refl _ v4).alloc (Nat.le_refl _) (.cells #[.slice qd4 d4 cd4, .slice qr4 r4 cr4] 26)
  have hbV := hb.trans (bV.mono hb.size)
  have B4 := Lib.hid (B3.out.trans (hbV.mono B3.out.size))
  have P4 := Lib.hid (hp.bel bV)
  have A4 := Lib.hid (At2.new v4 (.slice qd4 d4 cd4) (.slice qr4 r4 cr4) 26)
  replace P2 := Lib.hid (P2.out.bel hbV)
  replace P3 := Lib.hid (P3.out.bel hbV)
  replace A2 := Lib.hid (A2.out.bel hbV)
  replace A3 := Lib.hid (A3.out.bel hbV)
  clear bV hbV hb hp
  go_wp2_with fail
  generalize v4.alloc (.cells #[.slice qd4 d4 cd4, .slice qr4 r4 cr4] 26) = V4 at *
  refine (KE.out _).mono ?_
  rintro _ v5 ⟨rfl, hb⟩
  have B5 := Lib.hid (B4.out.trans (hb.mono B4.out.size))
  replace P2 := Lib.hid (P2.out.bel hb)
  replace P3 := Lib.hid (P3.out.bel hb)
  replace P4 := Lib.hid (P4.out.bel hb)
  clear hb
  go_wp2_with fail
  refine (KF.out _).mono ?_
  rintro _ v6 ⟨rfl, hb⟩
  have B6 := Lib.hid (B5.out.trans (hb.mono B5.out.size))
  replace P2 := Lib.hid (P2.out.bel hb)
  replace P3 := Lib.hid (P3.out.bel hb)
  replace P4 := Lib.hid (P4.out.bel hb)
  clear hb
  by_cases h1 : 0 < n2
  · have e1 : decide ((0 : Int) < (n2 : Int)) = true := decide_eq_true (by omega)
    have e1' : decide (0 < n2) = true := decide_eq_true h1
    go_wp2_with fail
    go_ret
    exact ⟨rfl, B6.out⟩
  have e1 : decide ((0 : Int) < (n2 : Int)) = false := decide_eq_false (by omega)
  have e1' : decide (0 < n2) = false := decide_eq_false h1
  by_cases h2 : 0 < n3
  · have e2 : decide ((0 : Int) < (n3 : Int)) = true := decide_eq_true (by omega)
    have e2' : decide (0 < n3) = true := decide_eq_true h2
    go_wp2_with fail
    go_ret
    exact ⟨rfl, B6.out⟩
  have e2 : decide ((0 : Int) < (n3 : Int)) = false := decide_eq_false (by omega)
  have e2' : decide (0 < n3) = false := decide_eq_false h2
  by_cases h3 : ¬ N = 1
  · have e3 : (N == 1) = false := by simpa using h3
    have e3' : (N != 1) = true := by simpa using h3
    clear h3
    go_wp2_with fail
    go_ret
    exact ⟨rfl, B6.out⟩
  replace h3 : N = 1 := by omega
  have e3 : (N == 1) = true := by simpa using h3
  have e3' : (N != 1) = false := by simpa using h3
  have H3 := Lib.hid h3
  clear h3
  cases Bd with
  | false =>
    go_wp2_with fail
    go_ret
    exact ⟨rfl, B6.out⟩
  | true =>
    by_cases h4 : NA < 0
    · have e4 : decide (NA < 0) = true := decide_eq_true h4
      go_wp2_with fail
      go_ret
      exact ⟨rfl, B6.out⟩
    have e4 : decide (NA < 0) = false := decide_eq_false h4
    by_cases h5 : n4 = 0
    · have e5 : ((n4 : Int) == 0) = true := by simpa using h5
      have e5' : (n4 == 0) = true := by simpa using h5
      clear h5
      go_wp2_with fail
      go_ret
      exact ⟨rfl, B6.out⟩
    have e5 : ((n4 : Int) == 0) = false := by simpa using h5
    have e5' : (n4 == 0) = false := by simpa using h5
    have H5 := Lib.hid h5
    clear h5
    go_wp2_with fail
    refine (KG.out _).mono ?_
    rintro _ v7 ⟨qd7, cd7, qr7, cr7, qg7, cg7, ns7, rfl, hp, hb⟩
    have bV := (Below.refl _ v7).alloc (Nat.le_refl _) (.cells #[.slice qd7 d7 cd7, .slice qr7 r7 cr7] 26)
    have hbV := hb.trans (bV.mono hb.size)
    have B7 := Lib.hid (B6.out.trans (hbV.mono B6.out.size))
    have P7 := Lib.hid (hp.bel bV)
    have A7 := Lib.hid (At2.new v7 (.slice qd7 d7 cd7) (.slice qr7 r7 cr7) 26)
    replace P4 := Lib.hid (P4.out.bel hbV)
    clear bV hbV hb hp
    by_cases h6 : 0 < n7
    · have e6 : decide ((0 : Int) < (n7 : Int)) = true := decide_eq_true (by omega)
      have e6' : decide (0 < n7) = true := decide_eq_true h6
      have er : r7 = 0 := (R7.out h6)
      subst er
      go_wp2_with fail
      go_ret
      exact ⟨rfl, B7.out⟩
    have e6 : decide ((0 : Int) < (n7 : Int)) = false := decide_eq_false (by omega)
    have e6' : decide (0 < n7) = false := decide_eq_false h6
    obtain ⟨f1, f2, E, k4, k8, x4, x8, fa, fb, fc⟩ := (REC.out (by omega) (by omega) H3.out h4 H5.out (by omega)).resolve_right (by simp)
    go_wp2_with fail
    generalize v7.alloc (.cells #[.slice qd7 d7 cd7, .slice qr7 r7 cr7] 26) = V7 at *
    refine (KH.out _).mono ?_
    rintro _ v8 ⟨qd8, cd8, qr8, cr8, qg8, cg8, ns8, rfl, hp, hb⟩
    have bV := (Below.refl _ v8).alloc (Nat.le_refl _) (.cells #[.slice qd8 d8 cd8, .slice qr8 r8 cr8] 26)
    have hbV := hb.trans (bV.mono hb.size)
    have B8 := Lib.hid (B7.out.trans (hbV.mono B7.out.size))
    have P8 := Lib.hid (hp.bel bV)
    have A8 := Lib.hid (At2.new v8 (.slice qd8 d8 cd8) (.slice qr8 r8 cr8) 26)
    replace P4 := Lib.hid (P4.out.bel hbV)
    clear bV hbV hb hp
    subst f1 f2
    obtain ⟨g4, rfl, z4⟩ := P4.out.gr (by rw [HN4.out]; decide)
    obtain ⟨g8, rfl, z8⟩ := P8.out.gr (by rw [HN8.out]; decide)
    rw [x4] at z4
    rw [x8] at z8
    have y0 := z4 0 _ rfl
    have y1 := z4 1 _ rfl
    have u0 := z8 0 _ rfl
    have u1 := z8 1 _ rfl
    simp only at y0 y1 u0 u1
    clear z4 z8 x4 x8
    obtain ⟨a, ha⟩ : ∃ a, ofsR C k4 = a := ⟨_, rfl⟩
    rw [ha] at y0 fa fb fc
    rw [fa] at u0
    have t1 : IntKind.i64.wrap ((s0.size : Int) + 1) = (s0.size : Int) + 1 := IntWalk.i64_in _ (by omega)
    have t2 : IntKind.i64.wrap ((s0.size : Int) + 1 + a) = (s0.size : Int) + 1 + a := IntWalk.i64_in _ (by omega)
    have t3 : decide ((0 : Int) ≤ a) = true := decide_eq_true fb
    have t4 : decide (a < (s1.size : Int)) = true := decide_eq_true fc
    clear fa ha
    go_wp2_with fail
    go_quiet (fail)
    go_wp2_with fail
    go_ret
    exact ⟨rfl, below_drewN B8.out _⟩
set_option maxRecDepth 100000 in
set_option maxHeartbeats 2000000 in
theorem recovers_law (s0 s1 s2 : ByteArray) (w : World) : Calls Tryz.prog 6 #[.string s0, .string s1, .string s2] w fun e w' => e = .returned (.bool true) ∧ RowKit.Below w.heap.size w w' := by
  by_cases h0 : 2000 < s0.size
  · have l0 : decide ((2000 : Int) < (s0.size : Int)) = true := decide_eq_true (by omega)
    go_enter Tryz.func6, Tryz.ntmps6
    go_wp2_with fail
    refine (head_any _).mono ?_
    rintro _ w1 ⟨rfl, hb⟩
    have B1 := Lib.hid hb
    clear hb
    go_wp2_with fail
    go_ret
    exact ⟨rfl, B1.out⟩
  have l0 : decide ((2000 : Int) < (s0.size : Int)) = false := decide_eq_false (by omega)
  by_cases h1 : 2000 < s1.size
  · have l1 : decide ((2000 : Int) < (s1.size : Int)) = true := decide_eq_true (by omega)
    go_enter Tryz.func6, Tryz.ntmps6
    go_wp2_with fail
    refine (head_any _).mono ?_
    rintro _ w1 ⟨rfl, hb⟩
    have B1 := Lib.hid hb
    clear hb
    go_wp2_with fail
    go_ret
    exact ⟨rfl, B1.out⟩
  have l1 : decide ((2000 : Int) < (s1.size : Int)) = false := decide_eq_false (by omega)
  by_cases h2 : 2000 < s2.size
  · have l2 : decide ((2000 : Int) < (s2.size : Int)) = true := decide_eq_true (by omega)
    go_enter Tryz.func6, Tryz.ntmps6
    go_wp2_with fail
    refine (head_any _).mono ?_
    rintro _ w1 ⟨rfl, hb⟩
    have B1 := Lib.hid hb
    clear hb
    go_wp2_with fail
    go_ret
    exact ⟨rfl, B1.out⟩
  exact recovers_main s0 s1 s2 w (by omega) (by omega) (by omega)
end Go.Proofs.YtedbpjcglnkjmaaGreatDoor
