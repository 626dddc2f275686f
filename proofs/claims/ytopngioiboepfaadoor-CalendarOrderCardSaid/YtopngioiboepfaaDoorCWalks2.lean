/-
  Contracts of calendar.Date, Day, Weekday, Month, Days.
-/
import Derived.Test.YtopngioiboepfaaDoorCWalks1
namespace Go.Proofs.YtopngioiboepfaaDoor
open Go.RowKit Cal

theorem ret_4 {a b c d a' b' c' d' : Int} (h : a = a') (h1 : b = b') (h2 : c = c') (h3 : d = d') : Ending.returned (.tuple #[.int .i64 a, .int .i64 b, .int .i64 c, .int .i64 d]) = .returned (.tuple #[.int .i64 a', .int .i64 b', .int .i64 c', .int .i64 d']) := by rw [h, h1, h2, h3]

set_option maxHeartbeats 1000000 in
theorem Date_any (d : Int) (w : World) (hT : Tab w) : Calls Tryd.prog 13 #[.int .i64 d] w fun e w' => e = .returned (.tuple #[.int .i64 (dtY d), .int .i64 (dtM d), .int .i64 (dtT d), .int .i64 (dtE d)]) ∧ w = w' := by
  have HT := Lib.hid hT
  clear hT
  cases h : isD d with
  | false =>
    have k : ∀ w : World, Calls Tryd.prog 28 #[.int .i64 d] w fun e w' => e = .returned (.bool false) ∧ w = w' := fun w => by rw [← h]; exact isDay_any d w
    have K := Lib.hid k
    have E : Hid (dtY d = 0 ∧ dtM d = 0 ∧ dtT d = 0 ∧ dtE d = 3) := by show _ ∧ _; unfold dtY dtM dtT dtE; rw [h]; simp
    clear k h
    go_enter Tryd.func13, Tryd.ntmps13
    go_wp2_with ((with_reducible refine (K.out _).mono ?_); rintro e w' ⟨rfl, rfl⟩)
    exact bodyPost_ret (v := .tuple #[.int .i64 0, .int .i64 0, .int .i64 0, .int .i64 3]) (by simp [results, Tryd.results13, go_sem]) rfl ⟨ret_4 E.out.1.symm E.out.2.1.symm E.out.2.2.1.symm E.out.2.2.2.symm, rfl⟩
  | true =>
    have k : ∀ w : World, Calls Tryd.prog 28 #[.int .i64 d] w fun e w' => e = .returned (.bool true) ∧ w = w' := fun w => by rw [← h]; exact isDay_any d w
    have K := Lib.hid k
    have hd := (isD_iff d).1 h
    obtain ⟨m0, m1, m2, m3⟩ := MO_spec hd.1 hd.2
    obtain ⟨m, hm⟩ : ∃ m, m = MO d := ⟨_, rfl⟩
    obtain ⟨t, ht⟩ : ∃ t, t = d - MS (MO d) + 1 := ⟨_, rfl⟩
    have k2 : ∀ w : World, Tab w → Calls Tryd.prog 29 #[.int .i64 d] w fun e w' => e = .returned (.tuple #[.int .i64 m, .int .i64 t]) ∧ w = w' := fun w hw => by rw [ht, hm]; exact locate_any d w hw hd.1 hd.2
    have K2 := Lib.hid k2
    have E : Hid (dtY d = 2000 + m / 12 ∧ dtM d = m % 12 + 1 ∧ dtT d = t ∧ dtE d = 0) := by show _ ∧ _; unfold dtY dtM dtT dtE; rw [h, hm, ht]; simp
    rw [← hm] at m0 m1
    clear k k2 h m2 m3 hm ht
    go_enter Tryd.func13, Tryd.ntmps13
    go_wp2_with (first | ((with_reducible refine (K.out _).mono ?_); rintro e w' ⟨rfl, rfl⟩) | ((with_reducible refine (K2.out _ HT.out).mono ?_); rintro e w' ⟨rfl, rfl⟩))
    exact bodyPost_ret (v := .tuple #[.int .i64 (2000 + m / 12), .int .i64 (m % 12 + 1), .int .i64 t, .int .i64 0]) (by simp [results, Tryd.results13, go_sem]) rfl ⟨ret_4 E.out.1.symm E.out.2.1.symm E.out.2.2.1.symm E.out.2.2.2.symm, rfl⟩

set_option maxHeartbeats 1000000 in
theorem Month_any (d : Int) (w : World) (hT : Tab w) : Calls Tryd.prog 19 #[.int .i64 d] w fun e w' => e = .returned (.tuple #[.int .i64 (moV d), .int .i64 (dtE d)]) ∧ w = w' := by
  have HT := Lib.hid hT
  clear hT
  cases h : isD d with
  | false =>
    have k : ∀ w : World, Calls Tryd.prog 28 #[.int .i64 d] w fun e w' => e = .returned (.bool false) ∧ w = w' := fun w => by rw [← h]; exact isDay_any d w
    have K := Lib.hid k
    have E : Hid (moV d = 0 ∧ dtE d = 3) := by show _ ∧ _; unfold moV dtE; rw [h]; simp
    clear k h
    go_enter Tryd.func19, Tryd.ntmps19
    go_wp2_with ((with_reducible refine (K.out _).mono ?_); rintro e w' ⟨rfl, rfl⟩)
    go_ret2
    exact ⟨ret_2 E.out.1.symm E.out.2.symm, rfl⟩
  | true =>
    have k : ∀ w : World, Calls Tryd.prog 28 #[.int .i64 d] w fun e w' => e = .returned (.bool true) ∧ w = w' := fun w => by rw [← h]; exact isDay_any d w
    have K := Lib.hid k
    have hd := (isD_iff d).1 h
    obtain ⟨m, hm⟩ : ∃ m, m = MO d := ⟨_, rfl⟩
    obtain ⟨t, ht⟩ : ∃ t, t = d - MS (MO d) + 1 := ⟨_, rfl⟩
    have k2 : ∀ w : World, Tab w → Calls Tryd.prog 29 #[.int .i64 d] w fun e w' => e = .returned (.tuple #[.int .i64 m, .int .i64 t]) ∧ w = w' := fun w hw => by rw [ht, hm]; exact locate_any d w hw hd.1 hd.2
    have K2 := Lib.hid k2
    have E : Hid (moV d = m ∧ dtE d = 0) := by show _ ∧ _; unfold moV dtE; rw [h, hm]; simp
    clear k k2 h hm ht
    go_enter Tryd.func19, Tryd.ntmps19
    go_wp2_with (first | ((with_reducible refine (K.out _).mono ?_); rintro e w' ⟨rfl, rfl⟩) | ((with_reducible refine (K2.out _ HT.out).mono ?_); rintro e w' ⟨rfl, rfl⟩))
    go_ret2
    exact ⟨ret_2 E.out.1.symm E.out.2.symm, rfl⟩

set_option maxHeartbeats 1000000 in
theorem Weekday_any (d : Int) (w : World) : Calls Tryd.prog 17 #[.int .i64 d] w fun e w' => e = .returned (.tuple #[.int .i64 (wdV d), .int .i64 (dtE d)]) ∧ w = w' := by
  cases h : isD d with
  | false =>
    have k : ∀ w : World, Calls Tryd.prog 28 #[.int .i64 d] w fun e w' => e = .returned (.bool false) ∧ w = w' := fun w => by rw [← h]; exact isDay_any d w
    have K := Lib.hid k
    have E : Hid (wdV d = 0 ∧ dtE d = 3) := by show _ ∧ _; unfold wdV dtE; rw [h]; simp
    clear k h
    go_enter Tryd.func17, Tryd.ntmps17
    go_wp2_with ((with_reducible refine (K.out _).mono ?_); rintro e w' ⟨rfl, rfl⟩)
    go_ret2
    exact ⟨ret_2 E.out.1.symm E.out.2.symm, rfl⟩
  | true =>
    have k : ∀ w : World, Calls Tryd.prog 28 #[.int .i64 d] w fun e w' => e = .returned (.bool true) ∧ w = w' := fun w => by rw [← h]; exact isDay_any d w
    have K := Lib.hid k
    have hd := (isD_iff d).1 h
    have E : Hid (wdV d = (d + 5) % 7 ∧ dtE d = 0) := by show _ ∧ _; unfold wdV dtE; rw [h]; simp
    have k2 : ∀ w : World, Calls Tryd.prog 35 #[.int .i64 d] w fun e w' => e = .returned (.int .i64 ((d + 5) % 7)) ∧ w = w' := fun w => weekday_any d w hd.1 (by omega)
    have K2 := Lib.hid k2
    clear k k2 h
    go_enter Tryd.func17, Tryd.ntmps17
    go_wp2_with (first | ((with_reducible refine (K.out _).mono ?_); rintro e w' ⟨rfl, rfl⟩) | ((with_reducible refine (K2.out _).mono ?_); rintro e w' ⟨rfl, rfl⟩))
    go_ret2
    exact ⟨ret_2 E.out.1.symm E.out.2.symm, rfl⟩

theorem dy_bad {y m t : Int} (h : ¬ (2000 ≤ y ∧ y ≤ 2099 ∧ 1 ≤ m ∧ m ≤ 12 ∧ 1 ≤ t ∧ t ≤ ML ((y - 2000) * 12 + m - 1))) : 0 = dyV y m t ∧ 3 = dyE y m t := by
  have e : isT y m t = false := by
    cases c : isT y m t with
    | false => rfl
    | true => exact absurd ((isT_iff _ _ _).1 c) h
  unfold dyV dyE; rw [e]; simp

set_option maxHeartbeats 2000000 in
theorem Day_any (y m t : Int) (w : World) (hT : Tab w) : Calls Tryd.prog 15 #[.int .i64 y, .int .i64 m, .int .i64 t] w fun e w' => e = .returned (.tuple #[.int .i64 (dyV y m t), .int .i64 (dyE y m t)]) ∧ w = w' := by
  have HT := Lib.hid hT
  clear hT
  by_cases h1 : 2000 ≤ y
  · by_cases h2 : y ≤ 2099
    · by_cases h3 : 1 ≤ m
      · by_cases h4 : m ≤ 12
        · by_cases h5 : 1 ≤ t
          · obtain ⟨n, hn⟩ : ∃ n, n = (y - 2000) * 12 + m - 1 := ⟨_, rfl⟩
            have n0 : 0 ≤ n := by omega
            have n1 : n ≤ 1199 := by omega
            obtain ⟨x, hx⟩ : ∃ x, x = ML n := ⟨_, rfl⟩
            obtain ⟨s, hs⟩ : ∃ s, s = MS n := ⟨_, rfl⟩
            have hb := ML_bd n
            have s0 := MS_nonneg n
            have s1 := MS_le (show n ≤ 1200 by omega)
            have k1 : ∀ w : World, Tab w → Calls Tryd.prog 33 #[.int .i64 n] w fun e w' => e = .returned (.int .i64 x) ∧ w = w' := fun w hw => by rw [hx]; exact length_any n w hw n0 (by omega)
            have k2 : ∀ w : World, Tab w → Calls Tryd.prog 34 #[.int .i64 n] w fun e w' => e = .returned (.int .i64 s) ∧ w = w' := fun w hw => by rw [hs]; exact start_any n w hw n0 (by omega)
            have K1 := Lib.hid k1
            have K2 := Lib.hid k2
            rw [← hx] at hb
            rw [← hs] at s0 s1
            have hn2 : (y - 2000) * 12 + m - 1 = n := hn.symm
            by_cases h6 : t ≤ x
            · have E : Hid (s + t - 1 = dyV y m t ∧ 0 = dyE y m t) := by
                have e : isT y m t = true := (isT_iff _ _ _).2 ⟨h1, h2, h3, h4, h5, by rw [← hn, ← hx]; exact h6⟩
                show _ ∧ _
                unfold dyV dyE
                rw [e, ← hn, ← hs]; simp
              clear k1 k2 hx hs hn
              go_enter Tryd.func15, Tryd.ntmps15
              go_wp2_with (first | ((with_reducible refine (K1.out _ HT.out).mono ?_); rintro e w' ⟨rfl, rfl⟩) | ((with_reducible refine (K2.out _ HT.out).mono ?_); rintro e w' ⟨rfl, rfl⟩))
              go_ret2
              exact ⟨ret_2 E.out.1 E.out.2, rfl⟩
            · have E := Lib.hid (dy_bad (y := y) (m := m) (t := t) (by rw [← hn, ← hx]; omega))
              clear k1 k2 hx hs hn
              go_enter Tryd.func15, Tryd.ntmps15
              go_wp2_with ((with_reducible refine (K1.out _ HT.out).mono ?_); rintro e w' ⟨rfl, rfl⟩)
              go_ret2
              exact ⟨ret_2 E.out.1 E.out.2, rfl⟩
          · have E := Lib.hid (dy_bad (y := y) (m := m) (t := t) (by omega))
            go_enter Tryd.func15, Tryd.ntmps15
            go_wp2_with fail
            go_ret2
            exact ⟨ret_2 E.out.1 E.out.2, rfl⟩
        · have E := Lib.hid (dy_bad (y := y) (m := m) (t := t) (by omega))
          go_enter Tryd.func15, Tryd.ntmps15
          go_wp2_with fail
          go_ret2
          exact ⟨ret_2 E.out.1 E.out.2, rfl⟩
      · have E := Lib.hid (dy_bad (y := y) (m := m) (t := t) (by omega))
        go_enter Tryd.func15, Tryd.ntmps15
        go_wp2_with fail
        go_ret2
        exact ⟨ret_2 E.out.1 E.out.2, rfl⟩
    · have E := Lib.hid (dy_bad (y := y) (m := m) (t := t) (by omega))
      go_enter Tryd.func15, Tryd.ntmps15
      go_wp2_with fail
      go_ret2
      exact ⟨ret_2 E.out.1 E.out.2, rfl⟩
  · have E := Lib.hid (dy_bad (y := y) (m := m) (t := t) (by omega))
    go_enter Tryd.func15, Tryd.ntmps15
    go_wp2_with fail
    go_ret2
    exact ⟨ret_2 E.out.1 E.out.2, rfl⟩

theorem ds_bad {m : Int} (h : ¬ (0 ≤ m ∧ m ≤ 1199)) : dsF m = 0 ∧ dsU m = 0 ∧ dsE m = 3 := by
  have e : isM m = false := by
    cases c : isM m with
    | false => rfl
    | true => exact absurd ((isM_iff _).1 c) h
  unfold dsF dsU dsE; rw [e]; simp

set_option maxHeartbeats 2000000 in
theorem Days_any (m : Int) (w : World) (hT : Tab w) : Calls Tryd.prog 21 #[.int .i64 m] w fun e w' => e = .returned (.tuple #[.agg #[.int .i64 (dsF m), .int .i64 (dsU m)], .int .i64 (dsE m)]) ∧ Below w.heap.size w w' := by
  have HT := Lib.hid hT
  clear hT
  by_cases h1 : 0 ≤ m
  · by_cases h2 : m ≤ 1199
    · obtain ⟨x, hx⟩ : ∃ x, x = ML m := ⟨_, rfl⟩
      obtain ⟨s, hs⟩ : ∃ s, s = MS m := ⟨_, rfl⟩
      have hb := ML_bd m
      have s0 := MS_nonneg m
      have s1 := MS_le (show m ≤ 1200 by omega)
      have k1 : ∀ w : World, Tab w → Calls Tryd.prog 33 #[.int .i64 m] w fun e w' => e = .returned (.int .i64 x) ∧ w = w' := fun w hw => by rw [hx]; exact length_any m w hw h1 (by omega)
      have k2 : ∀ w : World, Tab w → Calls Tryd.prog 34 #[.int .i64 m] w fun e w' => e = .returned (.int .i64 s) ∧ w = w' := fun w hw => by rw [hs]; exact start_any m w hw h1 (by omega)
      have K1 := Lib.hid k1
      have K2 := Lib.hid k2
      have E : dsF m = s ∧ dsU m = s + x ∧ dsE m = 0 := by
        have e : isM m = true := (isM_iff _).2 ⟨h1, h2⟩
        unfold dsF dsU dsE
        rw [e, ← hs, ← hx]; simp
      rw [E.1, E.2.1, E.2.2]
      rw [← hx] at hb
      rw [← hs] at s0 s1
      have HA : Tab (w.alloc (.cells #[.int .i64 0, .int .i64 0] 32)) := HT.out.below ((Below.refl _ _).alloc (Nat.le_refl _) _)
      have HAH := Lib.hid HA
      clear k1 k2 hx hs E HA
      go_enter Tryd.func21, Tryd.ntmps21
      go_wp2_with (first | ((with_reducible refine (K1.out _ HAH.out).mono ?_); rintro e w' ⟨rfl, rfl⟩) | ((with_reducible refine (K2.out _ HAH.out).mono ?_); rintro e w' ⟨rfl, rfl⟩))
      exact bodyPost_ret (v := .tuple #[.agg #[.int .i64 s, .int .i64 (s + x)], .int .i64 0]) (by simp [results, Tryd.results21, go_sem]) rfl ⟨rfl, (by repeat' (first | exact Below.refl _ _ | refine Below.setCell ?_ (by first | omega | (simp; done) | (simp; omega)) _ | refine Below.alloc ?_ (by first | omega | (simp; done) | (simp; omega)) _))⟩
    · obtain ⟨e1, e2, e3⟩ := ds_bad (m := m) (by omega)
      rw [e1, e2, e3]
      clear e1 e2 e3
      go_enter Tryd.func21, Tryd.ntmps21
      go_wp2_with fail
      exact bodyPost_ret (v := .tuple #[.agg #[.int .i64 0, .int .i64 0], .int .i64 3]) (by simp [results, Tryd.results21, go_sem]) rfl ⟨rfl, (by repeat' (first | exact Below.refl _ _ | refine Below.setCell ?_ (by first | omega | (simp; done) | (simp; omega)) _ | refine Below.alloc ?_ (by first | omega | (simp; done) | (simp; omega)) _))⟩
  · obtain ⟨e1, e2, e3⟩ := ds_bad (m := m) (by omega)
    rw [e1, e2, e3]
    clear e1 e2 e3
    go_enter Tryd.func21, Tryd.ntmps21
    go_wp2_with fail
    exact bodyPost_ret (v := .tuple #[.agg #[.int .i64 0, .int .i64 0], .int .i64 3]) (by simp [results, Tryd.results21, go_sem]) rfl ⟨rfl, (by repeat' (first | exact Below.refl _ _ | refine Below.setCell ?_ (by first | omega | (simp; done) | (simp; omega)) _ | refine Below.alloc ?_ (by first | omega | (simp; done) | (simp; omega)) _))⟩
end Go.Proofs.YtopngioiboepfaaDoor
