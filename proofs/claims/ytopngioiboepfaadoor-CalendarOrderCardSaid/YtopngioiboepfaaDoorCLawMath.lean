/-
  Plain mathematics of the laws on dates: round trip, succession, months, weeks. No program, no model.
-/
import Derived.Test.YtopngioiboepfaaDoorCMath
namespace Go.Proofs.YtopngioiboepfaaDoor
namespace Cal

theorem date_ok {d : Int} (h0 : 0 ≤ d) (h1 : d ≤ 36524) : ∃ n, n = MO d ∧ 0 ≤ n ∧ n ≤ 1199 ∧ dtY d = 2000 + n / 12 ∧ dtM d = n % 12 + 1 ∧ dtT d = d - MS n + 1 ∧ dtE d = 0 ∧ MS n ≤ d ∧ d < MS n + ML n := by
  obtain ⟨m0, m1, m2, m3⟩ := MO_spec h0 h1
  have e := (isD_iff d).2 ⟨h0, h1⟩
  refine ⟨MO d, rfl, m0, m1, ?_, ?_, ?_, ?_, m2, m3⟩
  · unfold dtY; rw [if_pos e]
  · unfold dtM; rw [if_pos e]
  · unfold dtT; rw [if_pos e]
  · unfold dtE; rw [if_pos e]
theorem date_no {d : Int} (h : ¬ (0 ≤ d ∧ d ≤ 36524)) : dtY d = 0 ∧ dtM d = 0 ∧ dtT d = 0 ∧ dtE d = 3 ∧ wdV d = 0 ∧ moV d = 0 := by
  have e : isD d = false := by
    cases c : isD d with
    | false => rfl
    | true => exact absurd ((isD_iff d).1 c) h
  unfold dtY dtM dtT dtE wdV moV; rw [e]; simp
theorem date_back {n t : Int} (n0 : 0 ≤ n) (n1 : n ≤ 1199) : (isT (2000 + n / 12) (n % 12 + 1) t = true ↔ 1 ≤ t ∧ t ≤ ML n) ∧ (1 ≤ t → t ≤ ML n → dyV (2000 + n / 12) (n % 12 + 1) t = MS n + t - 1 ∧ dyE (2000 + n / 12) (n % 12 + 1) t = 0) := by
  have e : (2000 + n / 12 - 2000) * 12 + (n % 12 + 1) - 1 = n := by omega
  have i : isT (2000 + n / 12) (n % 12 + 1) t = true ↔ 1 ≤ t ∧ t ≤ ML n := by
    rw [isT_iff, e]; omega
  refine ⟨i, fun a b => ?_⟩
  unfold dyV dyE
  rw [i.2 ⟨a, b⟩, e]; simp
theorem day_no {y m t : Int} (h : ¬ isT y m t = true) : dyV y m t = 0 ∧ dyE y m t = 3 := by
  unfold dyV dyE; rw [if_neg h, if_neg h]; exact ⟨rfl, rfl⟩

/-- The next day. -/
theorem succ_ok {d : Int} (h0 : 0 ≤ d) (h1 : d < 36524) : ∃ y m t y' m' t' x e : Int, 2000 ≤ y ∧ y ≤ 2099 ∧ 1 ≤ m ∧ m ≤ 12 ∧ 1 ≤ t ∧ t ≤ 31 ∧ (dtY d = y ∧ dtM d = m ∧ dtT d = t ∧ dtE d = 0) ∧ (dtY (d + 1) = y' ∧ dtM (d + 1) = m' ∧ dtT (d + 1) = t' ∧ dtE (d + 1) = 0) ∧ (dyV y m (t + 1) = x ∧ dyE y m (t + 1) = e) ∧
    ((e = 0 ∧ y' = y ∧ m' = m ∧ t' = t + 1) ∨ (e = 3 ∧ y' = y ∧ m' = m + 1 ∧ t' = 1) ∨ (e = 3 ∧ y' = y + 1 ∧ m = 12 ∧ m' = 1 ∧ t' = 1)) := by
  obtain ⟨n, hn, n0, n1, a1, a2, a3, a4, a5, a6⟩ := date_ok h0 (by omega : d ≤ 36524)
  obtain ⟨k, hk, k0, k1, b1, b2, b3, b4, b5, b6⟩ := date_ok (show 0 ≤ d + 1 by omega) (by omega : d + 1 ≤ 36524)
  have hb := ML_bd n
  obtain ⟨c1, c2⟩ := date_back (t := d - MS n + 1 + 1) n0 n1
  refine ⟨2000 + n / 12, n % 12 + 1, d - MS n + 1, 2000 + k / 12, k % 12 + 1, d + 1 - MS k + 1, _, _, by omega, by omega, by omega, by omega, by omega, by omega, ⟨a1, a2, a3, a4⟩, ⟨b1, b2, b3, b4⟩, ⟨rfl, rfl⟩, ?_⟩
  by_cases h : d + 1 < MS n + ML n
  · have e : k = n := by rw [hk]; exact MO_uniq (by omega) (by omega) n0 (by omega) h
    subst e
    obtain ⟨_, c4⟩ := c2 (by omega) (by omega)
    left
    exact ⟨c4, rfl, rfl, by omega⟩
  · have s := MS_succ n0
    have hb1 := ML_bd (n + 1)
    have n2 : n < 1199 := by
      rcases (show n < 1199 ∨ n = 1199 by omega) with z | z
      · exact z
      · have z2 := MS_end
        rw [z] at s
        rw [show (1199 : Int) + 1 = 1200 by rfl, z2] at s
        rw [z] at h
        omega
    have e : k = n + 1 := by rw [hk]; exact MO_uniq (by omega) (by omega) (by omega) (by omega) (by omega)
    have c5 := (day_no (fun z => by have := c1.1 z; omega)).2
    right
    by_cases z : n % 12 = 11
    · right; exact ⟨c5, by omega, by omega, by omega, by rw [e, s]; omega⟩
    · left; exact ⟨c5, by omega, by omega, by rw [e, s]; omega⟩

/-- From a day to its date and back. -/
theorem trip_ok {d : Int} (h0 : 0 ≤ d) (h1 : d ≤ 36524) : dyV (dtY d) (dtM d) (dtT d) = d ∧ dyE (dtY d) (dtM d) (dtT d) = 0 ∧ dtE d = 0 := by
  obtain ⟨n, hn, n0, n1, a1, a2, a3, a4, a5, a6⟩ := date_ok h0 h1
  rw [a1, a2, a3, a4]
  obtain ⟨c3, c4⟩ := (date_back (t := d - MS n + 1) n0 n1).2 (by omega) (by omega)
  exact ⟨by rw [c3]; omega, c4, rfl⟩
/-- From a date to its day and back. -/
theorem trip_back {y m t : Int} (h : isT y m t = true) : dyE y m t = 0 ∧ dtY (dyV y m t) = y ∧ dtM (dyV y m t) = m ∧ dtT (dyV y m t) = t ∧ dtE (dyV y m t) = 0 := by
  obtain ⟨r, e⟩ := day_range h
  obtain ⟨h1, h2, h3, h4, h5, h6⟩ := (isT_iff y m t).1 h
  have ev : dyV y m t = MS ((y - 2000) * 12 + m - 1) + t - 1 := by unfold dyV; rw [if_pos h]
  refine ⟨by unfold dyE; rw [if_pos h], ?_, ?_, ?_, ?_⟩
  · rw [ev]; unfold dtY; rw [if_pos r, e]; omega
  · rw [ev]; unfold dtM; rw [if_pos r, e]; omega
  · rw [ev]; unfold dtT; rw [if_pos r, e]; omega
  · rw [ev]; unfold dtE; rw [if_pos r]

/-- 28 years later. -/
theorem weeks_ok {d : Int} (h0 : 0 ≤ d) (h1 : d ≤ 36524) : ∃ y m t : Int, 2000 ≤ y ∧ y ≤ 2099 ∧ 1 ≤ m ∧ m ≤ 12 ∧ 1 ≤ t ∧ t ≤ 31 ∧ (dtY d = y ∧ dtM d = m ∧ dtT d = t ∧ dtE d = 0) ∧
    (y + 28 ≤ 2099 → dyV (y + 28) m t = d + 10227 ∧ dyE (y + 28) m t = 0 ∧ d + 10227 ≤ 36524) := by
  obtain ⟨n, hn, n0, n1, a1, a2, a3, a4, a5, a6⟩ := date_ok h0 h1
  have hb := ML_bd n
  refine ⟨_, _, _, by omega, by omega, by omega, by omega, by omega, by omega, ⟨a1, a2, a3, a4⟩, fun h => ?_⟩
  obtain ⟨c3, c4⟩ := (date_back (n := n + 336) (t := d - MS n + 1) (by omega) (by omega)).2 (by omega) (by rw [ML_28 n0]; omega)
  rw [MS_28 n0] at c3
  rw [show 2000 + n / 12 + 28 = 2000 + (n + 336) / 12 by omega, show n % 12 = (n + 336) % 12 by omega]
  have s := MS_succ (show 0 ≤ n + 336 by omega)
  rw [MS_28 n0, ML_28 n0] at s
  have l := MS_le (show n + 336 + 1 ≤ 1200 by omega)
  exact ⟨by rw [c3]; omega, c4, by omega⟩

/-- The days of a month, and those of the month before, and eleven months before. -/
theorem months_ok {m : Int} (h0 : 0 ≤ m) (h1 : m ≤ 1199) : dsF m = MS m ∧ dsU m = MS m + ML m ∧ dsE m = 0 := by
  have e : isM m = true := (isM_iff m).2 ⟨h0, h1⟩
  unfold dsF dsU dsE; rw [e]; simp
theorem months_before {m : Int} (h0 : 0 < m) (h1 : m ≤ 1199) : dsU (m - 1) = MS m ∧ dsE (m - 1) = 0 := by
  obtain ⟨a, b, c⟩ := months_ok (show 0 ≤ m - 1 by omega) (show m - 1 ≤ 1199 by omega)
  have s := MS_succ (show 0 ≤ m - 1 by omega)
  rw [show m - 1 + 1 = m by omega] at s
  exact ⟨by omega, c⟩
theorem months_year {m : Int} (h0 : 11 ≤ m) (h1 : m ≤ 1199) : dsE (m - 11) = 0 ∧ (MS m + ML m - dsF (m - 11) = 365 ∨ MS m + ML m - dsF (m - 11) = 366) := by
  obtain ⟨a, b, c⟩ := months_ok (show 0 ≤ m - 11 by omega) (show m - 11 ≤ 1199 by omega)
  have s := MS_succ (show 0 ≤ m by omega)
  have t := MS_twelve (show 0 ≤ m - 11 by omega)
  rw [show m - 11 + 12 = m + 1 by omega] at t
  exact ⟨c, by omega⟩
theorem months_of {m d : Int} (h0 : 0 ≤ m) (h1 : m ≤ 1199) : (MS m ≤ d ∧ d < MS m + ML m) ↔ (dtE d = 0 ∧ moV d = m) := by
  have u := MS_succ h0
  have l := MS_le (show m + 1 ≤ 1200 by omega)
  have n := MS_nonneg m
  by_cases hd : 0 ≤ d ∧ d ≤ 36524
  · have e := (isD_iff d).2 hd
    unfold dtE moV
    rw [if_pos e, if_pos e]
    constructor
    · intro ⟨a, b⟩; exact ⟨rfl, MO_uniq hd.1 hd.2 h0 a b⟩
    · rintro ⟨_, rfl⟩
      obtain ⟨_, _, m2, m3⟩ := MO_spec hd.1 hd.2
      exact ⟨m2, m3⟩
  · obtain ⟨_, _, _, e, _, _⟩ := date_no hd
    rw [e]
    constructor
    · intro ⟨a, b⟩; omega
    · rintro ⟨a, _⟩; omega
end Cal
end Go.Proofs.YtopngioiboepfaaDoor
