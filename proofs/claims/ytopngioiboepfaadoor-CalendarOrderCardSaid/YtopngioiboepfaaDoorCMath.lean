/-
  Plain mathematics of the calendar: lengths and first days of months, the month of a day, days of the week. No program, no model.
-/
namespace Go.Proofs.YtopngioiboepfaaDoor
namespace Cal

/-- The lengths of the months of a year that is no leap year. -/
def lens : List Nat := [31, 28, 31, 30, 31, 30, 31, 31, 30, 31, 30, 31]
/-- The length of a month; months are counted from 0 on. -/
def ml (m : Nat) : Nat := lens.getD (m % 12) 0 + if m % 12 = 1 ∧ m / 12 % 4 = 0 then 1 else 0
/-- The first day of a month. -/
def ms : Nat → Nat
  | 0 => 0
  | m + 1 => ms m + ml m

theorem ms_succ (m : Nat) : ms (m + 1) = ms m + ml m := rfl
theorem lens_bd (k : Nat) (h : k < 12) : 28 ≤ lens.getD k 0 ∧ lens.getD k 0 ≤ 31 :=
  (show ∀ k < 12, 28 ≤ lens.getD k 0 ∧ lens.getD k 0 ≤ 31 by decide) k h
theorem ml_bd (m : Nat) : 28 ≤ ml m ∧ ml m ≤ 31 := by
  have h := lens_bd (m % 12) (Nat.mod_lt _ (by omega))
  unfold ml
  by_cases h1 : m % 12 = 1
  · rw [h1]
    have e : lens.getD 1 0 = 28 := rfl
    rw [e]; split <;> omega
  · rw [if_neg (by omega)]; omega
theorem ml_cyc (m : Nat) : ml (48 + m) = ml m := by
  unfold ml
  rw [show (48 + m) % 12 = m % 12 by omega, show (48 + m) / 12 % 4 = m / 12 % 4 by omega]
theorem ms_cyc (m : Nat) : ms (48 + m) = 1461 + ms m := by
  induction m with
  | zero => decide +kernel
  | succ m ih => rw [show 48 + (m + 1) = (48 + m) + 1 by omega, ms_succ, ih, ml_cyc, ms_succ]; omega
theorem ms_cycs (c m : Nat) : ms (48 * c + m) = 1461 * c + ms m := by
  induction c with
  | zero => simp
  | succ c ih => rw [show 48 * (c + 1) + m = 48 + (48 * c + m) by omega, ms_cyc, ih]; omega
theorem ms_year (y : Nat) : ms (12 * y) = 365 * y + (y + 3) / 4 := by
  obtain ⟨c, j, h, e⟩ : ∃ c j, j < 4 ∧ y = 4 * c + j := ⟨y / 4, y % 4, by omega, by omega⟩
  subst e
  rw [show 12 * (4 * c + j) = 48 * c + 12 * j by omega, ms_cycs]
  have e : ms (12 * j) = 365 * j + (j + 3) / 4 := (show ∀ j < 4, ms (12 * j) = 365 * j + (j + 3) / 4 by decide +kernel) j h
  rw [e]; omega
theorem ms_mono {a b : Nat} (h : a ≤ b) : ms a ≤ ms b := by
  induction b with
  | zero => rw [Nat.le_zero.1 h]; exact Nat.le_refl _
  | succ b ih =>
    rcases Nat.lt_or_ge b a with x | x
    · rw [show a = b + 1 by omega]; exact Nat.le_refl _
    · have := ih x; rw [ms_succ]; omega
theorem ms_strict {a b : Nat} (h : a < b) : ms a < ms b := by
  have h1 := ms_mono (show a + 1 ≤ b by omega)
  have h2 := ml_bd a
  rw [ms_succ] at h1; omega
theorem ms_end : ms 1200 = 36525 := by rw [show 1200 = 12 * 100 by rfl, ms_year]
theorem ms_le {m : Nat} (h : m ≤ 1200) : ms m ≤ 36525 := by rw [← ms_end]; exact ms_mono h
/-- Twelve months in a row. -/
theorem ms_twelve (m : Nat) : ms (m + 12) = ms m + 365 ∨ ms (m + 12) = ms m + 366 := by
  obtain ⟨c, j, h, e⟩ : ∃ c j, j < 48 ∧ m = 48 * c + j := ⟨m / 48, m % 48, by omega, by omega⟩
  subst e
  rw [show 48 * c + j + 12 = 48 * c + (j + 12) by omega, ms_cycs, ms_cycs]
  have e : ms (j + 12) = ms j + 365 ∨ ms (j + 12) = ms j + 366 := (show ∀ j < 48, ms (j + 12) = ms j + 365 ∨ ms (j + 12) = ms j + 366 by decide +kernel) j h
  omega
theorem ms_28 (m : Nat) : ms (m + 336) = ms m + 10227 := by
  rw [show m + 336 = 48 * 7 + m by omega, ms_cycs]; omega
theorem ml_28 (m : Nat) : ml (m + 336) = ml m := by
  unfold ml
  rw [show (m + 336) % 12 = m % 12 by omega, show (m + 336) / 12 % 4 = m / 12 % 4 by omega]

/-- The greatest month up to f that does not begin behind a day. -/
def moF (d : Nat) : Nat → Nat
  | 0 => 0
  | f + 1 => if ms (f + 1) ≤ d then f + 1 else moF d f
theorem moF_le (d f : Nat) : moF d f ≤ f := by
  induction f with
  | zero => exact Nat.le_refl _
  | succ f ih => unfold moF; split <;> omega
theorem moF_ms (d f : Nat) : ms (moF d f) ≤ d := by
  induction f with
  | zero => exact Nat.zero_le _
  | succ f ih => unfold moF; split <;> assumption
theorem moF_max (d f k : Nat) (h : moF d f < k) (hk : k ≤ f) : d < ms k := by
  induction f with
  | zero => omega
  | succ f ih =>
    unfold moF at h
    split at h
    · omega
    · by_cases e : k = f + 1
      · subst e; omega
      · exact ih h (by omega)
/-- The month of a day. -/
def mo (d : Nat) : Nat := moF d 1199
theorem mo_spec (d : Nat) (h : d ≤ 36524) : mo d ≤ 1199 ∧ ms (mo d) ≤ d ∧ d < ms (mo d + 1) := by
  refine ⟨moF_le _ _, moF_ms _ _, ?_⟩
  by_cases e : mo d = 1199
  · rw [e, ms_end]; omega
  · exact moF_max d 1199 (mo d + 1) (by unfold mo; omega) (by have := moF_le d 1199; unfold mo at *; omega)
theorem mo_uniq (d m : Nat) (h : d ≤ 36524) (h1 : ms m ≤ d) (h2 : d < ms (m + 1)) : mo d = m := by
  obtain ⟨_, k1, k2⟩ := mo_spec d h
  rcases Nat.lt_trichotomy (mo d) m with x | x | x
  · have := ms_mono (show mo d + 1 ≤ m by omega); omega
  · exact x
  · have := ms_mono (show m + 1 ≤ mo d by omega); omega

/-- The same for integers. -/
def ML (m : Int) : Int := (ml m.toNat : Int)
def MS (m : Int) : Int := (ms m.toNat : Int)
def MO (d : Int) : Int := (mo d.toNat : Int)

theorem toNat_succ {m : Int} (h : 0 ≤ m) : (m + 1).toNat = m.toNat + 1 := by omega
theorem ML_bd (m : Int) : 28 ≤ ML m ∧ ML m ≤ 31 := by have := ml_bd m.toNat; unfold ML; omega
theorem MS_succ {m : Int} (h : 0 ≤ m) : MS (m + 1) = MS m + ML m := by unfold MS ML; rw [toNat_succ h, ms_succ]; omega
theorem MS_zero : MS 0 = 0 := rfl
theorem MS_nonneg (m : Int) : 0 ≤ MS m := by unfold MS; omega
theorem MS_mono {a b : Int} (h : a ≤ b) : MS a ≤ MS b := by
  have := ms_mono (show a.toNat ≤ b.toNat by omega); unfold MS; omega
theorem MS_le {m : Int} (h : m ≤ 1200) : MS m ≤ 36525 := by
  have := ms_le (show m.toNat ≤ 1200 by omega); unfold MS; omega
theorem MS_year {y : Int} (h : 0 ≤ y) : MS (12 * y) = 365 * y + (y + 3) / 4 := by
  unfold MS
  rw [show (12 * y).toNat = 12 * y.toNat by omega, ms_year]; omega
theorem MS_year' {y : Int} (h : 0 ≤ y) : MS (y * 12) = 365 * y + (y + 3) / 4 := by rw [Int.mul_comm]; exact MS_year h
theorem MS_end : MS 1200 = 36525 := by unfold MS; rw [show (1200 : Int).toNat = 1200 by rfl, ms_end]; rfl
theorem MS_twelve {m : Int} (h : 0 ≤ m) : MS (m + 12) = MS m + 365 ∨ MS (m + 12) = MS m + 366 := by
  have := ms_twelve m.toNat
  unfold MS
  rw [show (m + 12).toNat = m.toNat + 12 by omega]; omega
theorem MS_28 {m : Int} (h : 0 ≤ m) : MS (m + 336) = MS m + 10227 := by
  unfold MS; rw [show (m + 336).toNat = m.toNat + 336 by omega, ms_28]; omega
theorem ML_28 {m : Int} (h : 0 ≤ m) : ML (m + 336) = ML m := by
  unfold ML; rw [show (m + 336).toNat = m.toNat + 336 by omega, ml_28]
theorem MO_spec {d : Int} (h0 : 0 ≤ d) (h : d ≤ 36524) : 0 ≤ MO d ∧ MO d ≤ 1199 ∧ MS (MO d) ≤ d ∧ d < MS (MO d) + ML (MO d) := by
  obtain ⟨k0, k1, k2⟩ := mo_spec d.toNat (by omega)
  rw [ms_succ] at k2
  unfold MO MS ML
  rw [show ((mo d.toNat : Nat) : Int).toNat = mo d.toNat by omega]
  omega
theorem MO_uniq {d m : Int} (h0 : 0 ≤ d) (h : d ≤ 36524) (m0 : 0 ≤ m) (h1 : MS m ≤ d) (h2 : d < MS m + ML m) : MO d = m := by
  unfold MS ML at *
  have := mo_uniq d.toNat m.toNat (by omega) (by omega) (by rw [ms_succ]; omega)
  unfold MO; omega
/-- The length of a month, by cases. -/
theorem ML_eq {m : Int} (h : 0 ≤ m) (k : Nat) (hk : m % 12 = k) : ML m = (lens.getD k 0 : Nat) + if k = 1 ∧ m / 12 % 4 = 0 then 1 else 0 := by
  unfold ML ml
  rw [show m.toNat % 12 = k by omega]
  by_cases e : k = 1 ∧ m / 12 % 4 = 0
  · rw [if_pos e, if_pos ⟨e.1, by omega⟩]; rfl
  · rw [if_neg e, if_neg (fun x => e ⟨x.1, by omega⟩)]; rfl

/-- Is it a day? -/
def isD (d : Int) : Bool := decide (0 ≤ d) && decide (d ≤ 36524)
theorem isD_iff (d : Int) : isD d = true ↔ 0 ≤ d ∧ d ≤ 36524 := by unfold isD; simp
/-- Is there such a date? -/
def isT (y m t : Int) : Bool := decide (2000 ≤ y ∧ y ≤ 2099 ∧ 1 ≤ m ∧ m ≤ 12 ∧ 1 ≤ t ∧ t ≤ ML ((y - 2000) * 12 + m - 1))
theorem isT_iff (y m t : Int) : isT y m t = true ↔ 2000 ≤ y ∧ y ≤ 2099 ∧ 1 ≤ m ∧ m ≤ 12 ∧ 1 ≤ t ∧ t ≤ ML ((y - 2000) * 12 + m - 1) := by unfold isT; simp
/-- The day with a date. -/
def dyV (y m t : Int) : Int := if isT y m t = true then MS ((y - 2000) * 12 + m - 1) + t - 1 else 0
def dyE (y m t : Int) : Int := if isT y m t = true then 0 else 3
/-- The date of a day. -/
def dtY (d : Int) : Int := if isD d = true then 2000 + MO d / 12 else 0
def dtM (d : Int) : Int := if isD d = true then MO d % 12 + 1 else 0
def dtT (d : Int) : Int := if isD d = true then d - MS (MO d) + 1 else 0
def dtE (d : Int) : Int := if isD d = true then 0 else 3
/-- The day of the week, and the month. -/
def wdV (d : Int) : Int := if isD d = true then (d + 5) % 7 else 0
def moV (d : Int) : Int := if isD d = true then MO d else 0
/-- The days of a month. -/
def isM (m : Int) : Bool := decide (0 ≤ m ∧ m ≤ 1199)
theorem isM_iff (m : Int) : isM m = true ↔ 0 ≤ m ∧ m ≤ 1199 := by unfold isM; simp
def dsF (m : Int) : Int := if isM m = true then MS m else 0
def dsU (m : Int) : Int := if isM m = true then MS m + ML m else 0
def dsE (m : Int) : Int := if isM m = true then 0 else 3

theorem day_range {y m t : Int} (h : isT y m t = true) : isD (MS ((y - 2000) * 12 + m - 1) + t - 1) = true ∧ MO (MS ((y - 2000) * 12 + m - 1) + t - 1) = (y - 2000) * 12 + m - 1 := by
  obtain ⟨h1, h2, h3, h4, h5, h6⟩ := (isT_iff y m t).1 h
  have n0 := MS_nonneg ((y - 2000) * 12 + m - 1)
  have n1 := MS_succ (show 0 ≤ (y - 2000) * 12 + m - 1 by omega)
  have n2 := MS_le (show (y - 2000) * 12 + m - 1 + 1 ≤ 1200 by omega)
  have r : isD (MS ((y - 2000) * 12 + m - 1) + t - 1) = true := (isD_iff _).2 (by omega)
  exact ⟨r, MO_uniq (by omega) (by omega) (by omega) (by omega) (by omega)⟩
end Cal
end Go.Proofs.YtopngioiboepfaaDoor
