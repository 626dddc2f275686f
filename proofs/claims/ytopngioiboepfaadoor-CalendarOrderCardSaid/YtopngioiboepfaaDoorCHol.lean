/-
  Plain mathematics of holidays, working days and deadlines. No program, no model.
-/
import Derived.Test.YtopngioiboepfaaDoorCMath
namespace Go.Proofs.YtopngioiboepfaaDoor
namespace Cal

/-- Are these holidays? -/
def hol (l : List Int) : Bool := decide (l.length ≤ 100 ∧ (∀ x ∈ l, isD x = true) ∧ l.Pairwise (· < ·))
theorem hol_iff (l : List Int) : hol l = true ↔ l.length ≤ 100 ∧ (∀ x ∈ l, isD x = true) ∧ l.Pairwise (· < ·) := by unfold hol; simp
theorem hol_not {l : List Int} (h : ¬ (l.length ≤ 100 ∧ (∀ x ∈ l, isD x = true) ∧ l.Pairwise (· < ·))) : hol l = false := by
  cases e : hol l with
  | false => rfl
  | true => exact absurd ((hol_iff l).1 e) h

/-- The first k of a list are holidays, the last of which is b, or -1 if k is 0. -/
def Hp (l : List Int) (k : Nat) (b : Int) : Prop := (∀ x ∈ l.take k, isD x = true) ∧ (l.take k).Pairwise (· < ·) ∧ (∀ x ∈ l.take k, x ≤ b) ∧ (k = 0 ∧ b = -1 ∨ b ∈ l.take k)
theorem Hp.zero (l : List Int) : Hp l 0 (-1) := ⟨by simp, by simp, by simp, .inl ⟨rfl, rfl⟩⟩
theorem Hp.low {l : List Int} {k : Nat} {b : Int} (h : Hp l k b) : -1 ≤ b ∧ b ≤ 36524 := by
  rcases h.2.2.2 with x | x
  · omega
  · have := (isD_iff b).1 (h.1 b x); omega
theorem Hp.succ {l : List Int} {k : Nat} {b : Int} (h : Hp l k b) (hk : k < l.length) (h1 : isD l[k] = true) (h2 : b < l[k]) : Hp l (k + 1) l[k] := by
  have e := List.take_succ_eq_append_getElem hk
  refine ⟨fun x hx => ?_, ?_, fun x hx => ?_, .inr ?_⟩
  · rw [e] at hx
    rcases List.mem_append.1 hx with y | y
    · exact h.1 x y
    · rw [List.mem_singleton.1 y]; exact h1
  · rw [e, List.pairwise_append]
    refine ⟨h.2.1, by simp, fun a ha c hc => ?_⟩
    rw [List.mem_singleton.1 hc]
    have := h.2.2.1 a ha
    omega
  · rw [e] at hx
    rcases List.mem_append.1 hx with y | y
    · have := h.2.2.1 x y; omega
    · rw [List.mem_singleton.1 y]; exact Int.le_refl _
  · rw [e]; exact List.mem_append_right _ (List.mem_singleton.2 rfl)
theorem Hp.bad {l : List Int} {k : Nat} {b : Int} (h : Hp l k b) (hk : k < l.length) (h1 : isD l[k] = false ∨ l[k] ≤ b) : hol l = false := by
  apply hol_not
  rintro ⟨_, a, p⟩
  have hd := a l[k] (List.getElem_mem hk)
  rcases h1 with y | y
  · rw [hd] at y; cases y
  · rcases h.2.2.2 with ⟨rfl, rfl⟩ | z
    · have := (isD_iff _).1 hd; omega
    · obtain ⟨j, hj, e⟩ := List.mem_iff_getElem.1 z
      rw [List.length_take] at hj
      rw [List.getElem_take] at e
      have := List.pairwise_iff_getElem.1 p j k (by omega) hk (by omega)
      omega
theorem Hp.all {l : List Int} {k : Nat} {b : Int} (h : Hp l k b) (hk : k = l.length) (h1 : l.length ≤ 100) : hol l = true := by
  subst hk
  rw [Hp, List.take_length] at h
  exact (hol_iff l).2 ⟨h1, h.1, h.2.1⟩

/-- Is it a working day? -/
def WK (d : Int) (l : List Int) : Bool := decide ((d + 5) % 7 < 5) && !(l.contains d)
theorem WK_iff (d : Int) (l : List Int) : WK d l = true ↔ (d + 5) % 7 < 5 ∧ d ∉ l := by unfold WK; simp
theorem WK_false {d : Int} {l : List Int} (h : WK d l = false) (hw : (d + 5) % 7 < 5) : d ∈ l := by
  apply Classical.byContradiction
  intro x
  rw [(WK_iff d l).2 ⟨hw, x⟩] at h; cases h

/-- The first working day from a day on, in so many days, or 36525. -/
def dlF (l : List Int) : Nat → Int → Int
  | 0, _ => 36525
  | f + 1, d => if WK d l = true then d else dlF l f (d + 1)
/-- The first working day from a day on, or 36525 if there is none. -/
def DL (l : List Int) (d : Int) : Int := dlF l (36525 - d).toNat d
theorem DL_end {l : List Int} {d : Int} (h : 36525 ≤ d) : DL l d = 36525 := by
  unfold DL; rw [show (36525 - d).toNat = 0 by omega]; rfl
theorem DL_eq {l : List Int} {d : Int} (h : d ≤ 36524) : DL l d = if WK d l = true then d else DL l (d + 1) := by
  unfold DL
  rw [show (36525 - d).toNat = (36525 - (d + 1)).toNat + 1 by omega]; rfl
theorem DL_here {l : List Int} {d : Int} (h : d ≤ 36524) (hw : WK d l = true) : DL l d = d := by rw [DL_eq h, if_pos hw]
theorem DL_next {l : List Int} {d : Int} (h : d ≤ 36524) (hw : WK d l = false) : DL l d = DL l (d + 1) := by rw [DL_eq h, hw, if_neg (by simp)]
theorem DL_spec (l : List Int) (d : Int) (h : d ≤ 36525) : d ≤ DL l d ∧ DL l d ≤ 36525 ∧ (∀ k, d ≤ k → k < DL l d → WK k l = false) ∧ (DL l d < 36525 → WK (DL l d) l = true) := by
  generalize hn : (36525 - d).toNat = n
  induction n generalizing d with
  | zero => rw [DL_end (by omega)]; exact ⟨h, by omega, fun k _ _ => by omega, fun h => by omega⟩
  | succ n ih =>
    cases hw : WK d l with
    | true => rw [DL_here (by omega) hw]; exact ⟨Int.le_refl _, by omega, fun k _ _ => by omega, fun _ => hw⟩
    | false =>
      rw [DL_next (by omega) hw]
      obtain ⟨a, b, c, e⟩ := ih (d + 1) (by omega) (by omega)
      refine ⟨by omega, b, fun k hk hk2 => ?_, e⟩
      rcases (show k = d ∨ d + 1 ≤ k by omega) with x | x
      · rw [x]; exact hw
      · exact c k x hk2
theorem DL_le (l : List Int) (d : Int) : DL l d ≤ 36525 := by
  rcases (show d ≤ 36525 ∨ 36525 ≤ d by omega) with h | h
  · exact (DL_spec l d h).2.1
  · rw [DL_end h]; omega
theorem DL_none (l : List Int) (d : Int) (k : Int) (h : d ≤ k) (h2 : k < DL l d) : WK k l = false := by
  rcases (show d ≤ 36525 ∨ 36525 ≤ d by omega) with x | x
  · exact (DL_spec l d x).2.2.1 k h h2
  · rw [DL_end x] at h2; omega
/-- What is later has no earlier deadline. -/
theorem DL_mono {l : List Int} {c d : Int} (h : c ≤ d) : DL l c ≤ DL l d := by
  rcases (show 36525 ≤ d ∨ d ≤ 36525 by omega) with x | x
  · rw [DL_end (l := l) x]; exact DL_le _ _
  · obtain ⟨h1, h2, h3, h4⟩ := DL_spec l d x
    rcases (show DL l d = 36525 ∨ DL l d < 36525 by omega) with y | y
    · rw [y]; exact DL_le _ _
    · apply Classical.byContradiction
      intro z
      have := DL_none l c (DL l d) (by omega) (by omega)
      rw [h4 y] at this; cases this
/-- With fewer holidays there is no later deadline. -/
theorem DL_fewer {l k : List Int} {d : Int} (h : ∀ x ∈ k, x ∈ l) : DL k d ≤ DL l d := by
  rcases (show 36525 ≤ d ∨ d ≤ 36525 by omega) with x | x
  · rw [DL_end (l := l) x]; exact DL_le _ _
  · obtain ⟨h1, h2, h3, h4⟩ := DL_spec l d x
    rcases (show DL l d = 36525 ∨ DL l d < 36525 by omega) with y | y
    · rw [y]; exact DL_le _ _
    · apply Classical.byContradiction
      intro z
      have e := DL_none k d (DL l d) (by omega) (by omega)
      have w := (WK_iff _ _).1 (h4 y)
      rw [(WK_iff (DL l d) k).2 ⟨w.1, fun m => w.2 (h _ m)⟩] at e; cases e

/-- How many days before a day are from Monday to Friday. -/
def WD (d : Int) : Int := 5 * (d / 7) + (if d % 7 < 2 then 0 else d % 7 - 2)
theorem WD_succ (d : Int) : WD (d + 1) = WD d + if (d + 5) % 7 < 5 then 1 else 0 := by
  unfold WD
  have h0 := Int.emod_nonneg d (show (7 : Int) ≠ 0 by decide)
  have h1 := Int.emod_lt_of_pos d (show (0 : Int) < 7 by decide)
  by_cases a : d % 7 < 2
  · rw [if_pos a, if_neg (show ¬ (d + 5) % 7 < 5 by omega)]
    by_cases b : (d + 1) % 7 < 2
    · rw [if_pos b]; omega
    · rw [if_neg b]; omega
  · rw [if_neg a, if_pos (show (d + 5) % 7 < 5 by omega)]
    by_cases b : (d + 1) % 7 < 2
    · rw [if_pos b]; omega
    · rw [if_neg b]; omega
theorem WD_week (d : Int) : WD (d + 7) = WD d + 5 := by
  unfold WD
  rw [show (d + 7) % 7 = d % 7 by omega, show (d + 7) / 7 = d / 7 + 1 by omega]; omega
theorem WD_weeks (d : Int) (n : Nat) : WD (d + 7 * n) = WD d + 5 * n := by
  induction n with
  | zero => simp
  | succ n ih => rw [show d + 7 * ((n + 1 : Nat) : Int) = d + 7 * n + 7 by omega, WD_week, ih]; omega

theorem count_step (l : List Int) (e k : Int) (hk : e ≤ k) (hm : k ∈ l) : l.countP (fun x => decide (e ≤ x) && decide (x < k)) + 1 ≤ l.countP (fun x => decide (e ≤ x) && decide (x < k + 1)) := by
  induction l with
  | nil => cases hm
  | cons a l ih =>
    rw [List.countP_cons, List.countP_cons]
    have mono : l.countP (fun x => decide (e ≤ x) && decide (x < k)) ≤ l.countP (fun x => decide (e ≤ x) && decide (x < k + 1)) :=
      List.countP_mono_left (fun x _ h => by simp at h ⊢; omega)
    by_cases ha : a = k
    · subst ha
      simp only [Int.lt_irrefl, decide_false, Bool.and_false]
      rw [show (decide (e ≤ a) && decide (a < a + 1)) = true by simp; exact ⟨hk, by omega⟩]
      simp; omega
    · have hm2 : k ∈ l := by
        rcases List.mem_cons.1 hm with y | y
        · exact absurd y.symm ha
        · exact y
      have i := ih hm2
      have e1 : (decide (a < k + 1)) = decide (a < k) := by rw [Bool.eq_iff_iff]; simp; omega
      rw [e1]; omega
/-- Among days that are no working days, those from Monday to Friday are holidays. -/
theorem count_free (l : List Int) (e : Int) (n : Nat) (h : ∀ k, e ≤ k → k < e + n → WK k l = false) : WD (e + n) - WD e ≤ (l.countP (fun x => decide (e ≤ x) && decide (x < e + n)) : Nat) := by
  induction n with
  | zero => simp
  | succ n ih =>
    have i := ih (fun k a b => h k a (by omega))
    have s := WD_succ (e + n)
    rw [show e + ((n + 1 : Nat) : Int) = e + n + 1 by omega]
    by_cases hw : (e + n + 5) % 7 < 5
    · rw [if_pos hw] at s
      have := count_step l e (e + n) (by omega) (WK_false (h (e + n) (by omega) (by omega)) hw)
      omega
    · rw [if_neg hw] at s
      have mono : l.countP (fun x => decide (e ≤ x) && decide (x < e + n)) ≤ l.countP (fun x => decide (e ≤ x) && decide (x < e + n + 1)) :=
        List.countP_mono_left (fun x _ h => by simp at h ⊢; omega)
      omega
/-- A deadline is not more than 200 days behind the end of the time. -/
theorem DL_200 {l : List Int} (hl : l.length ≤ 100) (d : Int) : DL l d ≤ d + 200 := by
  apply Classical.byContradiction
  intro x
  have c := count_free l d 196 (fun k a b => DL_none l d k a (by omega))
  have w := WD_weeks d 28
  have b : l.countP (fun x => decide (d ≤ x) && decide (x < d + (196 : Nat))) ≤ l.length := List.countP_le_length
  rw [show d + 7 * ((28 : Nat) : Int) = d + ((196 : Nat) : Int) by omega] at w
  omega

/-- What Deadline says. -/
def dnOk (days how : Int) (l : List Int) : Bool := decide (0 ≤ days ∧ days ≤ 1000 ∧ (how = 1 ∨ how = 2) ∧ hol l = true)
theorem dnOk_iff (days how : Int) (l : List Int) : dnOk days how l = true ↔ 0 ≤ days ∧ days ≤ 1000 ∧ (how = 1 ∨ how = 2) ∧ hol l = true := by unfold dnOk; simp
theorem dnOk_not {days how : Int} {l : List Int} (h : ¬ (0 ≤ days ∧ days ≤ 1000 ∧ (how = 1 ∨ how = 2) ∧ hol l = true)) : dnOk days how l = false := by
  cases e : dnOk days how l with
  | false => rfl
  | true => exact absurd ((dnOk_iff _ _ _).1 e) h
def ovr (day days how : Int) : Int := day + days + if how = 2 then 3 else 0
def wfV (l : List Int) (d : Int) : Int := if DL l d < 36525 then DL l d else 0
def wfE (l : List Int) (d : Int) : Int := if DL l d < 36525 then 0 else 3
def dnV (day days how : Int) (l : List Int) : Int := if isD day = true then (if dnOk days how l = true then wfV l (ovr day days how) else 0) else 0
def dnE (day days how : Int) (l : List Int) : Int := if isD day = true then (if dnOk days how l = true then wfE l (ovr day days how) else 1) else 3
/-- What Working says. -/
def wkV (d : Int) (l : List Int) : Bool := isD d && (hol l && WK d l)
def wkE (d : Int) (l : List Int) : Int := if isD d = true then (if hol l = true then 0 else 1) else 3
end Cal
end Go.Proofs.YtopngioiboepfaaDoor
