/-
  Stretches: mathematics of what the iterator gives, and of what the sums, the lesser one and the comparison make of it.
-/
import Derived.Test.YtmjdolgcgbiajaaPValid
namespace Go.Proofs.Ytmjdolgcgbiajaa
open Go.RowKit Pw

def AA (l : List RP) : List AP := l.map toAP
theorem AA_get {l : List RP} {i : Nat} (h : i < (AA l).length) : (AA l)[i] = toAP (l[i]'(by simpa [AA] using h)) := List.getElem_map _
theorem VR.sorted {l : List RP} (h : VR l) : ∀ (k j : Nat) (hk : k < l.length) (_ : j < k), (l[j]'(by omega)).f < l[k].f := by
  intro k
  induction k with
  | zero => intro j _ hj; omega
  | succ k ih =>
    intro j hk hj
    have h1 := (h.2.2.2 (k + 1) hk hk).1 (by omega)
    simp only [Nat.add_sub_cancel] at h1
    by_cases e : j = k
    · subst e; exact h1
    · have := ih j (by omega) (by omega); omega
theorem VR.wl {l : List RP} (h : VR l) {p : RP} (hp : p ∈ l) : wl p = true ∧ 0 ≤ p.f ∧ p.f ≤ 100000 := by
  obtain ⟨k, hk, rfl⟩ := List.getElem_of_mem hp
  refine ⟨(h.2.2.2 k hk hk).2.2, ?_, (h.2.2.2 k hk hk).2.1⟩
  rcases Nat.eq_zero_or_pos k with e | e
  · subst e; rw [h.2.2.1 hk]; exact Int.le_refl _
  · have := h.sorted k 0 hk e; have := h.2.2.1 (by omega); omega
theorem inc_of {l : List AP} (h : ∀ (k j : Nat) (hk : k < l.length) (_ : j < k), (l[j]'(by omega)).f < l[k].f) : Inc l := by
  induction l with
  | nil => trivial
  | cons a t ih =>
    refine ⟨fun q hq => ?_, ih fun k j hk hj => ?_⟩
    · obtain ⟨k, hk, rfl⟩ := List.getElem_of_mem hq
      exact h (k + 1) 0 (by simpa using hk) (by omega)
    · exact h (k + 1) (j + 1) (by simpa using hk) (by omega)
theorem VR.va {l : List RP} (h : VR l) : VA (AA l) := by
  refine ⟨?_, by unfold AA; rw [List.length_map]; exact h.2.1, ?_, inc_of fun k j hk hj => ?_, fun p hp => ?_⟩
  · have := h.1; unfold AA; intro e; rw [List.map_eq_nil_iff] at e; rw [e] at this; simp at this
  · cases l with
    | nil => have := h.1; simp at this
    | cons p t => have := h.2.2.1 (by simp); simpa [AA, toAP] using this
  · unfold AA at hk ⊢
    rw [List.length_map] at hk
    simp only [List.getElem_map]
    exact h.sorted k j hk hj
  · obtain ⟨q, hq, rfl⟩ := List.mem_map.1 hp
    have := h.wl hq
    exact ⟨this.2.2, lim_toAP this.1⟩
theorem VR.back {l : List RP} (h : VR l) : (AA l).map toRP = l := by
  unfold AA
  rw [List.map_map]
  conv => rhs; rw [← List.map_id l]
  exact List.map_congr_left fun p hp => Go.Proofs.Ytmjdolgcgbiajaa.back (h.wl hp).1
/-- A function in raw numbers again. -/
theorem va_vr {m : List AP} (h : VA m) : VR (m.map toRP) ∧ AA (m.map toRP) = m := by
  have hs : ∀ {l : List AP}, Inc l → ∀ (k j : Nat) (hk : k < l.length) (_ : j < k), (l[j]'(by omega)).f < l[k].f := by
    intro l
    induction l with
    | nil => intro _ k j hk; simp at hk
    | cons a t ih =>
      intro hi k j hk hj
      cases k with
      | zero => omega
      | succ k =>
        cases j with
        | zero => exact hi.1 _ (List.getElem_mem (by simpa using hk))
        | succ j => exact ih hi.2 k j (by simpa using hk) (by omega)
  refine ⟨⟨?_, by rw [List.length_map]; exact h.len, fun h0 => ?_, fun k hk _ => ⟨fun h0 => ?_, ?_, ?_⟩⟩, ?_⟩
  · have := h.ne; rw [List.length_map]; cases m with | nil => exact absurd rfl this | cons a t => simp
  · have := h.head
    cases m with
    | nil => simp at h0
    | cons a t => simpa [toRP] using this
  · rw [List.length_map] at hk
    simp only [List.getElem_map]
    exact hs h.inc k (k - 1) hk (by omega)
  · rw [List.length_map] at hk
    simp only [List.getElem_map]
    exact (h.all _ (List.getElem_mem hk)).1
  · rw [List.length_map] at hk
    simp only [List.getElem_map]
    exact lim_val (h.all _ (List.getElem_mem hk)).2
  · unfold AA
    rw [List.map_map]
    conv => rhs; rw [← List.map_id m]
    exact List.map_congr_left fun p _ => toAP_toRP p

/-! ### The piece at a place -/
theorem ex_ix {l : List RP} {x : Int} (h0 : ∀ h : 0 < l.length, l[0].f ≤ x) : ∀ k, 0 < k → k ≤ l.length → (∀ (j : Nat) (h : j < l.length), k ≤ j → x < l[j].f) → ∃ i, ∃ hi : i < l.length, l[i].f ≤ x ∧ ∀ (j : Nat) (h : j < l.length), i < j → x < l[j].f
  | 0, h, _, _ => by omega
  | k + 1, _, hk, hj => by
    by_cases h : l[k].f ≤ x
    · exact ⟨k, by omega, h, fun j h1 h2 => hj j h1 (by omega)⟩
    · have hk0 : 0 < k := by
        rcases Nat.eq_zero_or_pos k with e | e
        · subst e; exact absurd (h0 (by omega)) h
        · exact e
      refine ex_ix h0 k hk0 (by omega) fun j h1 h2 => ?_
      by_cases e : j = k
      · subst e; omega
      · exact hj j h1 (by omega)
theorem VR.ix {l : List RP} (h : VR l) {x : Int} (h0 : 0 ≤ x) : ∃ i, IsIx l x i := by
  obtain ⟨i, hi, h1, h2⟩ := ex_ix (l := l) (x := x) (fun hh => by rw [h.2.2.1 hh]; exact h0) l.length h.1 (Nat.le_refl _) fun j h1 h2 => by omega
  refine ⟨i, hi, fun j hj hji => ?_, h2⟩
  by_cases e : j = i
  · subst e; exact h1
  · have := h.sorted i j hi (by omega); omega
open Classical in
/-- The index of the piece at a place. -/
noncomputable def ixO (l : List RP) (x : Int) : Nat := if h : ∃ i, IsIx l x i then Classical.choose h else 0
theorem ixO_is {l : List RP} (h : VR l) {x : Int} (h0 : 0 ≤ x) : IsIx l x (ixO l x) := by
  unfold ixO
  rw [dif_pos (h.ix h0)]
  exact Classical.choose_spec (h.ix h0)
noncomputable def pR (l : List RP) (x : Int) : RP := l[ixO l x]!
noncomputable def uR (l : List RP) (x : Int) : Int := endP l (ixO l x)
theorem pR_get {l : List RP} {x : Int} {i : Nat} (h : IsIx l x i) (e : i = ixO l x) : pR l x = l[i]'h.1 := by
  unfold pR
  subst e
  exact getElem!_pos l _ h.1
theorem pR_mem {l : List RP} (h : VR l) {x : Int} (h0 : 0 ≤ x) : pR l x ∈ l := by
  rw [pR_get (ixO_is h h0) rfl]; exact List.getElem_mem _
theorem pa_at {l : List AP} {d : AP} {x : Int} {i : Nat} (hi : i < l.length) (h1 : l[i].f ≤ x) (h2 : ∀ (j : Nat) (h : j < l.length), i < j → x < l[j].f) : pa d l x = l[i] := by
  have e : l = l.take i ++ ([l[i]] ++ l.drop (i + 1)) := by
    rw [List.singleton_append, List.getElem_cons_drop, List.take_append_drop]
  have : pa d l x = pa d (l.take i ++ ([l[i]] ++ l.drop (i + 1))) x := congrArg (fun m => pa d m x) e
  rw [this, pa_append, List.singleton_append, pa, if_pos h1]
  refine pa_none fun p hp => ?_
  obtain ⟨j, hj, rfl⟩ := List.getElem_of_mem hp
  rw [List.getElem_drop]
  exact h2 _ _ (by omega)
theorem pA_AA {l : List RP} (h : VR l) {x : Int} (h0 : 0 ≤ x) : pA (AA l) x = toAP (pR l x) := by
  have hx := ixO_is h h0
  have hl : ixO l x < (AA l).length := by unfold AA; rw [List.length_map]; exact hx.1
  have e : (AA l)[ixO l x] = toAP (pR l x) := by
    rw [pR_get hx rfl]
    exact AA_get hl
  unfold pA
  rw [pa_at hl (by rw [e, pR_get hx rfl]; exact hx.2.1 _ hx.1 (Nat.le_refl _)) fun j hj hij => ?_, e]
  unfold AA at hj ⊢
  rw [List.length_map] at hj
  rw [List.getElem_map]
  exact hx.2.2 j hj hij
/-- What lies behind a piece. -/
theorem uR_is {l : List RP} (h : VR l) {x : Int} (h0 : 0 ≤ x) (h1 : x ≤ 100000) : x < uR l x ∧ uR l x ≤ 100001 ∧ (∀ z, x < z → z < uR l x → fs (AA l) z = false) ∧ (uR l x = 100001 ∨ fs (AA l) (uR l x) = true) := by
  have hx := ixO_is h h0
  unfold uR endP
  by_cases hi : ixO l x + 1 < l.length
  · rw [List.getElem?_eq_getElem hi]
    simp only
    refine ⟨hx.2.2 _ hi (by omega), by have := (h.wl (List.getElem_mem hi)).2.2; omega, fun z hz1 hz2 => fs_false.2 fun p hp => ?_, .inr (fs_true.2 ⟨toAP l[ixO l x + 1], List.mem_map.2 ⟨_, List.getElem_mem hi, rfl⟩, rfl⟩)⟩
    obtain ⟨q, hq, rfl⟩ := List.mem_map.1 hp
    obtain ⟨j, hj, rfl⟩ := List.getElem_of_mem hq
    show l[j].f ≠ z
    by_cases h2 : j ≤ ixO l x
    · have := hx.2.1 j hj h2; omega
    · by_cases e : j = ixO l x + 1
      · subst e; omega
      · have := h.sorted j (ixO l x + 1) hj (by omega); omega
  · rw [List.getElem?_eq_none (by omega)]
    simp only
    refine ⟨by omega, by omega, fun z hz1 hz2 => fs_false.2 fun p hp => ?_, .inl trivial⟩
    obtain ⟨q, hq, rfl⟩ := List.mem_map.1 hp
    obtain ⟨j, hj, rfl⟩ := List.getElem_of_mem hq
    show l[j].f ≠ z
    have := hx.2.1 j hj (by omega); omega

/-! ### Lines -/
def lnOf (p : RP) : LN := ⟨p.vn * p.sd - p.sn * p.vd * p.f, p.sn * p.vd, p.vd * p.sd⟩
def LN.s (l : LN) : Rat := fr l.r l.d
def LN.ap (l : LN) : AP := ⟨0, fr l.b l.d, l.s⟩
theorem LN.ap_at {l : LN} (h : 1 ≤ l.d) (x : Int) : l.ap.at x = l.at x := by
  have := ne0 (d := l.d) (by omega)
  unfold LN.ap AP.at LN.at LN.s fr
  simp only [Rat.intCast_add, Rat.intCast_mul, Int.sub_zero]
  grind
theorem lnOf_ok {p : RP} (h : wl p = true) (h0 : 0 ≤ p.f) (h1 : p.f ≤ 100000) : (lnOf p).Ok := by
  obtain ⟨k1, k2, k3, k4, k5, k6⟩ := wl_val h
  obtain ⟨a1, a2, a3, a4, _⟩ := k1
  obtain ⟨b1, b2, b3, b4, _⟩ := k3
  have m1 := mul_bd (a := p.vn) (b := p.sd) (A := 1000000000) (B := 100) (by omega) (by omega)
  have m2 := mul_bd (a := p.sn) (b := p.vd) (A := 100000) (B := 100) (by omega) (by omega)
  have m3 := mul_bd (a := p.sn * p.vd) (b := p.f) (A := 100000 * 100) (B := 100000) m2 (by omega)
  have m4 := mul_bd (a := p.vd) (b := p.sd) (A := 100) (B := 100) (by omega) (by omega)
  have m5 : 0 < p.vd * p.sd := Int.mul_pos (by omega) (by omega)
  exact ⟨by unfold lnOf; simp only; omega, by unfold lnOf; simp only; omega, by unfold lnOf; simp only; omega, by unfold lnOf; simp only; omega⟩
theorem lnOf_at {p : RP} (h : wl p = true) (x : Int) : (lnOf p).at x = (toAP p).at x ∧ (lnOf p).s = (toAP p).s := by
  obtain ⟨k1, _, k3, _⟩ := wl_val h
  have e1 := ne0 (d := p.vd) (by have := k1.2.2.1; omega)
  have e2 := ne0 (d := p.sd) (by have := k3.2.2.1; omega)
  unfold lnOf LN.at LN.s toAP AP.at fr
  simp only [Rat.intCast_add, Rat.intCast_mul, Rat.intCast_sub]
  constructor <;> grind

/-! ### Stretches -/
noncomputable def stA (l r : List RP) (hi x : Int) : ST := ⟨x, min (min (uR l x) (uR r x)) (hi + 1), lnOf (pR l x), lnOf (pR r x)⟩
noncomputable def strs (l r : List RP) (hi : Int) : Nat → Int → List ST
  | 0, _ => []
  | n + 1, x => if x ≤ hi then stA l r hi x :: strs l r hi n (stA l r hi x).u else []
theorem stA_ok {l r : List RP} (hl : VR l) (hr : VR r) {hi x : Int} (h0 : 0 ≤ x) (h1 : x ≤ hi) (h2 : hi ≤ 100000) : (stA l r hi x).Ok := by
  have a := uR_is hl h0 (by omega)
  have b := uR_is hr h0 (by omega)
  have c := hl.wl (pR_mem hl h0)
  have d := hr.wl (pR_mem hr h0)
  exact ⟨h0, by unfold stA; simp only; omega, by unfold stA; simp only; omega, lnOf_ok c.1 c.2.1 c.2.2, lnOf_ok d.1 d.2.1 d.2.2⟩
/-- More fuel changes nothing. -/
theorem strs_fuel {l r : List RP} (hl : VR l) (hr : VR r) {hi : Int} (h2 : hi ≤ 100000) : ∀ (n m : Nat) (x : Int), 0 ≤ x → hi + 1 - x ≤ n → hi + 1 - x ≤ m → strs l r hi n x = strs l r hi m x
  | 0, 0, _, _, _, _ => rfl
  | 0, m + 1, x, _, h, _ => by rw [strs, strs, if_neg (by omega)]
  | n + 1, 0, x, _, _, h => by rw [strs, strs, if_neg (by omega)]
  | n + 1, m + 1, x, h0, h1, h1' => by
    rw [strs, strs]
    split
    · rename_i hx
      have := stA_ok hl hr h0 hx h2
      have hu := this.fu
      have hx' : (stA l r hi x).f = x := rfl
      rw [strs_fuel hl hr h2 n m _ (by have := this.f0; omega) (by omega) (by omega)]
    · rfl
/-- Within a stretch the pieces are the same. -/
theorem stA_const {l r : List RP} (hl : VR l) (hr : VR r) {hi x z : Int} (h0 : 0 ≤ x) (h1 : x ≤ hi) (h2 : hi ≤ 100000) (hz1 : x ≤ z) (hz2 : z < (stA l r hi x).u) :
    pA (AA l) z = pA (AA l) x ∧ pA (AA r) z = pA (AA r) x ∧ (stA l r hi x).l.at z = vl (AA l) z ∧ (stA l r hi x).r.at z = vl (AA r) z ∧ (stA l r hi x).l.s = (pA (AA l) x).s ∧ (stA l r hi x).r.s = (pA (AA r) x).s := by
  have a := uR_is hl h0 (by omega)
  have b := uR_is hr h0 (by omega)
  have hu1 : z < uR l x := by unfold stA at hz2; simp only at hz2; omega
  have hu2 : z < uR r x := by unfold stA at hz2; simp only at hz2; omega
  have e1 : pA (AA l) x = pA (AA l) z := pA_const hz1 fun y hy1 hy2 => a.2.2.1 y hy1 (by omega)
  have e2 : pA (AA r) x = pA (AA r) z := pA_const hz1 fun y hy1 hy2 => b.2.2.1 y hy1 (by omega)
  have f1 := lnOf_at (hl.wl (pR_mem hl h0)).1 z
  have f2 := lnOf_at (hr.wl (pR_mem hr h0)).1 z
  refine ⟨e1.symm, e2.symm, ?_, ?_, ?_, ?_⟩
  · unfold vl; rw [← e1, pA_AA hl h0]; exact f1.1
  · unfold vl; rw [← e2, pA_AA hr h0]; exact f2.1
  · rw [pA_AA hl h0]; exact f1.2
  · rw [pA_AA hr h0]; exact f2.2
/-- Between the beginning of a stretch and its end nothing begins. -/
theorem stA_gap {l r : List RP} (hl : VR l) (hr : VR r) {hi x z : Int} (h0 : 0 ≤ x) (h1 : x ≤ hi) (h2 : hi ≤ 100000) (hz1 : x < z) (hz2 : z < (stA l r hi x).u) : fs (AA l) z = false ∧ fs (AA r) z = false := by
  have a := uR_is hl h0 (by omega)
  have b := uR_is hr h0 (by omega)
  unfold stA at hz2; simp only at hz2
  exact ⟨a.2.2.1 z hz1 (by omega), b.2.2.1 z hz1 (by omega)⟩
theorem stA_next {l r : List RP} (hl : VR l) (hr : VR r) {x : Int} (h0 : 0 ≤ x) (h1 : x ≤ 100000) : (stA l r 100000 x).u = 100001 ∨ isS (AA l) (AA r) (stA l r 100000 x).u = true := by
  have a := uR_is hl h0 h1
  have b := uR_is hr h0 h1
  unfold stA isS
  simp only
  rcases a.2.2.2 with e | e <;> rcases b.2.2.2 with e' | e'
  · exact .inl (by omega)
  · by_cases h : uR r x = 100001
    · exact .inl (by omega)
    · exact .inr (by rw [show min (min (uR l x) (uR r x)) (100000 + 1) = uR r x by omega, e']; simp)
  · by_cases h : uR l x = 100001
    · exact .inl (by omega)
    · exact .inr (by rw [show min (min (uR l x) (uR r x)) (100000 + 1) = uR l x by omega, e]; simp)
  · rcases Int.le_total (uR l x) (uR r x) with h | h
    · by_cases h3 : uR l x = 100001
      · exact .inl (by omega)
      · exact .inr (by rw [show min (min (uR l x) (uR r x)) (100000 + 1) = uR l x by omega, e]; simp)
    · by_cases h3 : uR r x = 100001
      · exact .inl (by omega)
      · exact .inr (by rw [show min (min (uR l x) (uR r x)) (100000 + 1) = uR r x by omega, e']; simp)

/-! ### Sums -/
def addSec (s : ST) : SP := ⟨s.f, s.l.b * s.r.d + s.r.b * s.l.d, s.l.r * s.r.d + s.r.r * s.l.d, s.l.d * s.r.d⟩
theorem addSec_ok {s : ST} (h : s.Ok) : (addSec s).Ok := by
  have a := h.l
  have b := h.r
  have m1 := mul_bd a.b (b := s.r.d) (B := 10000) (by have := b.d0; have := b.d1; omega)
  have m2 := mul_bd b.b (b := s.l.d) (B := 10000) (by have := a.d0; have := a.d1; omega)
  have m3 := mul_bd a.r (b := s.r.d) (B := 10000) (by have := b.d0; have := b.d1; omega)
  have m4 := mul_bd b.r (b := s.l.d) (B := 10000) (by have := a.d0; have := a.d1; omega)
  have m5 := mul_bd (a := s.l.d) (b := s.r.d) (A := 10000) (B := 10000) (by have := a.d0; have := a.d1; omega) (by have := b.d0; have := b.d1; omega)
  have m6 : 0 < s.l.d * s.r.d := Int.mul_pos (by have := a.d0; omega) (by have := b.d0; omega)
  have := h.f0
  have := h.fu
  have := h.u1
  unfold addSec SP.Ok
  simp only
  omega
theorem addSec_A {s : ST} (h : s.Ok) : (addSec s).A = ⟨s.f, s.l.at s.f + s.r.at s.f, s.l.s + s.r.s⟩ := by
  have e1 := ne0 (d := s.l.d) (by have := h.l.d0; omega)
  have e2 := ne0 (d := s.r.d) (by have := h.r.d0; omega)
  unfold addSec SP.A LN.at LN.s fr
  simp only [Rat.intCast_add, Rat.intCast_mul, AP.mk.injEq, true_and]
  constructor <;> grind
theorem add_strs {l r : List RP} (hl : VR l) (hr : VR r) : ∀ (n : Nat) (x : Nat), (x = 100001 ∨ x ≤ 100000 ∧ isS (AA l) (AA r) x = true) → 100001 - (x : Int) ≤ n →
    (ps (isS (AA l) (AA r)) x).map (addH (AA l) (AA r)) ++ (strs l r 100000 n x).map (fun s => (addSec s).A) = addL (AA l) (AA r)
  | 0, x, h, hn => by
    have : x = 100001 := by omega
    subst this
    simp [strs, addL]
  | n + 1, x, h, hn => by
    by_cases hx : x = 100001
    · subst hx
      rw [strs, if_neg (by omega)]
      simp [addL]
    · have hx2 := h.resolve_left hx
      have ok := stA_ok hl hr (hi := 100000) (x := x) (by omega) (by omega) (by omega)
      have hf : (stA l r 100000 x).f = x := rfl
      have hfu := ok.fu
      have hu1 := ok.u1
      have hn2 := stA_next hl hr (x := x) (by omega) (by omega)
      have hc := stA_const hl hr (hi := 100000) (x := x) (z := x) (by omega) (by omega) (by omega) (Int.le_refl _) (by omega)
      have hg := fun z hz1 hz2 => stA_gap hl hr (hi := 100000) (x := x) (z := z) (by omega) (by omega) (by omega) hz1 hz2
      obtain ⟨u, hu⟩ : ∃ u : Nat, (stA l r 100000 x).u = u := ⟨(stA l r 100000 x).u.toNat, by omega⟩
      have hd : u = 100001 ∨ u ≤ 100000 ∧ isS (AA l) (AA r) u = true := by
        rcases hn2 with e | e
        · exact .inl (by omega)
        · by_cases hu2 : u = 100001
          · exact .inl hu2
          · exact .inr ⟨by omega, by rw [← hu]; exact e⟩
      have ih := add_strs hl hr n u hd (by omega)
      rw [strs, if_pos (by omega), List.map_cons, hu, ← ih, ps_one hx2.2 (show x < u by omega) fun y hy1 hy2 => isS_false.2 (hg y hy1 (by omega)), List.map_append, List.append_assoc]
      congr 1
      show _ :: _ = _ :: _
      congr 1
      rw [addSec_A ok, hf, hc.2.2.1, hc.2.2.2.1, hc.2.2.2.2.1, hc.2.2.2.2.2]
      rfl
end Go.Proofs.Ytmjdolgcgbiajaa
