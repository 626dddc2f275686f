/-
  Plain mathematics of piecewise linear functions: sums, the lesser one of two, where one is below another, multiples, and what a result is.
-/
import Derived.Test.YtmjdolgcgbiajaaPMath
namespace Go.Proofs.Ytmjdolgcgbiajaa
namespace Pw

def fs (F : List AP) (x : Int) : Bool := F.any fun p => p.f == x
def isS (F G : List AP) (x : Int) : Bool := fs F x || fs G x
/-- A value and a slope that a function may have. -/
def Lim (p : AP) : Bool := okR p.v && decide ((p.v.den : Int) ≤ 100) && okR p.s && decide ((p.s.den : Int) ≤ 100) && decide (-100000 ≤ p.s.num) && decide (p.s.num ≤ 100000)
/-- A function. -/
structure VA (F : List AP) : Prop where
  ne : F ≠ []
  len : F.length ≤ 64
  head : (F.headD no).f = 0
  inc : Inc F
  all : ∀ p, p ∈ F → p.f ≤ 100000 ∧ Lim p = true
theorem VA.head_mem {F : List AP} (h : VA F) : F.headD no ∈ F := by
  cases F with
  | nil => exact absurd rfl h.ne
  | cons p t => simp
theorem VA.nonneg {F : List AP} (h : VA F) {p : AP} (hp : p ∈ F) : 0 ≤ p.f := by
  have h1 := h.head
  have h2 := h.inc
  cases F with
  | nil => cases hp
  | cons q t =>
    rcases List.mem_cons.1 hp with rfl | hp
    · simp at h1; omega
    · have := h2.1 p hp; simp at h1; omega
theorem VA.zero {F : List AP} (h : VA F) : fs F 0 = true := List.any_eq_true.2 ⟨_, h.head_mem, by have := h.head; simpa using this⟩
theorem fs_false {F : List AP} {x : Int} : fs F x = false ↔ ∀ p, p ∈ F → p.f ≠ x := by
  unfold fs
  rw [List.any_eq_false]
  simp
theorem fs_true {F : List AP} {x : Int} : fs F x = true ↔ ∃ p, p ∈ F ∧ p.f = x := by
  unfold fs
  rw [List.any_eq_true]
  simp
theorem pA_const {F : List AP} {x y : Int} (hxy : x ≤ y) (h : ∀ z, x < z → z ≤ y → fs F z = false) : pA F x = pA F y := by
  unfold pA
  refine pa_const fun p hp => ⟨fun h1 => by omega, fun h1 => ?_⟩
  rcases Int.lt_or_le x p.f with h2 | h2
  · exact absurd rfl (fs_false.1 (h p.f h2 h1) p hp)
  · exact h2
theorem isS_false {F G : List AP} {x : Int} : isS F G x = false ↔ fs F x = false ∧ fs G x = false := by
  unfold isS
  rw [Bool.or_eq_false_iff]
theorem pA_fle {F : List AP} (h : VA F) {x : Int} (hx : 0 ≤ x) : (pA F x).f ≤ x := by
  have : ∀ {d : AP} {l : List AP}, d.f ≤ x → (pa d l x).f ≤ x := by
    intro d l
    induction l generalizing d with
    | nil => exact id
    | cons p t ih =>
      intro hd
      rw [pa]
      split
      · rename_i hp; exact ih hp
      · exact ih hd
  exact this (by have := h.head; omega)

/-! ### Sums -/
def addH (F G : List AP) (x : Int) : AP := ⟨x, (pA F x).at x + (pA G x).at x, (pA F x).s + (pA G x).s⟩
def addL (F G : List AP) : List AP := (ps (isS F G) 100001).map (addH F G)
theorem vl_map {P : Int → Bool} {h : Int → AP} (hf : ∀ x, (h x).f = x) (h0 : P 0 = true) {y : Int} (y0 : 0 ≤ y) (y1 : y ≤ 100000) :
    ∃ x : Int, 0 ≤ x ∧ x ≤ y ∧ P x = true ∧ (∀ z, x < z → z ≤ y → P z = false) ∧ vl ((ps P 100001).map h) y = (h x).at y := by
  obtain ⟨x, h1, h2, h3, h4⟩ := ps_pa hf h0 (((ps P 100001).map h).headD no) y.toNat (n := 100001) (by omega)
  rw [show ((y.toNat : Nat) : Int) = y by omega] at h3 h4
  refine ⟨x, by omega, by omega, h2, h3, ?_⟩
  unfold vl pA
  rw [h4]
theorem vl_add {F G : List AP} (hF : VA F) {y : Int} (y0 : 0 ≤ y) (y1 : y ≤ 100000) : vl (addL F G) y = vl F y + vl G y := by
  obtain ⟨x, h0, h1, h2, h3, h4⟩ := vl_map (P := isS F G) (h := addH F G) (fun _ => rfl) (by unfold isS; rw [hF.zero]; rfl) y0 y1
  unfold addL
  rw [h4]
  unfold vl
  rw [← pA_const h1 fun z a b => (isS_false.1 (h3 z a b)).1, ← pA_const h1 fun z a b => (isS_false.1 (h3 z a b)).2, (pA F x).at_move x y, (pA G x).at_move x y]
  show (pA F x).at x + (pA G x).at x + ((pA F x).s + (pA G x).s) * ((y - x : Int) : Rat) = _
  generalize ((y - x : Int) : Rat) = k
  grind
theorem add_comm' (F G : List AP) : addL F G = addL G F := by
  unfold addL
  have e1 : isS F G = isS G F := by funext x; unfold isS; rw [Bool.or_comm]
  have e2 : addH F G = addH G F := by funext x; unfold addH; rw [Rat.add_comm, Rat.add_comm (pA F x).s]
  rw [e1, e2]

/-! ### The lesser one of two -/
/-- The first one is taken. -/
def lsF (F G : List AP) (x : Int) : Bool := decide (vl F x ≤ vl G x)
def tkH (F G : List AP) (x : Int) : AP := if lsF F G x then ⟨x, (pA F x).at x, (pA F x).s⟩ else ⟨x, (pA G x).at x, (pA G x).s⟩
def isT (F G : List AP) (x : Int) : Bool := isS F G x || (lsF F G x != lsF F G (x - 1))
def leastL (F G : List AP) : List AP := (ps (isT F G) 100001).map (tkH F G)
theorem tkH_f (F G : List AP) (x : Int) : (tkH F G x).f = x := by unfold tkH; split <;> rfl
theorem isT_false {F G : List AP} {x : Int} : isT F G x = false ↔ fs F x = false ∧ fs G x = false ∧ lsF F G x = lsF F G (x - 1) := by
  unfold isT
  rw [Bool.or_eq_false_iff, isS_false, and_assoc]
  simp
theorem ls_const {F G : List AP} {x : Int} : ∀ (n : Nat), (∀ z, x < z → z ≤ x + n → lsF F G z = lsF F G (z - 1)) → lsF F G (x + n) = lsF F G x
  | 0, _ => by rw [show x + ((0 : Nat) : Int) = x by omega]
  | n + 1, h => by
    rw [h _ (by omega) (Int.le_refl _), show x + ((n + 1 : Nat) : Int) - 1 = x + n by omega]
    exact ls_const n fun z a b => h z a (by omega)
theorem vl_least {F G : List AP} (hF : VA F) {y : Int} (y0 : 0 ≤ y) (y1 : y ≤ 100000) : vl (leastL F G) y = if lsF F G y then vl F y else vl G y := by
  obtain ⟨x, h0, h1, h2, h3, h4⟩ := vl_map (P := isT F G) (h := tkH F G) (tkH_f F G) (by unfold isT isS; rw [hF.zero]; rfl) y0 y1
  unfold leastL
  rw [h4]
  have e : lsF F G y = lsF F G x := by
    have := ls_const (F := F) (G := G) (x := x) (y - x).toNat fun z a b => (isT_false.1 (h3 z a (by omega))).2.2
    rwa [show x + ((y - x).toNat : Int) = y by omega] at this
  unfold vl
  rw [e, ← pA_const h1 fun z a b => (isT_false.1 (h3 z a b)).1, ← pA_const h1 fun z a b => (isT_false.1 (h3 z a b)).2.1]
  unfold tkH
  split
  · rw [(pA F x).at_move x y]; rfl
  · rw [(pA G x).at_move x y]; rfl

theorem lt_or (a b : Rat) : a < b ∨ b ≤ a := by
  by_cases h : a < b
  · exact .inl h
  · exact .inr (Rat.not_lt.1 h)
/-- The sign of the difference of two lines turns once at most. -/
theorem less_mono {p q : AP} {x y z : Int} (hxy : x ≤ y) (hyz : y ≤ z) (h : decide (p.at y < q.at y) ≠ decide (p.at x < q.at x)) : decide (p.at z < q.at z) = decide (p.at y < q.at y) := by
  have e1 := p.at_move x y
  have e2 := q.at_move x y
  have e3 := p.at_move y z
  have e4 := q.at_move y z
  have d1 : (0 : Rat) ≤ ((y - x : Int) : Rat) := Rat.intCast_nonneg.2 (by omega)
  have d2 : (0 : Rat) ≤ ((z - y : Int) : Rat) := Rat.intCast_nonneg.2 (by omega)
  generalize ((y - x : Int) : Rat) = m at *
  generalize ((z - y : Int) : Rat) = k at *
  by_cases hx : p.at x < q.at x
  · have hy : ¬ p.at y < q.at y := fun hy => h (by rw [decide_eq_true hx, decide_eq_true hy])
    have hc : q.s < p.s := by
      rcases lt_or q.s p.s with hc | hc
      · exact hc
      · exfalso
        have := Rat.mul_le_mul_of_nonneg_right hc d1
        grind
    have := Rat.mul_le_mul_of_nonneg_right (Rat.le_of_lt hc) d2
    rw [decide_eq_false hy, decide_eq_false (by grind)]
  · have hy : p.at y < q.at y := by
      apply Decidable.byContradiction
      intro hy
      exact h (by rw [decide_eq_false hx, decide_eq_false hy])
    have hc : p.s < q.s := by
      rcases lt_or p.s q.s with hc | hc
      · exact hc
      · exfalso
        have := Rat.mul_le_mul_of_nonneg_right hc d1
        grind
    have := Rat.mul_le_mul_of_nonneg_right (Rat.le_of_lt hc) d2
    rw [decide_eq_true hy, decide_eq_true (by grind)]

/-! ### Results -/
def chk (l : List AP) : List AP × Int := if l.all Lim then (if l.length ≤ 64 then (l, 0) else ([], 2)) else ([], 3)
def resA (l : List AP) : List AP × Int := chk (red l)
theorem chk_ok {l m : List AP} (h : chk l = (m, 0)) : m = l ∧ l.all Lim = true ∧ l.length ≤ 64 := by
  unfold chk at h
  split at h
  · split at h
    · rename_i h1 h2
      simp only [Prod.mk.injEq, and_true] at h
      exact ⟨h.symm, h1, h2⟩
    · simp at h
  · simp at h
theorem chk_err (l : List AP) : (chk l).2 = 0 ∨ ((chk l).1 = [] ∧ ((chk l).2 = 2 ∨ (chk l).2 = 3)) := by
  unfold chk
  split
  · split
    · exact .inl rfl
    · exact .inr ⟨rfl, .inl rfl⟩
  · exact .inr ⟨rfl, .inr rfl⟩
/-- The pieces of a result are a function. -/
theorem va_res {P : Int → Bool} {h : Int → AP} (hf : ∀ x, (h x).f = x) (h0 : P 0 = true) (hl : (red ((ps P 100001).map h)).all Lim = true) (hn : (red ((ps P 100001).map h)).length ≤ 64) : VA (red ((ps P 100001).map h)) := by
  have ⟨i1, i2⟩ := ps_inc (P := P) hf (n := 100001)
  have hd : ∃ t, ps P 100001 = 0 :: t := by
    have h1 : (0 : Int) ∈ ps P 100001 := ps_mem.2 ⟨by omega, by omega, h0⟩
    cases e : ps P 100001 with
    | nil => rw [e] at h1; cases h1
    | cons a t =>
      refine ⟨t, ?_⟩
      rw [e] at h1 i1
      rcases List.mem_cons.1 h1 with rfl | h1
      · rfl
      · exfalso
        have h2 := i1.1 (h 0) (List.mem_map.2 ⟨0, h1, rfl⟩)
        have h3 := (ps_mem (P := P) (n := 100001) (x := a)).1 (by rw [e]; simp)
        rw [hf, hf] at h2
        omega
  obtain ⟨t, e⟩ := hd
  refine ⟨?_, hn, ?_, red_inc i1, fun p hp => ⟨?_, ?_⟩⟩
  · rw [e]; simp [red]
  · rw [e]; simp [red, hf]
  · have := i2 p (red_sub hp); omega
  · exact List.all_eq_true.1 hl p hp
theorem va_add {F G m : List AP} (hF : VA F) (h : resA (addL F G) = (m, 0)) : m = red (addL F G) ∧ VA m ∧ Redd m := by
  obtain ⟨rfl, h1, h2⟩ := chk_ok h
  exact ⟨rfl, va_res (h := addH F G) (fun _ => rfl) (by unfold isS; rw [hF.zero]; rfl) h1 h2, redd_red _⟩
theorem va_least {F G m : List AP} (hF : VA F) (h : resA (leastL F G) = (m, 0)) : m = red (leastL F G) ∧ VA m ∧ Redd m := by
  obtain ⟨rfl, h1, h2⟩ := chk_ok h
  exact ⟨rfl, va_res (tkH_f F G) (by unfold isT isS; rw [hF.zero]; rfl) h1 h2, redd_red _⟩
theorem inc_add (F G : List AP) : Inc (addL F G) := (ps_inc (h := addH F G) (fun _ => rfl)).1
theorem inc_least (F G : List AP) : Inc (leastL F G) := (ps_inc (tkH_f F G)).1

/-! ### Of a function and itself -/
theorem isS_self (F : List AP) : isS F F = fs F := by funext x; unfold isS; rw [Bool.or_self]
theorem ls_self (F : List AP) (x : Int) : lsF F F x = true := by unfold lsF; rw [decide_eq_true_eq]; exact Rat.le_refl
theorem isT_self (F : List AP) : isT F F = fs F := by funext x; unfold isT; rw [ls_self, ls_self, isS_self]; simp
/-- The pieces of a function, from the places where they begin. -/
theorem ps_self {h : Int → AP} : ∀ {n : Nat} (l : List AP), Inc l → (∀ p, p ∈ l → 0 ≤ p.f ∧ p.f < n ∧ h p.f = p) → (ps (fs l) n).map h = l := by
  have app : ∀ (l : List AP) (q : AP), Inc (l ++ [q]) → Inc l ∧ ∀ p, p ∈ l → p.f < q.f := by
    intro l
    induction l with
    | nil => intro q _; exact ⟨trivial, fun p hp => by cases hp⟩
    | cons a t ih =>
      intro q hi
      obtain ⟨i1, i2⟩ := ih q hi.2
      refine ⟨⟨fun r hr => hi.1 r (by simp [hr]), i1⟩, fun p hp => ?_⟩
      rcases List.mem_cons.1 hp with rfl | hp
      · exact hi.1 q (by simp)
      · exact i2 p hp
  intro n
  induction n with
  | zero =>
    intro l _ hl
    cases l with
    | nil => rfl
    | cons a t => have := hl a (by simp); omega
  | succ n ih =>
    intro l hi hl
    rcases List.eq_nil_or_concat l with rfl | ⟨t, q, rfl⟩
    · have : fs [] (n : Int) = false := rfl
      rw [ps, this, if_neg (by simp)]
      exact ih [] trivial fun p hp => by cases hp
    · simp only [List.concat_eq_append] at hi hl ⊢
      obtain ⟨i1, i2⟩ := app t q hi
      have hq := hl q (by simp)
      by_cases e : q.f = n
      · have hn : fs (t ++ [q]) (n : Int) = true := fs_true.2 ⟨q, by simp, e⟩
        have hps : ps (fs (t ++ [q])) n = ps (fs t) n := by
          have cg : ∀ (m : Nat), m ≤ n → ps (fs (t ++ [q])) m = ps (fs t) m := by
            intro m
            induction m with
            | zero => intro _; rfl
            | succ m ihm =>
              intro hm
              have : fs (t ++ [q]) (m : Int) = fs t (m : Int) := by
                unfold fs
                rw [List.any_append]
                have : ([q].any fun p => p.f == (m : Int)) = false := by simp; omega
                rw [this, Bool.or_false]
              rw [ps, ps, this, ihm (by omega)]
          exact cg n (Nat.le_refl _)
        rw [ps, if_pos hn, hps, List.map_append, ih t i1 fun p hp => ⟨(hl p (by simp [hp])).1, by have := i2 p hp; omega, (hl p (by simp [hp])).2.2⟩, List.map_singleton, ← e, hq.2.2]
      · have hn : fs (t ++ [q]) (n : Int) = false := fs_false.2 fun p hp => by
          rcases List.mem_append.1 hp with hp | hp
          · have := i2 p hp; omega
          · rw [List.mem_singleton.1 hp]; exact e
        rw [ps, if_neg (by rw [hn]; simp)]
        refine ih _ hi fun p hp => ⟨(hl p hp).1, ?_, (hl p hp).2.2⟩
        rcases List.mem_append.1 hp with hp | hp
        · have := i2 p hp; omega
        · rw [List.mem_singleton.1 hp]; omega
theorem pa_self {l : List AP} : Inc l → ∀ {d : AP} {p : AP}, p ∈ l → pa d l p.f = p := by
  induction l with
  | nil => intro _ d p hp; cases hp
  | cons a t ih =>
    intro hi d p hp
    rw [pa]
    rcases List.mem_cons.1 hp with rfl | hp
    · rw [if_pos (Int.le_refl _)]; exact pa_none fun q hq => hi.1 q hq
    · rw [if_pos (by have := hi.1 p hp; omega)]; exact ih hi.2 hp
theorem least_self {F : List AP} (hF : VA F) : leastL F F = F := by
  unfold leastL
  rw [isT_self]
  refine ps_self F hF.inc fun p hp => ⟨hF.nonneg hp, by have := (hF.all p hp).1; omega, ?_⟩
  unfold tkH
  rw [if_pos (ls_self F p.f)]
  have e : pA F p.f = p := pa_self hF.inc hp
  rw [e, p.at_self]
theorem res_self {F : List AP} (hF : VA F) : resA (leastL F F) = (red F, 0) := by
  rw [least_self hF]
  unfold resA chk
  rw [if_pos (List.all_eq_true.2 fun p hp => (hF.all p (red_sub hp)).2), if_pos (by have := red_len F; have := hF.len; omega)]

/-! ### Multiples -/
def mulH (r : Rat) (p : AP) : AP := ⟨p.f, p.v * r, p.s * r⟩
def scaleL (F : List AP) (r : Rat) : List AP := (red (if r = 0 then F.take 1 else F)).map (mulH r)
def scaleA (F : List AP) (r : Rat) : List AP × Int := chk (scaleL F r)
theorem mulH_at (r : Rat) (p : AP) (x : Int) : (mulH r p).at x = p.at x * r := by unfold mulH AP.at; grind
theorem pa_mul (r : Rat) (x : Int) : ∀ (d : AP) (l : List AP), pa (mulH r d) (l.map (mulH r)) x = mulH r (pa d l x)
  | _, [] => rfl
  | d, p :: t => by
    rw [List.map_cons, pa, pa]
    show (if p.f ≤ x then _ else _) = _
    split <;> exact pa_mul r x _ t
theorem vl_mul (r : Rat) (x : Int) (l : List AP) (h : l ≠ []) : vl (l.map (mulH r)) x = vl l x * r := by
  cases l with
  | nil => exact absurd rfl h
  | cons p t =>
    unfold vl pA
    rw [List.map_cons, List.headD_cons, List.headD_cons, ← List.map_cons (f := mulH r), pa_mul, mulH_at]
theorem red_ne {l : List AP} (h : l ≠ []) : red l ≠ [] := by
  cases l with
  | nil => exact absurd rfl h
  | cons a t => simp [red]
theorem vl_scale {F : List AP} (hF : VA F) (r : Rat) (y : Int) : vl (scaleL F r) y = vl F y * r := by
  unfold scaleL
  by_cases hr : r = 0
  · subst hr
    rw [if_pos rfl, vl_mul _ _ _ (red_ne (by have := hF.ne; cases F with | nil => exact absurd rfl this | cons a t => simp)), Rat.mul_zero, Rat.mul_zero]
  · rw [if_neg hr, vl_mul _ _ _ (red_ne hF.ne), vl_red hF.inc]
theorem inc_mul (r : Rat) : ∀ {l : List AP}, Inc l → Inc (l.map (mulH r))
  | [], _ => trivial
  | p :: t, h => ⟨fun q hq => by obtain ⟨q', hq', rfl⟩ := List.mem_map.1 hq; exact h.1 q' hq', inc_mul r h.2⟩
theorem va_scale {F m : List AP} {r : Rat} (hF : VA F) (h : scaleA F r = (m, 0)) : m = scaleL F r ∧ VA m ∧ Redd m := by
  obtain ⟨rfl, h1, h2⟩ := chk_ok h
  have hsub : ∀ p, p ∈ (if r = 0 then F.take 1 else F) → p ∈ F := by
    intro p hp
    split at hp
    · exact List.mem_of_mem_take hp
    · exact hp
  have hinc : Inc (if r = 0 then F.take 1 else F) := by
    split
    · cases F with
      | nil => trivial
      | cons a t => exact ⟨fun q hq => by simp at hq, trivial⟩
    · exact hF.inc
  have hne : (if r = 0 then F.take 1 else F) ≠ [] := by
    have := hF.ne
    cases F with
    | nil => exact absurd rfl this
    | cons a t => split <;> simp
  refine ⟨rfl, ⟨?_, h2, ?_, inc_mul r (red_inc hinc), fun p hp => ⟨?_, List.all_eq_true.1 h1 p hp⟩⟩, ?_⟩
  · unfold scaleL; intro e; exact red_ne hne (List.map_eq_nil_iff.1 e)
  · have := hF.head
    have := hF.ne
    cases F with
    | nil => contradiction
    | cons a t =>
      unfold scaleL
      split <;> simpa [red, mulH] using hF.head
  · obtain ⟨q, hq, rfl⟩ := List.mem_map.1 hp
    exact (hF.all q (hsub q (red_sub hq))).1
  · by_cases hr : r = 0
    · unfold scaleL
      rw [if_pos hr]
      cases F with
      | nil => exact trivial
      | cons a t => exact ⟨trivial, trivial⟩
    · unfold scaleL
      rw [if_neg hr]
      have rd : ∀ (l : List AP), Redd l → Redd (l.map (mulH r)) := by
        intro l
        induction l with
        | nil => exact id
        | cons a t ih =>
          intro hl
          refine ⟨?_, ih hl.2⟩
          cases t with
          | nil => trivial
          | cons b t =>
            show cont (mulH r a) (mulH r b) = false
            have h0 : cont a b = false := hl.1
            cases e : cont (mulH r a) (mulH r b) with
            | false => rfl
            | true =>
              have k := cont_iff.1 e
              have : cont a b = true := cont_iff.2 ⟨by have := k.1; unfold mulH at this; simp only at this; grind, fun x => by have := k.2 x; rw [mulH_at, mulH_at] at this; grind⟩
              rw [this] at h0; cases h0
      exact rd _ (redd_red F)
theorem scale_err {F : List AP} {r : Rat} (hF : VA F) : (scaleA F r).2 = 0 ∨ ((scaleA F r).1 = [] ∧ (scaleA F r).2 = 3) := by
  unfold scaleA chk
  split
  · rw [if_pos]
    · exact .inl rfl
    · unfold scaleL
      rw [List.length_map]
      have h1 := red_len (if r = 0 then F.take 1 else F)
      have h2 := hF.len
      split at h1
      · rename_i h; rw [if_pos h]; rw [List.length_take] at h1; omega
      · rename_i h; rw [if_neg h]; omega
  · exact .inr ⟨rfl, rfl⟩

/-! ### Where one function is first below another -/
def lss (F G : List AP) (x : Int) : Bool := decide (vl F x < vl G x)
def bel (F G : List AP) (lo : Int) : Nat → Int × Bool
  | 0 => (0, false)
  | n + 1 => if lss F G lo then (lo, true) else bel F G (lo + 1) n
/-- Below, over a range. -/
def belR (F G : List AP) (lo hi : Int) : Int × Bool := bel F G lo (hi + 1 - lo).toNat
theorem bel_no {F G : List AP} : ∀ {n : Nat} {lo : Int}, (∀ y, lo ≤ y → y < lo + n → lss F G y = false) → bel F G lo n = (0, false)
  | 0, _, _ => rfl
  | n + 1, lo, h => by rw [bel, h lo (by omega) (by omega), if_neg (by simp), bel_no fun y a b => h y (by omega) (by omega)]
theorem bel_yes {F G : List AP} {x : Int} (hx : lss F G x = true) : ∀ {n : Nat} {lo : Int}, lo ≤ x → x < lo + n → (∀ y, lo ≤ y → y < x → lss F G y = false) → bel F G lo n = (x, true)
  | 0, _, h1, h2, _ => by omega
  | n + 1, lo, h1, h2, h => by
    rw [bel]
    by_cases e : lo = x
    · rw [e, hx, if_pos rfl]
    · rw [h lo (by omega) (by omega), if_neg (by simp)]
      exact bel_yes hx (by omega) (by omega) fun y a b => h y (by omega) b
theorem belR_no {F G : List AP} {lo hi : Int} (h : ∀ y, lo ≤ y → y ≤ hi → lss F G y = false) : belR F G lo hi = (0, false) := bel_no fun y a b => h y a (by omega)
theorem belR_yes {F G : List AP} {lo hi x : Int} (hx : lss F G x = true) (h1 : lo ≤ x) (h2 : x ≤ hi) (h : ∀ y, lo ≤ y → y < x → lss F G y = false) : belR F G lo hi = (x, true) := bel_yes hx h1 (by omega) h
theorem bel_is {F G : List AP} : ∀ {n : Nat} {lo : Int}, (bel F G lo n = (0, false) ∧ ∀ y, lo ≤ y → y < lo + n → lss F G y = false) ∨ (∃ x, bel F G lo n = (x, true) ∧ lo ≤ x ∧ x < lo + n ∧ lss F G x = true ∧ ∀ y, lo ≤ y → y < x → lss F G y = false)
  | 0, lo => .inl ⟨rfl, fun y a b => by omega⟩
  | n + 1, lo => by
    cases h : lss F G lo with
    | true => exact .inr ⟨lo, by rw [bel, h, if_pos rfl], by omega, by omega, h, fun y a b => by omega⟩
    | false =>
      rw [bel, h, if_neg (by simp)]
      have st : ∀ y, lo ≤ y → y ≠ lo → lo + 1 ≤ y := fun y a b => by omega
      rcases bel_is (F := F) (G := G) (n := n) (lo := lo + 1) with ⟨h1, h2⟩ | ⟨x, h1, h2, h3, h4, h5⟩
      · refine .inl ⟨h1, fun y a b => ?_⟩
        by_cases e : y = lo
        · rw [e]; exact h
        · exact h2 y (by omega) (by omega)
      · refine .inr ⟨x, h1, by omega, by omega, h4, fun y a b => ?_⟩
        by_cases e : y = lo
        · rw [e]; exact h
        · exact h5 y (by omega) b
end Pw
end Go.Proofs.Ytmjdolgcgbiajaa
