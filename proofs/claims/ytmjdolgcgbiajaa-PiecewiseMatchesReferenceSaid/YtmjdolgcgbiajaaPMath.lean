/-
  Plain mathematics of piecewise linear functions: numbers as fractions, pieces, reducing, the places where pieces begin, values. No program, no model.
-/
import Derived.Test.YtmjdolgcgbiajaaMath
namespace Go.Proofs.Ytmjdolgcgbiajaa
namespace Pw

/-! ### Fractions -/
def fr (n d : Int) : Rat := (n : Rat) / (d : Rat)
theorem ne0 {d : Int} (h : 0 < d) : (d : Rat) ≠ 0 := by
  intro e
  have : d = 0 := Rat.intCast_inj.1 (by rw [e]; rfl)
  omega
theorem pos {d : Int} (h : 0 < d) : (0 : Rat) < (d : Rat) := Rat.intCast_pos.2 h
theorem fr_eq {a b c d : Int} (hb : 0 < b) (hd : 0 < d) : fr a b = fr c d ↔ a * d = c * b := by
  have h1 := ne0 hb
  have h2 := ne0 hd
  unfold fr
  constructor
  · intro h
    have : ((a * d : Int) : Rat) = ((c * b : Int) : Rat) := by simp only [Rat.intCast_mul]; grind
    exact Rat.intCast_inj.1 this
  · intro h
    have : ((a * d : Int) : Rat) = ((c * b : Int) : Rat) := by rw [h]
    simp only [Rat.intCast_mul] at this
    grind
theorem fr_lt {a b c d : Int} (hb : 0 < b) (hd : 0 < d) : fr a b < fr c d ↔ a * d < c * b := by
  have h1 := pos hb
  have h2 := pos hd
  have h3 := ne0 hd
  unfold fr
  rw [Rat.div_lt_iff h1, show (c : Rat) / d * b = (c * b : Rat) / d by grind, Rat.lt_div_iff h2, ← Rat.intCast_mul, ← Rat.intCast_mul, Rat.intCast_lt_intCast]
theorem fr_le {a b c d : Int} (hb : 0 < b) (hd : 0 < d) : fr a b ≤ fr c d ↔ a * d ≤ c * b := by
  have := fr_lt (a := c) (b := d) (c := a) (d := b) hd hb
  rw [← Rat.not_lt, this]
  omega
theorem fr_add {a b c d : Int} (hb : 0 < b) (hd : 0 < d) : fr a b + fr c d = fr (a * d + c * b) (b * d) := by
  have h1 := ne0 hb
  have h2 := ne0 hd
  unfold fr
  simp only [Rat.intCast_add, Rat.intCast_mul]
  grind
theorem fr_mul {a b c d : Int} (hb : 0 < b) (hd : 0 < d) : fr a b * fr c d = fr (a * c) (b * d) := by
  have h1 := ne0 hb
  have h2 := ne0 hd
  unfold fr
  simp only [Rat.intCast_mul]
  grind
theorem fr_self (x : Rat) : fr x.num x.den = x := by
  have := Rat.num_divInt_den x
  rw [Rat.divInt_eq_div] at this
  exact this
theorem den_pos (x : Rat) : (0 : Int) < x.den := by have := x.den_pos; omega
theorem fr_num {p q : Int} (hq : 0 < q) (hc : Nat.gcd p.natAbs q.natAbs = 1) : (fr p q).num = p ∧ ((fr p q).den : Int) = q := by
  have hn : q.natAbs ≠ 0 := by omega
  have e : fr p q = ⟨p, q.natAbs, hn, hc⟩ := by
    rw [Rat.mk_eq_divInt, Rat.divInt_eq_div]
    unfold fr
    rw [show ((q.natAbs : Nat) : Int) = q by omega]
  rw [e]
  exact ⟨rfl, by show ((q.natAbs : Nat) : Int) = q; omega⟩
theorem fr_int (n : Int) : fr n 1 = (n : Rat) := by unfold fr; grind

/-- Within the limits of numbers. -/
def okR (x : Rat) : Bool := decide (-1000000000 ≤ x.num) && decide (x.num ≤ 1000000000) && decide ((x.den : Int) ≤ 1000000000)
theorem okR_val {x : Rat} : okR x = true ↔ Q.Val x.num x.den := by
  unfold okR Q.Val
  have := x.den_pos
  have hr : Nat.gcd x.num.natAbs ((x.den : Int)).natAbs = 1 := by have := x.reduced; simpa [Nat.Coprime] using this
  simp only [Bool.and_eq_true, decide_eq_true_eq]
  constructor
  · rintro ⟨⟨h1, h2⟩, h3⟩; exact ⟨h1, h2, by omega, h3, hr⟩
  · rintro ⟨h1, h2, _, h4, _⟩; exact ⟨⟨h1, h2⟩, h4⟩
theorem val_fr {n d : Int} (h : Q.Val n d) : (fr n d).num = n ∧ ((fr n d).den : Int) = d := fr_num (by have := h.2.2.1; omega) h.2.2.2.2
theorem red_fr {n d : Int} (hd : 0 < d) : Q.red n d = if okR (fr n d) then some ((fr n d).num, ((fr n d).den : Int)) else none := by
  have hx : n * (fr n d).den = (fr n d).num * d := (fr_eq hd (den_pos _)).1 (by rw [fr_self])
  cases h : okR (fr n d) with
  | true =>
    rw [if_pos rfl]
    exact Q.red_of (by omega) (okR_val.1 h) hx
  | false =>
    rw [if_neg (by simp)]
    cases e : Q.red n d with
    | none => rfl
    | some r =>
      exfalso
      obtain ⟨p, q⟩ := r
      obtain ⟨hv, hm⟩ := Q.red_val (by omega) e
      have hf : fr n d = fr p q := (fr_eq hd (by have := hv.2.2.1; omega)).2 hm
      have hn := val_fr hv
      rw [hf] at h
      have : okR (fr p q) = true := okR_val.2 (by rw [hn.1, hn.2]; exact hv)
      rw [this] at h
      cases h

/-! ### Pieces: where one begins, its value there, its slope -/
structure AP where
  f : Int
  v : Rat
  s : Rat
deriving DecidableEq
def AP.at (p : AP) (x : Int) : Rat := p.v + p.s * ((x - p.f : Int) : Rat)
theorem AP.at_self (p : AP) : p.at p.f = p.v := by
  have : (((p.f - p.f : Int)) : Rat) = 0 := by rw [Int.sub_self]; rfl
  unfold AP.at
  rw [this]
  grind
theorem AP.at_move (p : AP) (x y : Int) : p.at y = p.at x + p.s * ((y - x : Int) : Rat) := by
  unfold AP.at
  simp only [Rat.intCast_sub]
  grind
/-- A piece continues another one. -/
def cont (a b : AP) : Bool := decide (a.s = b.s ∧ a.at b.f = b.v)
def Same (a b : AP) : Prop := a.s = b.s ∧ ∀ x, a.at x = b.at x
theorem cont_iff {a b : AP} : cont a b = true ↔ Same a b := by
  unfold cont Same
  rw [decide_eq_true_eq]
  constructor
  · rintro ⟨h1, h2⟩
    refine ⟨h1, fun x => ?_⟩
    rw [a.at_move b.f x, b.at_move b.f x, h2, b.at_self, h1]
  · rintro ⟨h1, h2⟩
    exact ⟨h1, by rw [h2, b.at_self]⟩
theorem Same.refl (a : AP) : Same a a := ⟨rfl, fun _ => rfl⟩
theorem Same.trans {a b c : AP} (h : Same a b) (k : Same b c) : Same a c := ⟨h.1.trans k.1, fun x => (h.2 x).trans (k.2 x)⟩
theorem Same.symm {a b : AP} (h : Same a b) : Same b a := ⟨h.1.symm, fun x => (h.2 x).symm⟩
theorem same_of {a b : AP} (z : Int) (h1 : a.s = b.s) (h2 : a.at z = b.at z) : Same a b :=
  ⟨h1, fun x => by rw [a.at_move z x, b.at_move z x, h1, h2]⟩

/-- The piece at a place: the last one that begins there or before. -/
def pa (d : AP) : List AP → Int → AP
  | [], _ => d
  | p :: t, x => if p.f ≤ x then pa p t x else pa d t x
def no : AP := ⟨0, 0, 0⟩
def pA (l : List AP) (x : Int) : AP := pa (l.headD no) l x
def vl (l : List AP) (x : Int) : Rat := (pA l x).at x
theorem pa_none {d : AP} {x : Int} : ∀ {l : List AP}, (∀ p, p ∈ l → x < p.f) → pa d l x = d
  | [], _ => rfl
  | p :: t, h => by rw [pa, if_neg (by have := h p (by simp); omega), pa_none fun q hq => h q (by simp [hq])]
theorem pa_const {x y : Int} : ∀ {d : AP} {l : List AP}, (∀ p, p ∈ l → (p.f ≤ x ↔ p.f ≤ y)) → pa d l x = pa d l y
  | _, [], _ => rfl
  | d, p :: t, h => by
    have ht : ∀ q, q ∈ t → (q.f ≤ x ↔ q.f ≤ y) := fun q hq => h q (by simp [hq])
    have := h p (by simp)
    rw [pa, pa]
    by_cases hx : p.f ≤ x
    · rw [if_pos hx, if_pos (this.1 hx), pa_const ht]
    · rw [if_neg hx, if_neg (fun hy => hx (this.2 hy)), pa_const ht]
theorem pa_append {x : Int} : ∀ {d : AP} {l m : List AP}, pa d (l ++ m) x = pa (pa d l x) m x
  | _, [], _ => rfl
  | d, p :: t, m => by
    rw [List.cons_append, pa, pa]
    split <;> exact pa_append
theorem pa_mem {x : Int} : ∀ {d : AP} {l : List AP}, pa d l x = d ∨ pa d l x ∈ l
  | _, [] => .inl rfl
  | d, p :: t => by
    rw [pa]
    split
    · rcases pa_mem (x := x) (d := p) (l := t) with h | h
      · rw [h]; exact .inr (by simp)
      · exact .inr (by simp [h])
    · rcases pa_mem (x := x) (d := d) (l := t) with h | h
      · exact .inl h
      · exact .inr (by simp [h])
theorem pA_mem {l : List AP} {x : Int} (h : l ≠ []) : pA l x ∈ l := by
  cases l with
  | nil => exact absurd rfl h
  | cons p t =>
    rcases pa_mem (x := x) (d := p) (l := p :: t) with e | e
    · unfold pA; rw [List.headD_cons, e]; simp
    · exact e
/-- In increasing order. -/
def Inc : List AP → Prop
  | [] => True
  | p :: t => (∀ q, q ∈ t → p.f < q.f) ∧ Inc t

/-! ### Reducing -/
def rf (a : AP) : List AP → List AP
  | [] => []
  | b :: t => if cont a b then rf b t else b :: rf b t
def red : List AP → List AP
  | [] => []
  | a :: t => a :: rf a t
theorem rf_sub : ∀ {a : AP} {l : List AP} {q : AP}, q ∈ rf a l → q ∈ l
  | _, [], _, h => h
  | a, b :: t, q, h => by
    rw [rf] at h
    split at h
    · exact List.mem_cons_of_mem _ (rf_sub h)
    · rcases List.mem_cons.1 h with rfl | h
      · exact List.mem_cons_self
      · exact List.mem_cons_of_mem _ (rf_sub h)
theorem red_sub {l : List AP} {q : AP} (h : q ∈ red l) : q ∈ l := by
  cases l with
  | nil => exact h
  | cons a t =>
    rcases List.mem_cons.1 h with rfl | h
    · exact List.mem_cons_self
    · exact List.mem_cons_of_mem _ (rf_sub h)
theorem rf_inc : ∀ {a : AP} {l : List AP}, Inc l → Inc (rf a l)
  | _, [], _ => trivial
  | a, b :: t, h => by
    rw [rf]
    split
    · exact rf_inc h.2
    · exact ⟨fun q hq => h.1 q (rf_sub hq), rf_inc h.2⟩
theorem red_inc {l : List AP} (h : Inc l) : Inc (red l) := by
  cases l with
  | nil => trivial
  | cons a t => exact ⟨fun q hq => h.1 q (rf_sub hq), rf_inc h.2⟩
theorem rf_len : ∀ {a : AP} {l : List AP}, (rf a l).length ≤ l.length
  | _, [] => Nat.le_refl _
  | a, b :: t => by
    rw [rf]
    have := rf_len (a := b) (l := t)
    split <;> simp <;> omega
theorem red_len (l : List AP) : (red l).length ≤ l.length := by
  cases l with
  | nil => exact Nat.le_refl _
  | cons a t => have := rf_len (a := a) (l := t); simp [red]; omega
theorem rf_val {x : Int} : ∀ {d a : AP} {l : List AP}, Same d a → Inc l → (pa d (rf a l) x).at x = (pa a l x).at x
  | _, _, [], h, _ => h.2 x
  | d, a, b :: t, h, hi => by
    rw [rf, pa]
    by_cases hb : b.f ≤ x
    · rw [if_pos hb]
      split
      · rename_i hc
        exact rf_val (h.trans (cont_iff.1 hc)) hi.2
      · rw [pa, if_pos hb]
        exact rf_val (Same.refl b) hi.2
    · rw [if_neg hb]
      have ht : ∀ q, q ∈ t → x < q.f := fun q hq => by have := hi.1 q hq; omega
      rw [pa_none ht]
      split
      · rw [pa_none fun q hq => ht q (rf_sub hq)]; exact h.2 x
      · rw [pa, if_neg hb, pa_none fun q hq => ht q (rf_sub hq)]; exact h.2 x
theorem vl_red {l : List AP} (h : Inc l) (x : Int) : vl (red l) x = vl l x := by
  cases l with
  | nil => rfl
  | cons a t =>
    unfold vl pA red
    rw [List.headD_cons, List.headD_cons, pa, pa]
    split <;> exact rf_val (Same.refl a) h.2
/-- No piece continues the one before. -/
def Redd : List AP → Prop
  | [] => True
  | a :: t => (match t with | [] => True | b :: _ => cont a b = false) ∧ Redd t
theorem rf_redd : ∀ {d a : AP} {l : List AP}, Same d a → Redd (d :: rf a l)
  | _, _, [], _ => ⟨trivial, trivial⟩
  | d, a, b :: t, h => by
    rw [rf]
    split
    · rename_i hc
      exact rf_redd (h.trans (cont_iff.1 hc))
    · rename_i hc
      refine ⟨?_, rf_redd (Same.refl b)⟩
      cases e : cont d b with
      | false => exact e
      | true => exact absurd (cont_iff.2 (h.symm.trans (cont_iff.1 e))) hc
theorem redd_red (l : List AP) : Redd (red l) := by
  cases l with
  | nil => trivial
  | cons a t => exact rf_redd (Same.refl a)

/-! ### The places that a test picks, in order -/
def ps (P : Int → Bool) : Nat → List Int
  | 0 => []
  | n + 1 => if P n then ps P n ++ [(n : Int)] else ps P n
theorem ps_mem {P : Int → Bool} {x : Int} : ∀ {n : Nat}, x ∈ ps P n ↔ 0 ≤ x ∧ x < n ∧ P x = true
  | 0 => by simp [ps]; omega
  | n + 1 => by
    rw [ps]
    by_cases h : P n = true
    · rw [if_pos h, List.mem_append, ps_mem, List.mem_singleton]
      constructor
      · rintro (⟨h1, h2, h3⟩ | rfl)
        · exact ⟨h1, by omega, h3⟩
        · exact ⟨by omega, by omega, h⟩
      · rintro ⟨h1, h2, h3⟩
        by_cases e : x = n
        · exact .inr e
        · exact .inl ⟨h1, by omega, h3⟩
    · rw [if_neg h, ps_mem]
      constructor
      · rintro ⟨h1, h2, h3⟩; exact ⟨h1, by omega, h3⟩
      · rintro ⟨h1, h2, h3⟩
        refine ⟨h1, ?_, h3⟩
        rcases Int.lt_or_le x n with hl | hl
        · exact hl
        · exfalso; obtain rfl : x = n := by omega
          exact h h3
theorem ps_skip {P : Int → Bool} {m : Nat} : ∀ {n : Nat}, m ≤ n → (∀ y : Int, m ≤ y → y < n → P y = false) → ps P n = ps P m
  | 0, h, _ => by rw [show m = 0 by omega]
  | n + 1, h, hp => by
    by_cases e : m = n + 1
    · rw [e]
    · rw [ps, if_neg (by rw [hp n (by omega) (by omega)]; simp), ps_skip (n := n) (by omega) fun y h1 h2 => hp y h1 (by omega)]
theorem ps_one {P : Int → Bool} {x u : Nat} (hx : P x = true) (hu : x < u) (hp : ∀ y : Int, x < y → y < u → P y = false) : ps P u = ps P x ++ [(x : Int)] := by
  rw [ps_skip (m := x + 1) (by omega) fun y h1 h2 => hp y (by omega) h2, ps, if_pos hx]
theorem ps_two {P : Int → Bool} {x t u : Nat} (hx : P x = true) (hxt : x < t) (htu : t < u) (ht : P t = true) (hp : ∀ y : Int, x < y → y < u → y ≠ t → P y = false) : ps P u = ps P x ++ [(x : Int), (t : Int)] := by
  rw [ps_one ht htu fun y h1 h2 => hp y (by omega) h2 (by omega), ps_one hx hxt fun y h1 h2 => hp y h1 (by omega) (by omega), List.append_assoc]
  rfl
theorem ps_len {P : Int → Bool} : ∀ {n : Nat}, (ps P n).length ≤ n
  | 0 => Nat.le_refl _
  | n + 1 => by rw [ps]; have := ps_len (P := P) (n := n); split <;> simp <;> omega
/-- What stands at a place of the list: it is picked, those before it are the list up to it, and nothing is picked up to the next one. -/
theorem ps_get {P : Int → Bool} : ∀ {n k : Nat} (h : k < (ps P n).length), ∃ x : Nat, (ps P n)[k] = x ∧ x < n ∧ P x = true ∧ (ps P n).take k = ps P x ∧
    (∀ (h' : k + 1 < (ps P n).length), (x : Int) < (ps P n)[k + 1] ∧ ∀ y : Int, x < y → y < (ps P n)[k + 1] → P y = false) ∧ ((ps P n).length ≤ k + 1 → ∀ y : Int, x < y → y < n → P y = false)
  | 0, k, h => by simp [ps] at h
  | n + 1, k, h => by
    by_cases hp : P n = true
    · have e : ps P (n + 1) = ps P n ++ [(n : Int)] := by rw [ps, if_pos hp]
      by_cases hk : k < (ps P n).length
      · obtain ⟨x, h1, h2, h3, h4, h5, h6⟩ := ps_get (n := n) hk
        refine ⟨x, by simp only [e]; rw [List.getElem_append_left hk]; exact h1, by omega, h3, by rw [e, List.take_append_of_le_length (by omega)]; exact h4, fun h' => ?_, fun h' => ?_⟩
        · by_cases hk' : k + 1 < (ps P n).length
          · simp only [e]
            rw [List.getElem_append_left hk']
            exact h5 hk'
          · have hl : (ps P n).length = k + 1 := by omega
            have e2 : (ps P (n + 1))[k + 1] = (n : Int) := by
              simp only [e]
              rw [List.getElem_append_right (by omega)]
              simp
            rw [e2]
            exact ⟨by omega, h6 (by omega)⟩
        · rw [e] at h'; simp at h'; omega
      · have hl : k = (ps P n).length := by rw [e] at h; simp at h; omega
        subst hl
        refine ⟨n, by simp only [e]; simp, by omega, hp, by rw [e]; simp, fun h' => ?_, fun _ y h1 h2 => by omega⟩
        exfalso; rw [e] at h'; simp at h'
    · have e : ps P (n + 1) = ps P n := by rw [ps, if_neg hp]
      obtain ⟨x, h1, h2, h3, h4, h5, h6⟩ := ps_get (n := n) (by rw [← e]; exact h)
      refine ⟨x, by simp only [e]; exact h1, by omega, h3, by rw [e]; exact h4, fun h' => by simp only [e]; exact h5 (by rw [← e]; exact h'), fun h' y hy1 hy2 => ?_⟩
      by_cases ey : y = n
      · subst ey; cases hh : P (n : Int) with
        | false => rfl
        | true => exact absurd hh hp
      · exact h6 (by rw [← e]; exact h') y hy1 (by omega)
theorem ps_inc {P : Int → Bool} {h : Int → AP} (hf : ∀ x, (h x).f = x) : ∀ {n : Nat}, Inc ((ps P n).map h) ∧ ∀ q, q ∈ (ps P n).map h → q.f < n
  | 0 => ⟨trivial, fun q hq => by simp [ps] at hq⟩
  | n + 1 => by
    have ⟨i1, i2⟩ := ps_inc (P := P) hf (n := n)
    have app : ∀ {l : List AP} {b : AP}, Inc l → (∀ q, q ∈ l → q.f < b.f) → Inc (l ++ [b]) := by
      intro l
      induction l with
      | nil => intro b _ _; exact ⟨fun q hq => by simp at hq, trivial⟩
      | cons a t ih =>
        intro b h1 h2
        refine ⟨fun q hq => ?_, ih h1.2 fun q hq => h2 q (by simp [hq])⟩
        rcases List.mem_append.1 hq with hq | hq
        · exact h1.1 q hq
        · rw [List.mem_singleton.1 hq]; exact h2 a (by simp)
    rw [ps]
    split
    · rw [List.map_append]
      refine ⟨app i1 fun q hq => by rw [hf]; exact i2 q hq, fun q hq => ?_⟩
      rcases List.mem_append.1 hq with hq | hq
      · have := i2 q hq; omega
      · have e : q = h n := by simpa using hq
        rw [e, hf]; omega
    · exact ⟨i1, fun q hq => by have := i2 q hq; omega⟩
/-- The piece at a place, of pieces that begin at picked places. -/
theorem ps_pa {P : Int → Bool} {h : Int → AP} (hf : ∀ x, (h x).f = x) (h0 : P 0 = true) (d : AP) (y : Nat) : ∀ {n : Nat}, y < n → ∃ x : Nat, x ≤ y ∧ P x = true ∧ (∀ z : Int, x < z → z ≤ y → P z = false) ∧ pa d ((ps P n).map h) y = h x := by
  have up : ∀ {m : Nat}, ∃ x : Nat, x ≤ m ∧ P x = true ∧ (∀ z : Int, x < z → z ≤ m → P z = false) := by
    intro m
    induction m with
    | zero => exact ⟨0, Nat.le_refl _, h0, fun z h1 h2 => by omega⟩
    | succ m ih =>
      cases hp : P ((m + 1 : Nat) : Int) with
      | true => exact ⟨m + 1, Nat.le_refl _, hp, fun z h1 h2 => by omega⟩
      | false =>
        obtain ⟨x, h1, h2, h3⟩ := ih
        refine ⟨x, by omega, h2, fun z hz1 hz2 => ?_⟩
        by_cases e : z = ((m + 1 : Nat) : Int)
        · subst e; exact hp
        · exact h3 z hz1 (by omega)
  obtain ⟨x, h1, h2, h3⟩ := up (m := y)
  intro n hn
  refine ⟨x, h1, h2, h3, ?_⟩
  have later : ∀ {m k : Nat}, m ≤ k → y < m → pa d ((ps P k).map h) y = pa d ((ps P m).map h) y := by
    intro m k
    induction k with
    | zero => intro a b; omega
    | succ k ih =>
      intro a b
      by_cases e : m = k + 1
      · rw [e]
      · rw [ps]
        split
        · rw [List.map_append, pa_append, ih (by omega) b, List.map_singleton, pa, if_neg (by rw [hf]; omega), pa]
        · exact ih (by omega) b
  rw [later (m := y + 1) (by omega) (by omega), ps_skip (m := x + 1) (by omega) fun z hz1 hz2 => h3 z (by omega) (by omega), ps, if_pos h2, List.map_append, pa_append, List.map_singleton, pa, if_pos (by rw [hf]; omega), pa]
end Pw
end Go.Proofs.Ytmjdolgcgbiajaa
