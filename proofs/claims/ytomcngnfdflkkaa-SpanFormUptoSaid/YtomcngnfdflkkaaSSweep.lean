/-
  The mathematics of the sweep: ends of stretches in order, how many stretches of a list have a day, and the set that is built.
-/
import Derived.Test.YtomcngnfdflkkaaSMath
import Derived.Sort.Statements
namespace Go.Proofs.Ytomcngnfdflkkaa.Spn

/-- The ends of the stretches of a list: day, list, more. -/
def ends (c : Int) : List (Int × Int) → List (Int × Int × Int)
  | [] => []
  | s :: l => (s.1, c, 1) :: (s.2, c, -1) :: ends c l
theorem ends_append (c : Int) : ∀ l m : List (Int × Int), ends c (l ++ m) = ends c l ++ ends c m
  | [], _ => rfl
  | s :: l, m => by rw [List.cons_append, ends, ends, ends_append]; rfl
theorem ends_take {c : Int} {l : List (Int × Int)} {k : Nat} (hk : k < l.length) : ends c (l.take (k + 1)) = ends c (l.take k) ++ [(l[k].1, c, 1), (l[k].2, c, -1)] := by
  rw [List.take_succ_eq_append_getElem hk, ends_append]; rfl
theorem ends_length (c : Int) : ∀ l : List (Int × Int), (ends c l).length = 2 * l.length
  | [] => rfl
  | s :: l => by rw [ends, List.length_cons, List.length_cons, ends_length, List.length_cons]; omega
theorem ends_mem (c : Int) : ∀ {l : List (Int × Int)} {e : Int × Int × Int}, e ∈ ends c l → e.2.1 = c ∧ (e.2.2 = 1 ∨ e.2.2 = -1)
  | s :: l, e, h => by
    rw [ends] at h
    rcases List.mem_cons.1 h with rfl | h
    · exact ⟨rfl, .inl rfl⟩
    · rcases List.mem_cons.1 h with rfl | h
      · exact ⟨rfl, .inr rfl⟩
      · exact ends_mem c h

/-- What the ends of list c up to a day add up to. -/
def pd (c d : Int) : List (Int × Int × Int) → Int
  | [] => 0
  | e :: E => (if e.2.1 = c ∧ e.1 ≤ d then e.2.2 else 0) + pd c d E
theorem pd_append (c d : Int) : ∀ E F, pd c d (E ++ F) = pd c d E + pd c d F
  | [], F => by simp [pd]
  | e :: E, F => by rw [List.cons_append, pd, pd, pd_append]; omega
theorem pd_perm {c d : Int} {E F : List (Int × Int × Int)} (h : E.Perm F) : pd c d E = pd c d F := by
  induction h with
  | nil => rfl
  | cons x _ ih => rw [pd, pd, ih]
  | swap x y l => simp only [pd]; omega
  | trans _ _ a b => rw [a, b]
/-- What the ends of list c add up to. -/
def ps (c : Int) : List (Int × Int × Int) → Int
  | [] => 0
  | e :: E => (if e.2.1 = c then e.2.2 else 0) + ps c E
theorem ps_append (c : Int) : ∀ E F, ps c (E ++ F) = ps c E + ps c F
  | [], F => by simp [ps]
  | e :: E, F => by rw [List.cons_append, ps, ps, ps_append]; omega
theorem ps_take (c : Int) {E : List (Int × Int × Int)} {i : Nat} (h : i < E.length) : ps c (E.take (i + 1)) = ps c (E.take i) + (if E[i].2.1 = c then E[i].2.2 else 0) := by
  rw [List.take_succ_eq_append_getElem h, ps_append]; simp [ps]
theorem ps_le (c : Int) : ∀ {E : List (Int × Int × Int)}, (∀ e, e ∈ E → e.2.2 = 1 ∨ e.2.2 = -1) → -(E.length : Int) ≤ ps c E ∧ ps c E ≤ E.length
  | [], _ => by simp [ps]
  | e :: E, h => by
    have := ps_le c (E := E) fun x hx => h x (List.mem_cons_of_mem _ hx)
    have := h e (List.mem_cons_self)
    rw [ps, List.length_cons]; split <;> omega
theorem pd_low {c d : Int} : ∀ {E : List (Int × Int × Int)}, (∀ e, e ∈ E → e.1 ≤ d) → pd c d E = ps c E
  | [], _ => rfl
  | e :: E, h => by
    have := h e (List.mem_cons_self)
    rw [pd, ps, pd_low fun x hx => h x (List.mem_cons_of_mem _ hx)]
    simp [this]
theorem pd_high {c d : Int} : ∀ {E : List (Int × Int × Int)}, (∀ e, e ∈ E → d < e.1) → pd c d E = 0
  | [], _ => rfl
  | e :: E, h => by
    have := h e (List.mem_cons_self)
    rw [pd, pd_high fun x hx => h x (List.mem_cons_of_mem _ hx), if_neg (by omega)]; rfl
theorem pd_cut {c d : Int} {E : List (Int × Int × Int)} {i : Nat} (h1 : ∀ e, e ∈ E.take i → e.1 ≤ d) (h2 : ∀ e, e ∈ E.drop i → d < e.1) : pd c d E = ps c (E.take i) := by
  conv => lhs; rw [← List.take_append_drop i E]
  rw [pd_append, pd_low h1, pd_high h2, Int.add_zero]
/-- How many stretches have the day. -/
def dep (d : Int) : List (Int × Int) → Int
  | [] => 0
  | s :: l => (if s.1 ≤ d ∧ d < s.2 then 1 else 0) + dep d l
theorem dep_nn (d : Int) : ∀ l, 0 ≤ dep d l
  | [] => by simp [dep]
  | s :: l => by have := dep_nn d l; rw [dep]; split <;> omega
theorem dep_pos (d : Int) : ∀ l, decide (0 < dep d l) = cov l d
  | [] => by simp [dep, cov]
  | s :: l => by
    have h := dep_pos d l
    have h0 := dep_nn d l
    rw [cov_cons, ← h, dep]
    by_cases hs : s.1 ≤ d ∧ d < s.2
    · rw [if_pos hs]; simp [hs]; omega
    · rw [if_neg hs]
      have : (decide (s.1 ≤ d) && decide (d < s.2)) = false := by simp; omega
      rw [this, Bool.false_or, Int.zero_add]
theorem pd_ends (c d : Int) : ∀ {l : List (Int × Int)}, (∀ s, s ∈ l → s.1 < s.2) → pd c d (ends c l) = dep d l
  | [], _ => rfl
  | s :: l, h => by
    have := h s (List.mem_cons_self)
    rw [ends, pd, pd, pd_ends c d fun x hx => h x (List.mem_cons_of_mem _ hx), dep]
    by_cases h1 : s.1 ≤ d <;> by_cases h2 : s.2 ≤ d <;> simp [h1, h2] <;> omega
theorem pd_other {c c' : Int} (d : Int) (h : c' ≠ c) : ∀ l : List (Int × Int), pd c d (ends c' l) = 0
  | [] => rfl
  | s :: l => by rw [ends, pd, pd, pd_other d h l]; simp [h]

/-- What the sweep has of K before a day. -/
def Pr (K : Int → Bool) (T : Int) (ins : Bool) (fr : Int) (L : List (Int × Int)) : Prop :=
  Nf L ∧ (∀ d, d < T → K d = (cov L d || (ins && decide (fr ≤ d)))) ∧ (ins = true → fr < T ∧ ∀ s, s ∈ L → s.2 < fr) ∧ (ins = false → ∀ s, s ∈ L → s.2 < T)
theorem Pr.start {K : Int → Bool} {T : Int} (h : ∀ d, d < T → K d = false) : Pr K T false 0 [] :=
  ⟨Nf.nil, fun d hd => by rw [h d hd]; rfl, fun h => (by cases h), fun _ s h => by cases h⟩
theorem Pr.step {K : Int → Bool} {T T' : Int} {ins : Bool} {fr : Int} {L : List (Int × Int)} {x : Bool} (h : Pr K T ins fr L) (hT : T < T') (hK : ∀ d, T ≤ d → d < T' → K d = x) :
    Pr K T' x (if x && !ins then T else fr) (if ins && !x then L ++ [(fr, T)] else L) := by
  obtain ⟨hN, hB, hi, ho⟩ := h
  cases ins with
  | false =>
    have ho := ho rfl
    cases x with
    | false =>
      refine ⟨hN, fun d hd => ?_, fun h => (by cases h), fun _ s hs => by have := ho s hs; omega⟩
      by_cases h : d < T
      · exact hB d h
      · rw [hK d (by omega) hd]
        show false = (cov L d || (false && _))
        rw [cov_not.2 fun s hs hc => by have := ho s hs; omega]; rfl
    | true =>
      refine ⟨hN, fun d hd => ?_, fun _ => ⟨hT, ho⟩, fun h => by cases h⟩
      show K d = (cov L d || (true && decide (T ≤ d)))
      by_cases h : d < T
      · rw [hB d h, decide_eq_false (show ¬ T ≤ d by omega)]; simp
      · rw [hK d (by omega) hd, decide_eq_true (by omega)]; simp
  | true =>
    obtain ⟨hf, hl⟩ := hi rfl
    cases x with
    | true =>
      refine ⟨hN, fun d hd => ?_, fun _ => ⟨by show fr < T'; omega, hl⟩, fun h => by cases h⟩
      show K d = (cov L d || (true && decide (fr ≤ d)))
      by_cases h : d < T
      · exact hB d h
      · rw [hK d (by omega) hd, decide_eq_true (by omega)]; simp
    | false =>
      refine ⟨hN.snoc hf hl, fun d hd => ?_, fun h => (by cases h), fun _ s hs => ?_⟩
      · show K d = (cov (L ++ [(fr, T)]) d || (false && _))
        rw [cov_append, cov_cons, cov_nil, Bool.or_false, Bool.false_and, Bool.or_false]
        by_cases h : d < T
        · rw [hB d h, decide_eq_true h]; simp
        · rw [hK d (by omega) hd, decide_eq_false h, cov_not.2 fun s hs hc => by have := hl s hs; omega]; simp
      · rcases List.mem_append.1 hs with y | y
        · have := hl s y; omega
        · rw [List.mem_singleton.1 y]; exact hT
theorem Pr.done {K : Int → Bool} {T : Int} {fr : Int} {L : List (Int × Int)} (h : Pr K T false fr L) (hK : ∀ d, T ≤ d → K d = false) (d : Int) : cov L d = K d := by
  by_cases hd : d < T
  · rw [h.2.1 d hd]; simp
  · rw [hK d (by omega)]; exact cov_not.2 fun s hs hc => by have := h.2.2.2 rfl s hs; omega

/-- Ends in order, of two lists of stretches. -/
structure Srt (a b : List (Int × Int)) (E : List (Int × Int × Int)) : Prop where
  perm : E.Perm (ends 0 a ++ ends 1 b)
  asc : ∀ i j (hi : i < E.length) (hj : j < E.length), i < j → E[i].1 ≤ E[j].1
  ha : ∀ s, s ∈ a → s.1 < s.2
  hb : ∀ s, s ∈ b → s.1 < s.2
variable {a b : List (Int × Int)} {E : List (Int × Int × Int)}
theorem Srt.mem (h : Srt a b E) {i : Nat} (hi : i < E.length) : (E[i].2.1 = 0 ∨ E[i].2.1 = 1) ∧ (E[i].2.2 = 1 ∨ E[i].2.2 = -1) := by
  have := (h.perm.mem_iff).1 (List.getElem_mem hi)
  rcases List.mem_append.1 this with x | x
  · have := ends_mem 0 x; exact ⟨.inl this.1, this.2⟩
  · have := ends_mem 1 x; exact ⟨.inr this.1, this.2⟩
theorem Srt.len (h : Srt a b E) : E.length = 2 * (a.length + b.length) := by
  rw [h.perm.length_eq, List.length_append, ends_length, ends_length]; omega
theorem Srt.dep0 (h : Srt a b E) (d : Int) : pd 0 d E = dep d a := by
  rw [pd_perm h.perm, pd_append, pd_ends 0 d h.ha, pd_other d (by decide), Int.add_zero]
theorem Srt.dep1 (h : Srt a b E) (d : Int) : pd 1 d E = dep d b := by
  rw [pd_perm h.perm, pd_append, pd_ends 1 d h.hb, pd_other d (by decide), Int.zero_add]
theorem Srt.bound (h : Srt a b E) (c : Int) (i : Nat) (hi : i ≤ E.length) : -(i : Int) ≤ ps c (E.take i) ∧ ps c (E.take i) ≤ i := by
  have := ps_le c (E := E.take i) fun e he => by
    obtain ⟨j, hj, rfl⟩ := List.mem_iff_getElem.1 (List.mem_of_mem_take he)
    exact (h.mem hj).2
  rw [List.length_take, Nat.min_eq_left hi] at this
  exact this
/-- Between two days of ends nothing changes. -/
theorem Srt.const (h : Srt a b E) {i : Nat} {d : Int} (h1 : ∀ j (hj : j < E.length), j < i → E[j].1 ≤ d) (h2 : ∀ j (hj : j < E.length), i ≤ j → d < E[j].1) :
    cov a d = decide (0 < ps 0 (E.take i)) ∧ cov b d = decide (0 < ps 1 (E.take i)) := by
  have l : ∀ e, e ∈ E.take i → e.1 ≤ d := fun e he => by
    obtain ⟨j, hj, rfl⟩ := List.mem_iff_getElem.1 he
    rw [List.length_take] at hj
    rw [List.getElem_take]
    exact h1 j (by omega) (by omega)
  have r : ∀ e, e ∈ E.drop i → d < e.1 := fun e he => by
    obtain ⟨j, hj, rfl⟩ := List.mem_iff_getElem.1 he
    rw [List.length_drop] at hj
    rw [List.getElem_drop]
    exact h2 (i + j) (by omega) (by omega)
  rw [← dep_pos, ← dep_pos, ← h.dep0, ← h.dep1, pd_cut l r, pd_cut l r]; exact ⟨rfl, rfl⟩

/-- What the sweep has behind i ends. -/
def SI (kf : Bool → Bool → Bool) (a b : List (Int × Int)) (E : List (Int × Int × Int)) (i : Nat) (ins : Bool) (fr : Int) (L : List (Int × Int)) (x y : Int) : Prop :=
  x = ps 0 (E.take i) ∧ y = ps 1 (E.take i) ∧ i ≤ E.length ∧
    ((∃ h : i < E.length, Pr (fun d => kf (cov a d) (cov b d)) E[i].1 ins fr L) ∨ (i = E.length ∧ ∀ d, cov L d = kf (cov a d) (cov b d)) ∧ Nf L)
variable {kf : Bool → Bool → Bool}
theorem SI.start (h : Srt a b E) (hk : kf false false = false) : SI kf a b E 0 false 0 [] 0 0 := by
  refine ⟨rfl, rfl, Nat.zero_le _, ?_⟩
  have low : ∀ d, (∀ j (hj : j < E.length), d < E[j].1) → kf (cov a d) (cov b d) = false := fun d hd => by
    have := h.const (i := 0) (d := d) (fun j _ hj => by omega) (fun j hj _ => hd j hj)
    rw [this.1, this.2]; exact hk
  by_cases h0 : 0 < E.length
  · exact .inl ⟨h0, Pr.start fun d hd => low d fun j hj => by
      by_cases hj0 : j = 0
      · subst hj0; exact hd
      · have := h.asc 0 j h0 hj (by omega); omega⟩
  · exact .inr ⟨⟨by omega, fun d => by rw [low d fun j hj => absurd hj (by omega)]; rfl⟩, Nf.nil⟩
/-- The next end is on the same day. -/
theorem SI.same {i : Nat} {ins : Bool} {fr : Int} {L : List (Int × Int)} {x y : Int} (h : SI kf a b E i ins fr L x y) (hi : i < E.length) (hn : i + 1 < E.length) (he : E[i + 1].1 = E[i].1) :
    SI kf a b E (i + 1) ins fr L (x + if E[i].2.1 = 0 then E[i].2.2 else 0) (y + if E[i].2.1 = 1 then E[i].2.2 else 0) := by
  obtain ⟨rfl, rfl, _, h⟩ := h
  refine ⟨(ps_take 0 hi).symm, (ps_take 1 hi).symm, by omega, .inl ⟨hn, ?_⟩⟩
  rw [he]
  rcases h with ⟨_, h⟩ | ⟨⟨h, _⟩, _⟩
  · exact h
  · omega
/-- The last end of a day. -/
theorem SI.turn (hS : Srt a b E) (hk : kf false false = false) {i : Nat} {ins : Bool} {fr : Int} {L : List (Int × Int)} {x y x' y' : Int} {c : Bool} (h : SI kf a b E i ins fr L x y) (hi : i < E.length) (hn : ∀ hn : i + 1 < E.length, E[i + 1].1 ≠ E[i].1)
    (hx : x' = x + if E[i].2.1 = 0 then E[i].2.2 else 0) (hy : y' = y + if E[i].2.1 = 1 then E[i].2.2 else 0) (hc : c = kf (decide (0 < x')) (decide (0 < y'))) :
    SI kf a b E (i + 1) c (if c && !ins then E[i].1 else fr) (if ins && !c then L ++ [(fr, E[i].1)] else L) x' y' := by
  obtain ⟨rfl, rfl, _, h⟩ := h
  rw [← ps_take 0 hi] at hx
  rw [← ps_take 1 hi] at hy
  subst hx hy
  refine ⟨rfl, rfl, by omega, ?_⟩
  have hP : Pr (fun d => kf (cov a d) (cov b d)) E[i].1 ins fr L := by
    rcases h with ⟨_, h⟩ | ⟨⟨h, _⟩, _⟩
    · exact h
    · omega
  have con : ∀ d, E[i].1 ≤ d → (∀ hn : i + 1 < E.length, d < E[i + 1].1) → kf (cov a d) (cov b d) = c := fun d h1 h2 => by
    have := hS.const (i := i + 1) (d := d) (fun j hj hji => by
      by_cases hji' : j = i
      · subst hji'; exact h1
      · have := hS.asc j i hj hi (by omega); omega) (fun j hj hji => by
      have h2 := h2 (by omega)
      by_cases hji' : j = i + 1
      · subst hji'; exact h2
      · have := hS.asc (i + 1) j (by omega) hj (by omega); omega)
    rw [this.1, this.2]; exact hc.symm
  by_cases hl : i + 1 < E.length
  · have a1 := hS.asc i (i + 1) hi hl (by omega)
    have a2 := hn hl
    exact .inl ⟨hl, hP.step (by omega) fun d h1 h2 => con d h1 fun _ => h2⟩
  · have far : c = false := by
      have hd : ∀ l : List (Int × Int), ∃ D : Int, ∀ s, s ∈ l → s.2 ≤ D := fun l => by
        induction l with
        | nil => exact ⟨0, fun s h => by cases h⟩
        | cons s l ih =>
          obtain ⟨D, hD⟩ := ih
          refine ⟨max D s.2, fun t ht => ?_⟩
          rcases List.mem_cons.1 ht with rfl | ht
          · omega
          · have := hD t ht; omega
      obtain ⟨D, hD⟩ := hd a
      obtain ⟨D', hD'⟩ := hd b
      have := con (max E[i].1 (max D D')) (by omega) fun hn => absurd hn hl
      rw [← this, cov_not.2 fun s hs hcc => (by have := hD s hs; omega), cov_not.2 fun s hs hcc => (by have := hD' s hs; omega)]
      exact hk
    have hst := hP.step (T' := E[i].1 + 1) (x := c) (by omega) fun d h1 _ => con d h1 fun hn => absurd hn hl
    refine .inr ⟨⟨by omega, ?_⟩, hst.1⟩
    have hdn : ∀ d, E[i].1 + 1 ≤ d → kf (cov a d) (cov b d) = false := fun d hd => (con d (by omega) fun hn => absurd hn hl).trans far
    have hst2 := hst
    rw [show c = false from far] at hst2
    have := hst2.done hdn
    rw [show c = false from far]
    exact this
/-- Behind all ends: the runs. -/
theorem SI.all {ins : Bool} {fr : Int} {L : List (Int × Int)} {x y : Int} {i : Nat} (h : SI kf a b E i ins fr L x y) (hi : E.length ≤ i) (hk : kf false false = false) (ha : ∀ s, s ∈ a → st s = true) (hb : ∀ s, s ∈ b → st s = true) :
    L = runs fun d => kf (cov a d) (cov b d) := by
  obtain ⟨_, _, _, ⟨h, _⟩ | ⟨⟨_, h⟩, hN⟩⟩ := h
  · omega
  · refine runs_is hN h fun d hd => ?_
    cases h1 : cov a d with
    | true => exact st_cov ha d h1
    | false => cases h2 : cov b d with
      | true => exact st_cov hb d h2
      | false => rw [h1, h2, hk] at hd; cases hd
theorem SI.len {ins : Bool} {fr : Int} {L : List (Int × Int)} {x y : Int} {i : Nat} : SI kf a b E i ins fr L x y → i ≤ E.length := fun h => h.2.2.1
end Go.Proofs.Ytomcngnfdflkkaa.Spn
