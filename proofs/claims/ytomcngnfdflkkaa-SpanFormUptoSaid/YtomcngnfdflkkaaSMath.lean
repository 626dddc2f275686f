/-
  The mathematics of sets of days: what a list covers, that two ordered lists with the same days are the same, the list of the maximal runs, numbers of days, and the sweep.
-/
import Derived.Test.YtomcngnfdflkkaaRows
namespace Go.Proofs.Ytomcngnfdflkkaa.Spn

/-- Does one of the stretches have the day? -/
def cov (l : List (Int × Int)) (d : Int) : Bool := l.any fun s => decide (s.1 ≤ d) && decide (d < s.2)
theorem cov_iff {l : List (Int × Int)} {d : Int} : cov l d = true ↔ ∃ s, s ∈ l ∧ s.1 ≤ d ∧ d < s.2 := by simp [cov]
theorem cov_not {l : List (Int × Int)} {d : Int} : cov l d = false ↔ ∀ s, s ∈ l → ¬ (s.1 ≤ d ∧ d < s.2) := by
  constructor
  · intro h s hs hd
    have := cov_iff.2 ⟨s, hs, hd.1, hd.2⟩
    rw [h] at this; cases this
  · intro h
    cases hc : cov l d with
    | false => rfl
    | true => obtain ⟨s, hs, h1, h2⟩ := cov_iff.1 hc; exact absurd ⟨h1, h2⟩ (h s hs)
theorem cov_cons (s : Int × Int) (l : List (Int × Int)) (d : Int) : cov (s :: l) d = ((decide (s.1 ≤ d) && decide (d < s.2)) || cov l d) := by simp [cov]
theorem cov_append (l m : List (Int × Int)) (d : Int) : cov (l ++ m) d = (cov l d || cov m d) := by simp [cov]
theorem cov_nil (d : Int) : cov [] d = false := rfl

/-- In order, and no two of them touch. -/
def Nf (l : List (Int × Int)) : Prop := (∀ s, s ∈ l → s.1 < s.2) ∧ l.Pairwise (fun s t => s.2 < t.1)
theorem Nf.nil : Nf [] := ⟨fun s h => (by cases h), List.Pairwise.nil⟩
theorem Nf.tail {s : Int × Int} {l : List (Int × Int)} (h : Nf (s :: l)) : Nf l := ⟨fun t ht => h.1 t (List.mem_cons_of_mem _ ht), (List.pairwise_cons.1 h.2).2⟩
theorem Nf.snoc {l : List (Int × Int)} {s : Int × Int} (h : Nf l) (hs : s.1 < s.2) (hl : ∀ t, t ∈ l → t.2 < s.1) : Nf (l ++ [s]) := by
  refine ⟨fun t ht => ?_, List.pairwise_append.2 ⟨h.2, List.pairwise_cons.2 ⟨fun _ h => by (cases h), List.Pairwise.nil⟩, fun t ht u hu => ?_⟩⟩
  · rcases List.mem_append.1 ht with x | x
    · exact h.1 t x
    · rw [List.mem_singleton.1 x]; exact hs
  · rw [List.mem_singleton.1 hu]; exact hl t ht

/-- Two ordered lists with the same days are the same list. -/
theorem nf_uniq : ∀ {l m : List (Int × Int)}, Nf l → Nf m → (∀ d, cov l d = cov m d) → l = m
  | [], [], _, _, _ => rfl
  | [], t :: m, _, hm, h => by
    have h1 := h t.1
    rw [cov_nil, cov_cons] at h1
    have := hm.1 t (List.mem_cons_self)
    simp [this] at h1
  | s :: l, [], hl, _, h => by
    have h1 := h s.1
    rw [cov_nil, cov_cons] at h1
    have := hl.1 s (List.mem_cons_self)
    simp [this] at h1
  | s :: l, t :: m, hl, hm, h => by
    have s1 := hl.1 s (List.mem_cons_self)
    have t1 := hm.1 t (List.mem_cons_self)
    have sp := (List.pairwise_cons.1 hl.2).1
    have tp := (List.pairwise_cons.1 hm.2).1
    have lo : ∀ (s : Int × Int) (l : List (Int × Int)), s.1 < s.2 → (∀ t, t ∈ l → s.2 < t.1) → ∀ d, d < s.1 → cov (s :: l) d = false := fun s l h1 hp d hd => cov_not.2 fun u hu hc => by
      rcases List.mem_cons.1 hu with rfl | hu
      · omega
      · have := hp u hu; omega
    have mid : ∀ (s : Int × Int) (l : List (Int × Int)), (∀ t, t ∈ l → s.2 < t.1) → cov (s :: l) s.2 = false := fun s l hp => cov_not.2 fun u hu hc => by
      rcases List.mem_cons.1 hu with rfl | hu
      · omega
      · have := hp u hu; omega
    have in1 : ∀ (s : Int × Int) (l : List (Int × Int)) (d : Int), s.1 ≤ d → d < s.2 → cov (s :: l) d = true := fun s l d h1 h2 => cov_iff.2 ⟨s, List.mem_cons_self, h1, h2⟩
    have e1 : s.1 = t.1 := by
      rcases Int.lt_trichotomy s.1 t.1 with x | x | x
      · have a := in1 s l s.1 (by omega) s1
        rw [h, lo t m t1 tp s.1 x] at a; cases a
      · exact x
      · have a := in1 t m t.1 (by omega) t1
        rw [← h, lo s l s1 sp t.1 x] at a; cases a
    have e2 : s.2 = t.2 := by
      rcases Int.lt_trichotomy s.2 t.2 with x | x | x
      · have a := in1 t m s.2 (by omega) x
        rw [← h, mid s l sp] at a; cases a
      · exact x
      · have a := in1 s l t.2 (by omega) x
        rw [h, mid t m tp] at a; cases a
    have e : s = t := Prod.ext e1 e2
    subst e
    have r : l = m := nf_uniq hl.tail hm.tail fun d => by
      by_cases hd : d < s.2
      · have a : cov l d = false := cov_not.2 fun u hu hc => by have := sp u hu; omega
        have b : cov m d = false := cov_not.2 fun u hu hc => by have := tp u hu; omega
        rw [a, b]
      · have := h d
        rw [cov_cons, cov_cons] at this
        have e : (decide (s.1 ≤ d) && decide (d < s.2)) = false := by simp; omega
        rwa [e, Bool.false_or, Bool.false_or] at this
    rw [r]

/-- A day more: the last stretch goes on, or a new one begins. -/
def add (L : List (Int × Int)) (d : Int) : List (Int × Int) :=
  match L.getLast? with
  | some s => if s.2 = d then L.dropLast ++ [(s.1, d + 1)] else L ++ [(d, d + 1)]
  | none => [(d, d + 1)]
theorem add_nil (d : Int) : add [] d = [(d, d + 1)] := rfl
theorem add_on (L : List (Int × Int)) (s : Int × Int) (d : Int) (h : s.2 = d) : add (L ++ [s]) d = L ++ [(s.1, d + 1)] := by
  unfold add; rw [List.getLast?_concat]; simp only []; rw [if_pos h, List.dropLast_concat]
theorem add_new (L : List (Int × Int)) (d : Int) (h : ∀ s, L.getLast? = some s → s.2 ≠ d) : add L d = L ++ [(d, d + 1)] := by
  unfold add
  cases hl : L.getLast? with
  | none => rw [List.getLast?_eq_none_iff.1 hl]; rfl
  | some s => simp only []; rw [if_neg (h s hl)]

theorem add_inv (L : List (Int × Int)) (d : Int) (hN : Nf L) (hB : ∀ s, s ∈ L → 0 ≤ s.1 ∧ s.2 ≤ d) (h0 : 0 ≤ d) :
    Nf (add L d) ∧ (∀ s, s ∈ add L d → 0 ≤ s.1 ∧ s.2 ≤ d + 1) ∧ ∀ x, cov (add L d) x = (cov L x || decide (x = d)) := by
  have one : ∀ x : Int, (decide (d ≤ x) && decide (x < d + 1)) = decide (x = d) := fun x => by
    by_cases h : x = d
    · subst h; simp; omega
    · rw [decide_eq_false h]; simp; omega
  have new : (∀ s, s ∈ L → s.2 < d) → Nf (L ++ [(d, d + 1)]) ∧ (∀ s, s ∈ L ++ [(d, d + 1)] → 0 ≤ s.1 ∧ s.2 ≤ d + 1) ∧ ∀ x, cov (L ++ [(d, d + 1)]) x = (cov L x || decide (x = d)) := fun h => by
    refine ⟨hN.snoc (by simp; omega) h, fun s hs => ?_, fun x => ?_⟩
    · rcases List.mem_append.1 hs with y | y
      · have := hB s y; omega
      · rw [List.mem_singleton.1 y]; simp; omega
    · rw [cov_append, cov_cons, cov_nil, Bool.or_false, one]
  rcases List.eq_nil_or_concat L with rfl | ⟨L', s, rfl⟩
  · have := new (fun s h => by cases h)
    rw [List.nil_append] at this
    rw [add_nil]; exact this
  · simp only [List.concat_eq_append] at *
    by_cases hs : s.2 = d
    · rw [add_on _ _ _ hs]
      have sm := List.pairwise_append.1 hN.2
      have s1 := hN.1 s (by simp)
      have hN' : Nf L' := ⟨fun t ht => hN.1 t (List.mem_append_left _ ht), sm.1⟩
      have sB := hB s (by simp)
      refine ⟨hN'.snoc (by simp; omega) (fun t ht => by simp; exact sm.2.2 t ht s (by simp)), fun t ht => ?_, fun x => ?_⟩
      · rcases List.mem_append.1 ht with y | y
        · have := hB t (List.mem_append_left _ y); omega
        · rw [List.mem_singleton.1 y]; simp; omega
      · rw [cov_append, cov_append, cov_cons, cov_nil, Bool.or_false, cov_cons, cov_nil, Bool.or_false, Bool.or_assoc]
        congr 1
        by_cases hx : x = d
        · subst hx; simp; omega
        · rw [decide_eq_false hx, Bool.or_false]
          congr 1
          simp only [decide_eq_decide]
          omega
    · rw [add_new _ _ (fun t ht => by rw [List.getLast?_concat] at ht; cases ht; exact hs)]
      refine new fun t ht => ?_
      rcases List.mem_append.1 ht with y | y
      · have a := (List.pairwise_append.1 hN.2).2.2 t y s (by simp)
        have b := hB s (by simp)
        have c := hN.1 s (by simp)
        omega
      · rw [List.mem_singleton.1 y]; have := hB s (by simp); omega

/-- The maximal runs of the days before n. -/
def runsTo (K : Int → Bool) : Nat → List (Int × Int)
  | 0 => []
  | n + 1 => if K n then add (runsTo K n) n else runsTo K n
theorem runsTo_inv (K : Int → Bool) : ∀ n : Nat, Nf (runsTo K n) ∧ (∀ s, s ∈ runsTo K n → 0 ≤ s.1 ∧ s.2 ≤ n) ∧ ∀ d, cov (runsTo K n) d = (decide (0 ≤ d) && decide (d < n) && K d)
  | 0 => ⟨Nf.nil, fun s h => (by cases h), fun d => by
      show false = _
      by_cases h : 0 ≤ d
      · rw [decide_eq_false (show ¬ d < ((0 : Nat) : Int) by omega)]; simp
      · rw [decide_eq_false h]; rfl⟩
  | n + 1 => by
    obtain ⟨h1, h2, h3⟩ := runsTo_inv K n
    have hd : ∀ d : Int, d ≠ n → (decide (0 ≤ d) && decide (d < ((n + 1 : Nat) : Int)) && K d) = (decide (0 ≤ d) && decide (d < (n : Int)) && K d) := fun d h => by
      congr 2; simp only [decide_eq_decide]; omega
    show Nf (if K n then _ else _) ∧ (∀ s, s ∈ (if K n then _ else _) → _) ∧ ∀ d, cov (if K n then _ else _) d = _
    cases hk : K n with
    | true =>
      simp only [if_true]
      obtain ⟨a, b, c⟩ := add_inv (runsTo K n) n h1 h2 (by omega)
      refine ⟨a, fun s hs => by have := b s hs; omega, fun d => ?_⟩
      rw [c, h3]
      by_cases h : d = n
      · subst h; simp [hk]; omega
      · rw [hd d h, decide_eq_false h, Bool.or_false]
    | false =>
      simp only [Bool.false_eq_true, if_false]
      refine ⟨h1, fun s hs => by have := h2 s hs; omega, fun d => ?_⟩
      rw [h3]
      by_cases h : d = n
      · subst h; simp [hk]
      · rw [hd d h]
def runs (K : Int → Bool) : List (Int × Int) := runsTo K 36525
theorem runs_nf (K : Int → Bool) : Nf (runs K) := (runsTo_inv K 36525).1
theorem runs_in (K : Int → Bool) : ∀ s, s ∈ runs K → 0 ≤ s.1 ∧ s.2 ≤ 36525 := (runsTo_inv K 36525).2.1
theorem runs_cov (K : Int → Bool) (d : Int) : cov (runs K) d = (decide (0 ≤ d) && decide (d < 36525) && K d) := (runsTo_inv K 36525).2.2 d
/-- What has the days of K, and is ordered, is the list of its runs. -/
theorem runs_is {K : Int → Bool} {L : List (Int × Int)} (h : Nf L) (hc : ∀ d, cov L d = K d) (hK : ∀ d, K d = true → 0 ≤ d ∧ d < 36525) : L = runs K :=
  nf_uniq h (runs_nf K) fun d => by
    rw [hc, runs_cov]
    cases hk : K d with
    | false => simp
    | true => have := hK d hk; simp; omega
theorem runs_cov' {K : Int → Bool} (hK : ∀ d, K d = true → 0 ≤ d ∧ d < 36525) (d : Int) : cov (runs K) d = K d := by
  rw [runs_cov]
  cases hk : K d with
  | false => simp
  | true => have := hK d hk; simp; omega
theorem runs_congr {K M : Int → Bool} (h : ∀ d, K d = M d) : runs K = runs M := by rw [show K = M from funext h]

/-- Is it a stretch? -/
def st (s : Int × Int) : Bool := decide (0 ≤ s.1) && decide (s.1 < s.2) && decide (s.2 ≤ 36525)
theorem st_iff (s : Int × Int) : st s = true ↔ 0 ≤ s.1 ∧ s.1 < s.2 ∧ s.2 ≤ 36525 := by unfold st; simp [and_assoc]
def Vl (l : List (Int × Int)) : Prop := l.length ≤ 1000 ∧ (∀ s, s ∈ l → st s = true) ∧ l.Pairwise (fun s t => s.2 < t.1)
instance (l : List (Int × Int)) : Decidable (Vl l) := by unfold Vl; infer_instance
/-- Is it a set of days? -/
def vl (l : List (Int × Int)) : Bool := decide (Vl l)
theorem vl_iff {l : List (Int × Int)} : vl l = true ↔ Vl l := by unfold vl; simp
theorem Vl.nf {l : List (Int × Int)} (h : Vl l) : Nf l := ⟨fun s hs => ((st_iff s).1 (h.2.1 s hs)).2.1, h.2.2⟩
theorem st_cov {l : List (Int × Int)} (h : ∀ s, s ∈ l → st s = true) (d : Int) (hd : cov l d = true) : 0 ≤ d ∧ d < 36525 := by
  obtain ⟨s, hs, h1, h2⟩ := cov_iff.1 hd
  have := (st_iff s).1 (h s hs)
  omega
theorem Vl.cov {l : List (Int × Int)} (h : Vl l) (d : Int) (hd : Spn.cov l d = true) : 0 ≤ d ∧ d < 36525 := st_cov h.2.1 d hd
theorem vl_runs {K : Int → Bool} (h : (runs K).length ≤ 1000) : Vl (runs K) :=
  ⟨h, fun s hs => (st_iff s).2 (by have := runs_in K s hs; have := (runs_nf K).1 s hs; omega), (runs_nf K).2⟩
theorem runs_self {l : List (Int × Int)} (h : Vl l) : runs (Spn.cov l) = l := (runs_is h.nf (fun _ => rfl) h.cov).symm

/-- The first k are in order. -/
def Up (l : List (Int × Int)) (k : Nat) : Prop := (∀ s, s ∈ l.take k → st s = true) ∧ (l.take k).Pairwise (fun s t => s.2 < t.1)
theorem Up.zero (l : List (Int × Int)) : Up l 0 := ⟨fun s h => by simp at h, by simp⟩
theorem Up.succ {l : List (Int × Int)} {k : Nat} (h : Up l k) (hk : k < l.length) (hs : st l[k] = true) (hp : ∀ h0 : 0 < k, (l[k - 1]'(by omega)).2 < l[k].1) : Up l (k + 1) := by
  unfold Up
  rw [List.take_succ_eq_append_getElem hk]
  refine ⟨fun s x => ?_, List.pairwise_append.2 ⟨h.2, List.pairwise_cons.2 ⟨fun _ h => by (cases h), List.Pairwise.nil⟩, fun t ht u hu => ?_⟩⟩
  · rcases List.mem_append.1 x with y | y
    · exact h.1 s y
    · rw [List.mem_singleton.1 y]; exact hs
  · rw [List.mem_singleton.1 hu]
    obtain ⟨i, hi, rfl⟩ := List.mem_iff_getElem.1 ht
    rw [List.length_take] at hi
    rw [List.getElem_take]
    have h0 : 0 < k := by omega
    have hp := hp h0
    by_cases hik : i = k - 1
    · subst hik; exact hp
    · have a := List.pairwise_iff_getElem.1 h.2 i (k - 1) (by rw [List.length_take]; omega) (by rw [List.length_take]; omega) (by omega)
      rw [List.getElem_take, List.getElem_take] at a
      have b := (st_iff _).1 (h.1 (l[k - 1]'(by omega)) (by
        rw [List.mem_iff_getElem]; exact ⟨k - 1, by rw [List.length_take]; omega, by rw [List.getElem_take]⟩))
      omega
theorem Up.all {l : List (Int × Int)} {k : Nat} (h : Up l k) (hk : l.length ≤ k) (h1 : l.length ≤ 1000) : vl l = true := by
  unfold Up at h
  rw [List.take_of_length_le hk] at h
  exact vl_iff.2 ⟨h1, h⟩
theorem vl_long {l : List (Int × Int)} (h : 1000 < l.length) : vl l = false := decide_eq_false fun x => by have := x.1; omega
theorem vl_bad1 {l : List (Int × Int)} {k : Nat} (hk : k < l.length) (h : st l[k] = false) : vl l = false := decide_eq_false fun x => by
  have := x.2.1 l[k] (List.getElem_mem hk); rw [h] at this; cases this
theorem vl_bad2 {l : List (Int × Int)} {k : Nat} (hk : k < l.length) (h0 : 0 < k) (h : l[k].1 ≤ (l[k - 1]'(by omega)).2) : vl l = false := decide_eq_false fun x => by
  have := List.pairwise_iff_getElem.1 x.2.2 (k - 1) k (by omega) hk (by omega); omega
/-- All of them are stretches. -/
def sts (l : List (Int × Int)) : Bool := l.all st
theorem sts_iff {l : List (Int × Int)} : sts l = true ↔ ∀ s, s ∈ l → st s = true := by unfold sts; simp
theorem sts_take {l : List (Int × Int)} {k : Nat} (hk : k < l.length) (h : sts (l.take k) = true) (hs : st l[k] = true) : sts (l.take (k + 1)) = true := by
  rw [List.take_succ_eq_append_getElem hk]; unfold sts at *; rw [List.all_append, h]; simpa using hs
theorem sts_bad {l : List (Int × Int)} {k : Nat} (hk : k < l.length) (h : st l[k] = false) : sts l = false := by
  cases hc : sts l with
  | false => rfl
  | true => have := sts_iff.1 hc l[k] (List.getElem_mem hk); rw [h] at this; cases this

/-! ### Numbers of days -/
def tot : List (Int × Int) → Int
  | [] => 0
  | s :: l => (s.2 - s.1) + tot l
theorem tot_append : ∀ l m : List (Int × Int), tot (l ++ m) = tot l + tot m
  | [], m => by simp [tot]
  | s :: l, m => by rw [List.cons_append, tot, tot, tot_append]; omega
theorem tot_take {l : List (Int × Int)} {k : Nat} (hk : k < l.length) : tot (l.take (k + 1)) = tot (l.take k) + (l[k].2 - l[k].1) := by
  rw [List.take_succ_eq_append_getElem hk, tot_append]; simp [tot]
theorem tot_len : ∀ {l : List (Int × Int)}, (∀ s, s ∈ l → s.1 < s.2) → (l.length : Int) ≤ tot l
  | [], _ => by simp [tot]
  | s :: l, h => by
    have := tot_len (l := l) fun t ht => h t (List.mem_cons_of_mem _ ht)
    have := h s (List.mem_cons_self)
    rw [tot, List.length_cons]; omega
def nd (K : Int → Bool) : Nat → Int
  | 0 => 0
  | n + 1 => nd K n + if K n then 1 else 0
theorem nd_le (K : Int → Bool) : ∀ n, 0 ≤ nd K n ∧ nd K n ≤ n
  | 0 => by simp [nd]
  | n + 1 => by have := nd_le K n; rw [nd]; split <;> omega
theorem nd_two (K M : Int → Bool) : ∀ n, nd (fun d => K d || M d) n + nd (fun d => K d && M d) n = nd K n + nd M n
  | 0 => rfl
  | n + 1 => by
    have := nd_two K M n
    simp only [nd]
    rcases Bool.eq_false_or_eq_true (K n) with h | h <;> rcases Bool.eq_false_or_eq_true (M n) with h' | h' <;> simp [h, h'] <;> omega
theorem nd_part (K M : Int → Bool) : ∀ n, nd (fun d => K d && !M d) n + nd (fun d => K d && M d) n = nd K n
  | 0 => rfl
  | n + 1 => by
    have := nd_part K M n
    simp only [nd]
    rcases Bool.eq_false_or_eq_true (K n) with h | h <;> rcases Bool.eq_false_or_eq_true (M n) with h' | h' <;> simp [h, h'] <;> omega
theorem nd_apart {K M : Int → Bool} (h : ∀ d, (K d && M d) = false) (n : Nat) : nd (fun d => K d || M d) n = nd K n + nd M n := by
  have a := nd_two K M n
  have b : ∀ n, nd (fun d => K d && M d) n = 0 := fun n => by
    induction n with
    | zero => rfl
    | succ n ih => rw [nd, ih, h]; rfl
  rw [b n] at a; omega
theorem nd_congr {K M : Int → Bool} (h : ∀ d, K d = M d) (n : Nat) : nd K n = nd M n := by rw [show K = M from funext h]
theorem nd_one (x y : Int) (hx : 0 ≤ x) (hy : x ≤ y) : ∀ n : Nat, nd (fun d => decide (x ≤ d) && decide (d < y)) n = if (n : Int) ≤ x then 0 else if (n : Int) ≤ y then (n : Int) - x else y - x
  | 0 => by rw [nd, if_pos (by omega)]
  | n + 1 => by
    have := nd_one x y hx hy n
    rw [nd, this]
    by_cases h1 : x ≤ (n : Int) <;> by_cases h2 : (n : Int) < y <;> simp only [h1, h2, decide_true, decide_false, Bool.and_true, Bool.and_false, if_true, Bool.false_eq_true, if_false] <;> (repeat' split) <;> omega
theorem tot_nd (N : Nat) : ∀ {l : List (Int × Int)}, Nf l → (∀ s, s ∈ l → 0 ≤ s.1 ∧ s.2 ≤ N) → tot l = nd (cov l) N
  | [], _, _ => by
    have : ∀ n, nd (cov []) n = 0 := fun n => by
      induction n with
      | zero => rfl
      | succ n ih => rw [nd, ih, cov_nil]; rfl
    rw [this]; rfl
  | s :: l, h, hb => by
    have sp := (List.pairwise_cons.1 h.2).1
    have e : nd (cov (s :: l)) N = nd (fun d => (decide (s.1 ≤ d) && decide (d < s.2))) N + nd (cov l) N := by
      rw [← nd_apart (fun d => ?_)]
      · exact nd_congr (fun d => cov_cons s l d) _
      · cases hc : cov l d with
        | false => simp
        | true =>
          obtain ⟨t, ht, h1, h2⟩ := cov_iff.1 hc
          have := sp t ht
          have := h.1 t (List.mem_cons_of_mem _ ht)
          simp; omega
    have b := hb s (List.mem_cons_self)
    have c := h.1 s (List.mem_cons_self)
    rw [e, tot, tot_nd N h.tail fun t ht => hb t (List.mem_cons_of_mem _ ht), nd_one _ _ b.1 (by omega)]
    congr 1
    split
    · omega
    · split <;> omega

/-! ### How many stretches there can be -/
theorem nodup_len : ∀ {l X : List Int}, l.Nodup → (∀ x, x ∈ l → x ∈ X) → l.length ≤ X.length
  | [], _, _, _ => by simp
  | x :: l, X, h, hs => by
    have hx := hs x (List.mem_cons_self)
    have hn := List.nodup_cons.1 h
    have := nodup_len (X := X.erase x) hn.2 fun y hy => by
      have : y ≠ x := fun e => hn.1 (e ▸ hy)
      exact (List.mem_erase_of_ne this).2 (hs y (List.mem_cons_of_mem _ hy))
    rw [List.length_erase_of_mem hx] at this
    have := List.length_pos_of_mem hx
    rw [List.length_cons]; omega
theorem nf_len {l : List (Int × Int)} (h : Nf l) {X : List Int} (hs : ∀ s, s ∈ l → s.1 ∈ X) : l.length ≤ X.length := by
  have : (l.map Prod.fst).Nodup := by
    unfold List.Nodup
    rw [List.pairwise_map]
    have := List.Pairwise.and_mem.1 h.2
    refine this.imp fun {s t} ⟨hs, ht, hp⟩ => ?_
    have := h.1 s hs
    intro e; omega
  have := nodup_len this (X := X) fun x hx => by
    obtain ⟨s, hm, rfl⟩ := List.mem_map.1 hx
    exact hs s hm
  simpa using this
/-- A run begins where K begins. -/
theorem runs_begin {K : Int → Bool} (hK : ∀ d, K d = true → 0 ≤ d ∧ d < 36525) {s : Int × Int} (hs : s ∈ runs K) : K s.1 = true ∧ K (s.1 - 1) = false := by
  have hn := runs_nf K
  have a := hn.1 s hs
  have e1 : K s.1 = true := by rw [← runs_cov' hK]; exact cov_iff.2 ⟨s, hs, by omega, a⟩
  refine ⟨e1, ?_⟩
  rw [← runs_cov' hK]
  refine cov_not.2 fun t ht hc => ?_
  obtain ⟨i, hi, rfl⟩ := List.mem_iff_getElem.1 hs
  obtain ⟨j, hj, rfl⟩ := List.mem_iff_getElem.1 ht
  rcases Nat.lt_trichotomy i j with x | x | x
  · have := List.pairwise_iff_getElem.1 hn.2 i j hi hj x; omega
  · subst x; omega
  · have := List.pairwise_iff_getElem.1 hn.2 j i hj hi x; omega
theorem runs_len {a b : List (Int × Int)} {kf : Bool → Bool → Bool} (hf : kf false false = false) (ha : ∀ s, s ∈ a → st s = true) (hb : ∀ s, s ∈ b → st s = true)
    (X : List Int) (hX : ∀ d, kf (cov a d) (cov b d) = true → kf (cov a (d - 1)) (cov b (d - 1)) = false → d ∈ X) :
    (runs fun d => kf (cov a d) (cov b d)).length ≤ X.length := by
  refine nf_len (runs_nf _) fun s hs => ?_
  have hK : ∀ d, kf (cov a d) (cov b d) = true → 0 ≤ d ∧ d < 36525 := fun d h => by
    cases h1 : cov a d with
    | true => exact st_cov ha d h1
    | false => cases h2 : cov b d with
      | true => exact st_cov hb d h2
      | false => rw [h1, h2, hf] at h; cases h
  obtain ⟨e1, e2⟩ := runs_begin (K := fun d => kf (cov a d) (cov b d)) hK hs
  exact hX _ e1 e2
theorem cov_begin {l : List (Int × Int)} {d : Int} (h : cov l d = true) (h' : cov l (d - 1) = false) : d ∈ l.map Prod.fst := by
  obtain ⟨s, hs, h1, h2⟩ := cov_iff.1 h
  have := cov_not.1 h' s hs
  exact List.mem_map.2 ⟨s, hs, by omega⟩
theorem cov_end {l : List (Int × Int)} {d : Int} (h : cov l d = false) (h' : cov l (d - 1) = true) : d ∈ l.map Prod.snd := by
  obtain ⟨s, hs, h1, h2⟩ := cov_iff.1 h'
  have := cov_not.1 h s hs
  exact List.mem_map.2 ⟨s, hs, by omega⟩
end Go.Proofs.Ytomcngnfdflkkaa.Spn
