/-
  The mathematics of the stable sort of the library: insertion and merging in place, under a test that need only agree with a strict total order where the first argument stands behind the second one.
-/
import Derived.Sort.LotA
namespace Go.Proofs.YtamccmeibnihpaaGreatDoor.MSort
open Go.Sort
variable {α : Type} [Inhabited α]

/-- What the sort needs of a test cl, of an order lt, and of the places ix at first. -/
structure Fits (lt cl : α → α → Bool) (ix : α → Nat) : Prop where
  swo : SWO lt
  agree : ∀ x y, ix y < ix x → cl x y = lt x y

variable {lt cl : α → α → Bool} {ix : α → Nat}

/-- All that lies in [a, m) comes from ahead of all that lies in [m, b). -/
def Ahead (ix : α → Nat) (a m b : Nat) (d : Array α) : Prop := ∀ i j, a ≤ i → i < m → m ≤ j → j < b → ix d[i]! < ix d[j]!

/-- The places at first are in order. -/
def Asc (ix : α → Nat) (a b : Nat) (d : Array α) : Prop := ∀ i j, a ≤ i → i < j → j < b → ix d[i]! < ix d[j]!

theorem inner_agree (F : Fits lt cl ix) (a : Nat) : ∀ (j : Nat) (d : Array α), j < d.size → (∀ k, a ≤ k → k < j → ix d[k]! < ix d[j]!) → insInner cl a j d = insInner lt a j d
  | 0, _, _, _ => rfl
  | j + 1, d, hs, h => by
    by_cases ha : a < j + 1
    · have e := F.agree d[j + 1]! d[j]! (h j (by omega) (by omega))
      unfold insInner
      rw [e]
      by_cases hl : lt d[j + 1]! d[j]! = true
      · rw [if_pos (by simp [ha, hl])]
        rw [if_pos (by simp [ha, hl])]
        have g := swp_get d hs (show j < d.size by omega)
        refine inner_agree F a j _ (by rw [swp_size]; omega) fun k hk1 hk2 => ?_
        rw [g, g, if_neg (by omega), if_neg (by omega), if_pos rfl]
        exact h k hk1 (by omega)
      · rw [if_neg (by simp [hl]), if_neg (by simp [hl])]
    · unfold insInner
      rw [if_neg (by simp; omega), if_neg (by simp; omega)]

theorem inner_perm (a : Nat) : ∀ (j : Nat) (d : Array α) (b : Nat), a ≤ j → j < b → b ≤ d.size → PermIn a b d (insInner lt a j d)
  | 0, d, b, _, _, _ => permIn_refl d a b
  | j + 1, d, b, h1, h2, h3 => by
    unfold insInner
    split
    · rename_i hc
      simp only [Bool.and_eq_true, decide_eq_true_eq] at hc
      exact permIn_trans _ _ _ a b (swp_permIn d a b (j + 1) j (by omega) (by omega) (by omega) (by omega) h3) (inner_perm a j _ b (by omega) (by omega) (by rw [swp_size]; exact h3))
    · exact permIn_refl d a b

theorem outer_agree (F : Fits lt cl ix) (a b : Nat) : ∀ (n i : Nat) (d : Array α), b - i = n → a ≤ i → b ≤ d.size → Ahead ix a i b d → Asc ix i b d → insOuter cl a b i d = insOuter lt a b i d
  | 0, i, d, hn, _, _, _, _ => by
    have e1 : insOuter cl a b i d = d := by rw [insOuter, if_neg (by omega)]
    have e2 : insOuter lt a b i d = d := by rw [insOuter, if_neg (by omega)]
    rw [e1, e2]
  | n + 1, i, d, hn, hai, hb, hA, hC => by
    have hlt : i < b := by omega
    have e1 : insOuter cl a b i d = insOuter cl a b (i + 1) (insInner cl a i d) := by rw [insOuter, if_pos hlt]
    have e2 : insOuter lt a b i d = insOuter lt a b (i + 1) (insInner lt a i d) := by rw [insOuter, if_pos hlt]
    rw [e1, e2]
    rw [inner_agree F a i d (by omega) fun k h1 h2 => hA k i h1 h2 (Nat.le_refl _) (by omega)]
    have P := inner_perm (lt := lt) a i d (i + 1) hai (by omega) (by omega)
    have out : ∀ k, i + 1 ≤ k → (insInner lt a i d)[k]! = d[k]! := fun k hk => P.2.1 k (Or.inr hk)
    refine outer_agree F a b n (i + 1) _ (by omega) (by omega) (by rw [P.1]; exact hb) ?_ ?_
    · intro p q h1 h2 h3 h4
      rw [out q h3]
      refine permIn_all d _ a (i + 1) (fun x => ix x < ix d[q]!) (by omega) P ?_ p h1 h2
      intro k hk1 hk2
      by_cases e : k = i
      · subst e; exact hC k q (Nat.le_refl _) (by omega) h4
      · exact hA k q hk1 (by omega) (by omega) h4
    · intro p q h1 h2 h3
      rw [out p h1, out q (by omega)]
      exact hC p q (by omega) h2 h3

/-- Insertion sort, of places in order: the test does as well as the order. -/
theorem insertion_holds (F : Fits lt cl ix) (d : Array α) (a b : Nat) (hab : a ≤ b) (hb : b ≤ d.size) (hC : Asc ix a b d) :
    PermIn a b d (insertionSort cl d a b) ∧ SortedIn lt a b (insertionSort cl d a b) := by
  have e : insertionSort cl d a b = insertionSort lt d a b := by
    unfold insertionSort
    refine outer_agree F a b _ (a + 1) d rfl (by omega) hb ?_ ?_
    · intro p q h1 h2 h3 h4; exact hC p q h1 (by omega) h4
    · intro p q h1 h2 h3; exact hC p q (by omega) h2 h3
  rw [e]
  exact insertionSort_holds F.swo d a b hab hb

/-- The places behind a permutation of the parts. -/
theorem Ahead.perm {a m b : Nat} {d d' : Array α} (h : Ahead ix a m b d) (h1 : ∀ p : α → Prop, (∀ i, a ≤ i → i < m → p d[i]!) → ∀ i, a ≤ i → i < m → p d'[i]!)
    (h2 : ∀ p : α → Prop, (∀ i, m ≤ i → i < b → p d[i]!) → ∀ i, m ≤ i → i < b → p d'[i]!) : Ahead ix a m b d' := by
  intro i j hi1 hi2 hj1 hj2
  refine h1 (fun x => ix x < ix d'[j]!) ?_ i hi1 hi2
  intro k hk1 hk2
  exact h2 (fun y => ix d[k]! < ix y) (fun l hl1 hl2 => h k l hk1 hk2 hl1 hl2) j hj1 hj2

/-! ### Merging -/
/-- What merging [a, m) and [m, b) starts from. -/
structure Two (lt : α → α → Bool) (ix : α → Nat) (a m b : Nat) (d : Array α) : Prop where
  left : SortedIn lt a m d
  right : SortedIn lt m b d
  ahead : Ahead ix a m b d

/-- Whatever comes from behind is tested as it should be. -/
theorem Two.test {a m b : Nat} {d : Array α} (F : Fits lt cl ix) (h : Two lt ix a m b d) {i j : Nat} (h1 : a ≤ i) (h2 : i < m) (h3 : m ≤ j) (h4 : j < b) : cl d[j]! d[i]! = lt d[j]! d[i]! :=
  F.agree _ _ (h.ahead i j h1 h2 h3 h4)

/-- The element at a is carried to the place i - 1. -/
structure Carried (a i : Nat) (d d' : Array α) : Prop where
  moved : ∀ k, a ≤ k → k + 1 < i → d'[k]! = d[k + 1]!
  at' : a < i → d'[i - 1]! = d[a]!
  same : ∀ k, k < a ∨ i ≤ k → d'[k]! = d[k]!

/-- The element at m is carried to the place i. -/
structure Brought (m i : Nat) (d d' : Array α) : Prop where
  moved : ∀ k, i < k → k ≤ m → d'[k]! = d[k - 1]!
  at' : d'[i]! = d[m]!
  same : ∀ k, k < i ∨ m < k → d'[k]! = d[k]!

/-- One element on the left: it goes behind all that are less. -/
theorem merge_one_left (F : Fits lt cl ix) {a b i : Nat} {d d' : Array α} (h : Two lt ix a (a + 1) b d) (hi1 : a + 1 ≤ i) (hi2 : i ≤ b)
    (lo : ∀ k, a + 1 ≤ k → k < i → lt d[k]! d[a]! = true) (hi : ∀ k, i ≤ k → k < b → lt d[k]! d[a]! = false) (C : Carried a i d d') : SortedIn lt a b d' := by
  intro p q h1 h2 h3
  by_cases hq : q + 1 < i
  · rw [C.moved q (by omega) hq, C.moved p h1 (by omega)]
    exact h.right (p + 1) (q + 1) (by omega) (by omega) (by omega)
  · by_cases hq1 : q + 1 = i
    · obtain rfl : q = i - 1 := by omega
      rw [C.at' (by omega), C.moved p h1 (by omega)]
      exact F.swo.asymmA (lo (p + 1) (by omega) (by omega))
    · rw [C.same q (Or.inr (by omega))]
      by_cases hp : p + 1 < i
      · rw [C.moved p h1 hp]
        exact h.right (p + 1) q (by omega) (by omega) h3
      · by_cases hp1 : p + 1 = i
        · obtain rfl : p = i - 1 := by omega
          rw [C.at' (by omega)]
          exact hi q (by omega) h3
        · rw [C.same p (Or.inr (by omega))]
          exact h.right p q (by omega) h2 h3

/-- One element on the right: it goes ahead of all that are greater. -/
theorem merge_one_right (F : Fits lt cl ix) {a m i : Nat} {d d' : Array α} (h : Two lt ix a m (m + 1) d) (hi1 : a ≤ i) (hi2 : i ≤ m)
    (lo : ∀ k, a ≤ k → k < i → lt d[m]! d[k]! = false) (hi : ∀ k, i ≤ k → k < m → lt d[m]! d[k]! = true) (C : Brought m i d d') : SortedIn lt a (m + 1) d' := by
  intro p q h1 h2 h3
  by_cases hq : q < i
  · rw [C.same q (Or.inl hq), C.same p (Or.inl (by omega))]
    exact h.left p q h1 h2 (by omega)
  · by_cases hq1 : q = i
    · subst hq1
      rw [C.at', C.same p (Or.inl h2)]
      exact lo p h1 h2
    · rw [C.moved q (by omega) (by omega)]
      by_cases hp : p < i
      · rw [C.same p (Or.inl hp)]
        exact h.left p (q - 1) h1 (by omega) (by omega)
      · by_cases hp1 : p = i
        · subst hp1
          rw [C.at']
          exact F.swo.asymmA (hi (q - 1) (by omega) (by omega))
        · rw [C.moved p (by omega) (by omega)]
          exact h.left (p - 1) (q - 1) (by omega) (by omega) (by omega)

/-- [a, m) and [m, b) are exchanged. -/
structure Rotated (a m b : Nat) (d d' : Array α) : Prop where
  front : ∀ k, a ≤ k → k < a + (b - m) → d'[k]! = d[k + (m - a)]!
  back : ∀ k, a + (b - m) ≤ k → k < b → d'[k]! = d[k - (b - m)]!
  same : ∀ k, k < a ∨ b ≤ k → d'[k]! = d[k]!

/-- What the search for the cut finds: s on the left, e = mid + m - s on the right. -/
structure CutAt (lt : α → α → Bool) (a m b s e : Nat) (d : Array α) : Prop where
  s0 : a ≤ s
  s1 : s ≤ m
  e0 : m ≤ e
  e1 : e ≤ b
  lo : a < s → e < b → lt d[e]! d[s - 1]! = false
  hi : s < m → m < e → lt d[e - 1]! d[s]! = true

/-- Behind the exchange: two pairs to be merged, and nothing of the second one is less than anything of the first one. -/
theorem cut_halves (F : Fits lt cl ix) {a m b s e mid : Nat} {d d' : Array α} (h : Two lt ix a m b d) (hmid : s + e = mid + m) (C : CutAt lt a m b s e d) (R : Rotated s m e d d') :
    Two lt ix a s mid d' ∧ Two lt ix mid e b d' ∧ ∀ p q, a ≤ p → p < mid → mid ≤ q → q < b → lt d'[q]! d'[p]! = false := by
  obtain ⟨s0, s1, e0, e1, lo, hi⟩ := C
  have hfr : s + (e - m) = mid := by omega
  have f : ∀ k, s ≤ k → k < mid → d'[k]! = d[k + (m - s)]! := fun k h1 h2 => R.front k h1 (by omega)
  have g : ∀ k, mid ≤ k → k < e → d'[k]! = d[k - (e - m)]! := fun k h1 h2 => R.back k (by omega) h2
  have u : ∀ k, k < s → d'[k]! = d[k]! := fun k h1 => R.same k (Or.inl h1)
  have v : ∀ k, e ≤ k → d'[k]! = d[k]! := fun k h1 => R.same k (Or.inr h1)
  refine ⟨⟨?_, ?_, ?_⟩, ⟨?_, ?_, ?_⟩, ?_⟩
  · intro p q h1 h2 h3
    rw [u p (by omega), u q h3]
    exact h.left p q h1 h2 (by omega)
  · intro p q h1 h2 h3
    rw [f p h1 (by omega), f q (by omega) h3]
    exact h.right _ _ (by omega) (by omega) (by omega)
  · intro p q h1 h2 h3 h4
    rw [u p h2, f q h3 h4]
    exact h.ahead _ _ h1 (by omega) (by omega) (by omega)
  · intro p q h1 h2 h3
    rw [g p h1 (by omega), g q (by omega) h3]
    exact h.left _ _ (by omega) (by omega) (by omega)
  · intro p q h1 h2 h3
    rw [v p h1, v q (by omega)]
    exact h.right p q (by omega) h2 h3
  · intro p q h1 h2 h3 h4
    rw [g p h1 h2, v q h3]
    exact h.ahead _ _ (by omega) (by omega) (by omega) h4
  · intro p q h1 h2 h3 h4
    have le1 : ∀ i j, a ≤ i → i ≤ j → j < m → lt d[j]! d[i]! = false := fun i j x y z => by
      by_cases e : i = j
      · subst e; exact F.swo.irrefl _
      · exact h.left i j x (by omega) z
    have le2 : ∀ i j, m ≤ i → i ≤ j → j < b → lt d[j]! d[i]! = false := fun i j x y z => by
      by_cases e : i = j
      · subst e; exact F.swo.irrefl _
      · exact h.right i j x (by omega) z
    by_cases hp : p < s
    · rw [u p hp]
      by_cases hq : q < e
      · rw [g q h3 hq]
        exact le1 _ _ h1 (by omega) (by omega)
      · rw [v q (by omega)]
        exact F.swo.ntrans _ _ _ (F.swo.ntrans _ _ _ (le2 e q (by omega) (by omega) h4) (lo (by omega) (by omega))) (le1 p (s - 1) h1 (by omega) (by omega))
    · rw [f p (by omega) h2]
      by_cases hq : q < e
      · rw [g q h3 hq]
        have hh := F.swo.asymmA (hi (by omega) (by omega))
        exact F.swo.ntrans _ _ _ (le1 s (q - (e - m)) (by omega) (by omega) (by omega)) (F.swo.ntrans _ _ _ hh (le2 (p + (m - s)) (e - 1) (by omega) (by omega) (by omega)))
      · rw [v q (by omega)]
        exact le2 _ _ (by omega) (by omega) h4

/-- Two sorted parts, of which nothing of the second one is less than anything of the first one. -/
theorem sorted_join {a m b : Nat} {d : Array α} (h1 : SortedIn lt a m d) (h2 : SortedIn lt m b d) (h : ∀ p q, a ≤ p → p < m → m ≤ q → q < b → lt d[q]! d[p]! = false) : SortedIn lt a b d := by
  intro p q x y z
  by_cases hq : q < m
  · exact h1 p q x y hq
  · by_cases hp : p < m
    · exact h p q x hp (by omega) z
    · exact h2 p q (by omega) y z

/-- The two halves are merged one after the other. -/
theorem halves_join {a mid b : Nat} {d d1 d2 : Array α} (hm : a ≤ mid) (hm2 : mid ≤ b) (hb : b ≤ d.size) (P1 : PermIn a mid d d1) (P2 : PermIn mid b d1 d2) (s1 : SortedIn lt a mid d1) (s2 : SortedIn lt mid b d2)
    (h : ∀ p q, a ≤ p → p < mid → mid ≤ q → q < b → lt d[q]! d[p]! = false) : PermIn a b d d2 ∧ SortedIn lt a b d2 := by
  have hb1 : b ≤ d1.size := by rw [P1.1]; exact hb
  refine ⟨permIn_trans _ _ _ a b (permIn_mono _ _ a mid a b (Nat.le_refl _) hm2 hb P1) (permIn_mono _ _ mid b a b hm (Nat.le_refl _) hb1 P2), sorted_join (m := mid) ?_ s2 ?_⟩
  · intro p q x y z
    rw [P2.2.1 p (Or.inl (by omega)), P2.2.1 q (Or.inl z)]
    exact s1 p q x y z
  · intro p q x y z t
    rw [P2.2.1 p (Or.inl y)]
    refine permIn_all d1 d2 mid b (fun v => lt v d1[p]! = false) hb1 P2 ?_ q z t
    intro k hk1 hk2
    rw [P1.2.1 k (Or.inr hk1)]
    refine permIn_all d d1 a mid (fun v => lt d[k]! v = false) (by omega) P1 ?_ p x y
    intro l hl1 hl2
    exact h l k hl1 hl2 hk1 hk2

/-- A pair is as it was where what is done lies elsewhere. -/
theorem Two.elsewhere {a m b : Nat} {d d' : Array α} (h : Two lt ix a m b d) (e : ∀ k, a ≤ k → k < b → d'[k]! = d[k]!) (hm : a ≤ m) (hmb : m ≤ b) : Two lt ix a m b d' := by
  refine ⟨?_, ?_, ?_⟩
  · intro p q x y z; rw [e p x (by omega), e q (by omega) (by omega)]; exact h.left p q x y z
  · intro p q x y z; rw [e p (by omega) (by omega), e q (by omega) z]; exact h.right p q x y z
  · intro p q x y z t; rw [e p x (by omega), e q (by omega) t]; exact h.ahead p q x y z t

/-- Nothing to merge: one of the two is empty. -/
theorem Two.left_empty {a b : Nat} {d : Array α} (h : Two lt ix a a b d) : SortedIn lt a b d := h.right
theorem Two.right_empty {a b : Nat} {d : Array α} (h : Two lt ix a b b d) : SortedIn lt a b d := h.left

end Go.Proofs.YtamccmeibnihpaaGreatDoor.MSort
