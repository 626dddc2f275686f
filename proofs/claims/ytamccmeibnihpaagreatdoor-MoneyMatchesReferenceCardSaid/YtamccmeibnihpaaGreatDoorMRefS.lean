/-
  What the reference's Split computes: the first place of the greatest remainder that is left is the next one in the order; and the parts of the negative amount.
-/
import Derived.Test.YtamccmeibnihpaaGreatDoorMLawMath
namespace Go.Proofs.YtamccmeibnihpaaGreatDoor
open Go.RowKit Go.Lib Go.Sort Go.Shelf Go.Proofs.YtamccmeibnihpaaGreatDoor.MSort
variable {n : Nat}

/-- The first place of the greatest value among the first i. -/
def bst (g : Nat → Int) : Nat → Nat
  | 0 => 0
  | i + 1 => if g (bst g i) < g i then i else bst g i
theorem bst_one (g : Nat → Int) : bst g 1 = 0 := by
  show (if g 0 < g 0 then 0 else 0) = 0
  split <;> rfl
theorem bst_spec (g : Nat → Int) : ∀ i, 1 ≤ i → bst g i < i ∧ (∀ k, k < i → g k ≤ g (bst g i)) ∧ (∀ k, k < bst g i → g k < g (bst g i))
  | 0, h => by omega
  | 1, _ => by
    rw [bst_one]
    exact ⟨by omega, fun k hk => by obtain rfl : k = 0 := by omega
                                    exact Int.le_refl _, fun k hk => by omega⟩
  | i + 2, _ => by
    obtain ⟨h1, h2, h3⟩ := bst_spec g (i + 1) (by omega)
    have e : bst g (i + 2) = if g (bst g (i + 1)) < g (i + 1) then i + 1 else bst g (i + 1) := rfl
    rw [e]
    split
    · rename_i hlt
      refine ⟨by omega, fun k hk => ?_, fun k hk => ?_⟩
      · by_cases e : k = i + 1
        · subst e; exact Int.le_refl _
        · have := h2 k (by omega); omega
      · have := h2 k (by omega); omega
    · rename_i hlt
      refine ⟨by omega, fun k hk => ?_, h3⟩
      by_cases e : k = i + 1
      · subst e; omega
      · exact h2 k (by omega)
theorem bst_uniq (g : Nat → Int) (i x : Nat) (hx : x < i) (h : ∀ k, k < i → k ≠ x → g k < g x ∨ (g k = g x ∧ x < k)) : bst g i = x := by
  obtain ⟨h1, h2, h3⟩ := bst_spec g i (by omega)
  apply Classical.byContradiction
  intro hne
  rcases h _ h1 hne with h4 | ⟨h4, h5⟩
  · have := h2 x hx; omega
  · have := h3 x h5; omega

/-- The remainders when some have got a cent. -/
def gr (r : Nat → Int) (o : List Nat) (k : Nat) : Int := if k ∈ o then -1 else r k
theorem gr_nil (r : Nat → Int) (k : Nat) : gr r [] k = r k := by unfold gr; rw [if_neg (by simp)]
theorem gr_step (r : Nat → Int) (o : List Nat) (x k : Nat) : gr r (o ++ [x]) k = if k = x then -1 else gr r o k := by
  unfold gr
  by_cases e : k = x
  · subst e; simp
  · simp [e]

theorem best_ord (R : Rests n) (r : Nat → Int) (hr : ∀ x : Fin (n + 1), r x.val = R x) (h0 : ∀ x, 0 ≤ R x) (j : Nat) (hj : j < (ordL R).length) :
    bst (gr r (((ordL R).take j).map (·.val))) (n + 1) = ((ordL R)[j]).val := by
  have hmem : ∀ (i : Nat) (hi : i < (ordL R).length), (ordL R)[i].val ∈ ((ordL R).take j).map (·.val) ↔ i < j := by
    intro i hi
    constructor
    · intro h
      obtain ⟨y, hy, he⟩ := List.mem_map.1 h
      obtain ⟨m, hm, rfl⟩ := List.mem_iff_getElem.1 hy
      rw [List.getElem_take] at he
      have hm2 : m < j := by simp at hm; omega
      have e2 : (ordL R)[m]'(by simp at hm; omega) = (ordL R)[i] := Fin.ext he
      apply Classical.byContradiction
      intro hc
      exact (List.pairwise_iff_getElem.1 (ordL_nodup R)) m i (by simp at hm; omega) hi (by omega) e2
    · intro h
      exact List.mem_map.2 ⟨_, List.mem_iff_getElem.2 ⟨i, by simp; omega, by rw [List.getElem_take]⟩, rfl⟩
  refine bst_uniq _ _ _ (ordL R)[j].isLt (fun k hk hne => ?_)
  have hx : gr r (((ordL R).take j).map (·.val)) (ordL R)[j].val = R (ordL R)[j] := by
    unfold gr; rw [if_neg (fun h => by have := (hmem j hj).1 h; omega)]; exact hr _
  rw [hx]
  obtain ⟨i, hi, hie⟩ := List.mem_iff_getElem.1 (ordL_mem R ⟨k, hk⟩)
  have hk2 : k = (ordL R)[i].val := by rw [hie]
  rw [hk2]
  by_cases hij : i < j
  · left
    unfold gr
    rw [if_pos ((hmem i hi).2 hij)]
    have := h0 (ordL R)[j]; omega
  · have hne2 : i ≠ j := fun e => hne (by rw [hk2]; congr 1; simp only [e])
    have hs := (List.pairwise_iff_getElem.1 (ordL_sorted R)) j i hj hi (by omega)
    unfold ltR at hs
    simp only [decide_eq_false_iff_not] at hs
    have e : gr r (((ordL R).take j).map (·.val)) (ordL R)[i].val = R (ordL R)[i] := by
      unfold gr; rw [if_neg (fun h => by have := (hmem i hi).1 h; omega)]; exact hr _
    rw [e]
    have hv : (ordL R)[j].val ≠ (ordL R)[i].val := fun h => hne (by rw [hk2]; exact h.symm)
    omega

theorem pq_neg (c W x : Int) : pq (-c) W x = -pq c W x := by unfold pq; rw [Int.neg_mul, Int.neg_tdiv]
theorem pr_neg (c W x : Int) : pr (-c) W x = pr c W x := by
  unfold pr; rw [Int.neg_mul, Int.neg_tmod]; unfold ab; split <;> split <;> omega
theorem miss_neg (c W : Int) (l : List Int) : miss (-c) W l = -miss c W l := by
  unfold miss
  have : ∀ l : List Int, (l.map (pq (-c) W)).sum = -(l.map (pq c W)).sum := by
    intro l
    induction l with
    | nil => simp
    | cons x l ih => simp only [List.map_cons, List.sum_cons, ih, pq_neg]; omega
  rw [this]; omega
theorem upL_neg (c W : Int) (l : List Int) : upL (-c) W l n = upL c W l n := by
  unfold upL
  have e1 : rsR (-c) W l n = rsR c W l n := by funext x; exact pr_neg c W _
  have e2 : ab (miss (-c) W l) = ab (miss c W l) := by rw [miss_neg]; unfold ab; split <;> split <;> omega
  rw [e1, e2]
theorem sgn_neg2 (c : Int) : sgn (-c) = -sgn c := by unfold sgn cmp3; repeat' split <;> omega
theorem gj_neg (c W : Int) (l : List Int) (o : List Nat) (k : Nat) : gj (-c) W l o k = -gj c W l o k := by
  unfold gj; rw [pq_neg, sgn_neg2]; split <;> omega
theorem partL_neg (c W : Int) (l : List Int) (k : Nat) (h : k < l.length) : (partL (-c) W l n)[k]'(by rw [partL_length]; exact h) = -(partL c W l n)[k]'(by rw [partL_length]; exact h) := by
  rw [partL_get, partL_get, upL_neg, gj_neg]

/-- The cents that are missing of an amount from 0 on. -/
theorem miss_pos (s W : Int) (l : List Int) (hs : 0 ≤ s) (hl : l.sum = W) (hW : 0 < W) (hok : l.all wok = true) : 0 ≤ miss s W l ∧ ab (miss s W l) = miss s W l ∧ (0 < miss s W l → sgn s = 1) := by
  have h := miss_sign s W l hl hW hok
  have ha : 0 ≤ ab (miss s W l) := by unfold ab; split <;> omega
  rcases sgn_cases s with ⟨e1, e2, _⟩ | ⟨e1, e2, _⟩ | ⟨e1, _, _⟩
  · have := h.2.2 e2
    rw [this]; exact ⟨by omega, by decide, fun h => by omega⟩
  · rw [e2, Int.one_mul] at h
    exact ⟨by omega, h.1.symm, fun _ => e2⟩
  · omega
theorem rem_pos (s W x : Int) (hs : 0 ≤ s) (hx : 0 ≤ x) : pr s W x = (s * x).tmod W ∧ 0 ≤ pr s W x := by
  have : 0 ≤ (s * x).tmod W := Int.tmod_nonneg W (Int.mul_nonneg hs hx)
  unfold pr ab
  rw [if_neg (by omega)]
  exact ⟨rfl, this⟩
end Go.Proofs.YtamccmeibnihpaaGreatDoor
