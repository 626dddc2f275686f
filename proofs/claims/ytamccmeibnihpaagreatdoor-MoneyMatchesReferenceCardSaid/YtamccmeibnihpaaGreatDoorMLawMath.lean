/-
  Mathematics of the parts, for the laws: they add up, differ by less than a cent, keep the sign and the order; who gets one more has no smaller remainder.
-/
import Derived.Test.YtamccmeibnihpaaGreatDoorMDivide
namespace Go.Proofs.YtamccmeibnihpaaGreatDoor
open Go.RowKit Go.Sort Go.Proofs.YtamccmeibnihpaaGreatDoor.MSort

variable {n : Nat}

theorem ordL_sorted (r : Rests n) : (ordL r).Pairwise (fun x y => ltR r y x = false) := by
  have h := List.pairwise_mergeSort (le := fun x y => !ltR r y x) (fun a b c h1 h2 => by
    simp only [Bool.not_eq_true'] at h1 h2 ⊢
    exact (fitsR r).swo.ntrans c b a h2 h1) (fun a b => by
    cases h : ltR r b a with
    | false => simp
    | true => simp [(fitsR r).swo.asymmA h]) (List.finRange (n + 1))
  refine h.imp ?_
  intro a b hab
  simpa using hab

theorem ordL_mem (r : Rests n) (x : Fin (n + 1)) : x ∈ ordL r := (ordL_perm r).mem_iff.2 (List.mem_finRange x)

/-- Who is taken goes ahead of who is not. -/
theorem taken_lt (r : Rests n) (m : Nat) (x y : Fin (n + 1)) (hx : x ∈ (ordL r).take m) (hy : y ∉ (ordL r).take m) : ltR r x y = true := by
  have hs := ordL_sorted r
  have hym : y ∈ (ordL r).drop m := by
    have := ordL_mem r y
    rw [← List.take_append_drop m (ordL r)] at this
    rcases List.mem_append.1 this with h | h
    · exact absurd h hy
    · exact h
  rw [← List.take_append_drop m (ordL r)] at hs
  have h := (List.pairwise_append.1 hs).2.2 x hx y hym
  cases e : ltR r x y with
  | true => rfl
  | false => exact absurd (totR r x y e h) (fun e' => hy (e' ▸ hx))

theorem taken_up (r : Rests n) (m : Nat) (x y : Fin (n + 1)) (h : ltR r x y = true) (hy : y ∈ (ordL r).take m) : x ∈ (ordL r).take m := by
  apply Classical.byContradiction
  intro hx
  have := taken_lt r m y x hy hx
  rw [(fitsR r).swo.asymmA h] at this
  cases this

theorem sgn_cases (c : Int) : (c = 0 ∧ sgn c = 0 ∧ ab c = 0) ∨ (0 < c ∧ sgn c = 1 ∧ ab c = c) ∨ (c < 0 ∧ sgn c = -1 ∧ ab c = -c) := by
  rcases Int.lt_trichotomy c 0 with h | h | h
  · right; right; exact ⟨h, sgn_neg h, by unfold ab; rw [if_pos h]⟩
  · left; subst h; exact ⟨rfl, sgn_zero, rfl⟩
  · right; left; exact ⟨h, sgn_pos h, by unfold ab; rw [if_neg (by omega)]⟩

/-- The exact part without its sign: whole and rest. -/
theorem parts_nat (c W x : Int) (hW : 0 < W) (hx : 0 ≤ x) : pq c W x = sgn c * (ab c * x / W) ∧ pr c W x = ab c * x % W ∧ (c * x).tmod W = sgn c * (ab c * x % W) := by
  unfold pq pr
  rcases sgn_cases c with ⟨h1, h2, h3⟩ | ⟨h1, h2, h3⟩ | ⟨h1, h2, h3⟩
  · subst h1; rw [h2, h3]; simp; decide
  · have hp : 0 ≤ c * x := Int.mul_nonneg (by omega) hx
    rw [h2, h3, Int.tdiv_eq_ediv_of_nonneg hp, Int.tmod_eq_emod_of_nonneg hp]
    have := Int.emod_nonneg (c * x) (show W ≠ 0 by omega)
    refine ⟨by omega, ?_, by omega⟩
    unfold ab; rw [if_neg (by omega)]
  · have hp : 0 ≤ -c * x := Int.mul_nonneg (by omega) hx
    have e : c * x = -(-c * x) := by rw [Int.neg_mul]; omega
    rw [h2, h3, e, Int.neg_tdiv, Int.neg_tmod, Int.tdiv_eq_ediv_of_nonneg hp, Int.tmod_eq_emod_of_nonneg hp]
    have := Int.emod_nonneg (-c * x) (show W ≠ 0 by omega)
    refine ⟨by omega, ?_, by omega⟩
    unfold ab; split <;> omega

theorem sum_mul (s : Int) (f : Int → Int) : ∀ l : List Int, (l.map (fun x => s * f x)).sum = s * (l.map f).sum
  | [] => by simp
  | x :: l => by simp only [List.map_cons, List.sum_cons, sum_mul s f l, Int.mul_add]

theorem map_congr_ok (f g : Int → Int) : ∀ l : List Int, l.all wok = true → (∀ x, 0 ≤ x → f x = g x) → l.map f = l.map g
  | [], _, _ => rfl
  | x :: l, h, e => by
    simp only [List.all_cons, Bool.and_eq_true] at h
    rw [List.map_cons, List.map_cons, e x ((wok_iff x).1 h.1).1, map_congr_ok f g l h.2 e]

/-- The missing cents: their sign is the amount's; times the total they are the remainders' sum. -/
theorem miss_sign (c W : Int) (l : List Int) (hl : l.sum = W) (hW : 0 < W) (hok : l.all wok = true) : miss c W l = sgn c * ab (miss c W l) ∧ ab (miss c W l) * W = (l.map (pr c W)).sum ∧ (sgn c = 0 → miss c W l = 0) := by
  have h := rem_sum c W l
  rw [hl] at h
  have e1 : W * miss c W l = (l.map (fun x => (c * x).tmod W)).sum := by
    unfold miss
    rw [Int.mul_sub, Int.mul_comm W c, h]
    omega
  rw [map_congr_ok _ (fun x => sgn c * pr c W x) l hok (fun x hx => by rw [(parts_nat c W x hW hx).2.2, (parts_nat c W x hW hx).2.1]), sum_mul] at e1
  have hp : 0 ≤ (l.map (pr c W)).sum := by
    clear h e1 hl
    induction l with
    | nil => simp
    | cons x l ih =>
      simp only [List.all_cons, Bool.and_eq_true] at hok
      have := ih hok.2
      have hx := ((wok_iff x).1 hok.1).1
      have h2 := (parts_nat c W x hW hx).2.1
      have h3 := Int.emod_nonneg (ab c * x) (show W ≠ 0 by omega)
      simp only [List.map_cons, List.sum_cons]
      omega
  have hz0 : c = 0 → (l.map (pr c W)).sum = 0 := fun hc => by
    subst hc
    have hf : ∀ x : Int, pr 0 W x = 0 := fun x => by unfold pr; rw [Int.zero_mul, Int.zero_tmod]; rfl
    have : l.map (pr 0 W) = l.map (fun _ => (0 : Int)) := List.map_congr_left (fun x _ => hf x)
    rw [this]
    clear hl h e1 hp hok this
    induction l with
    | nil => rfl
    | cons x l ih => simp only [List.map_cons, List.sum_cons] at ih ⊢; omega
  generalize (l.map (pr c W)).sum = R at e1 hp hz0 ⊢
  generalize miss c W l = M at e1 ⊢
  have z : W * M = 0 → M = 0 := fun hz => by rcases Int.mul_eq_zero.1 hz with h1 | h1 <;> omega
  rcases sgn_cases c with ⟨h1, h2, h3⟩ | ⟨h1, h2, h3⟩ | ⟨h1, h2, h3⟩
  · rw [h2, Int.zero_mul] at e1
    have hm := z e1
    subst hm
    subst h1
    have := hz0 rfl
    exact ⟨by rw [h2]; rfl, by rw [this, h3, Int.zero_mul], fun _ => rfl⟩
  · rw [h2, Int.one_mul] at e1
    have hM : 0 ≤ M := by
      rcases Int.lt_or_le M 0 with h4 | h4
      · have := Int.mul_neg_of_pos_of_neg hW h4; omega
      · exact h4
    have ea : ab M = M := by unfold ab; rw [if_neg (by omega)]
    refine ⟨by rw [h2, ea]; omega, by rw [ea, Int.mul_comm]; exact e1, fun h => by omega⟩
  · rw [h2] at e1
    have hM : M ≤ 0 := by
      rcases Int.lt_or_le 0 M with h4 | h4
      · have := Int.mul_pos hW h4; omega
      · exact h4
    have ea : ab M = -M := by unfold ab; split <;> omega
    refine ⟨by rw [h2, ea]; omega, by rw [ea, Int.neg_mul, Int.mul_comm]; omega, fun h => by omega⟩

/-! Who gets one of the missing cents has a remainder. -/
theorem sum_le (B : Int) : ∀ L : List Int, (∀ x ∈ L, x ≤ B) → L.sum ≤ L.length * B
  | [], _ => by simp
  | x :: L, h => by
    have h1 := sum_le B L (fun y hy => h y (List.mem_cons_of_mem _ hy))
    have h2 := h x List.mem_cons_self
    simp only [List.sum_cons, List.length_cons, Int.natCast_add, Int.natCast_one, Int.add_mul, Int.one_mul]
    omega

theorem sum_zero : ∀ L : List Int, (∀ x ∈ L, x = 0) → L.sum = 0
  | [], _ => rfl
  | x :: L, h => by
    rw [List.sum_cons, h x List.mem_cons_self, sum_zero L (fun y hy => h y (List.mem_cons_of_mem _ hy))]; rfl

theorem perm_sum {l k : List Int} (h : l.Perm k) : l.sum = k.sum := by
  induction h with
  | nil => rfl
  | cons x _ ih => simp only [List.sum_cons, ih]
  | swap x y l => simp only [List.sum_cons]; omega
  | trans _ _ a b => rw [a, b]

theorem map_rests (c W : Int) (l : List Int) (hl : l.length = n + 1) : (List.finRange (n + 1)).map (rsR c W l n) = l.map (pr c W) := by
  apply List.ext_getElem
  · simp [hl]
  · intro i h1 h2
    have hi : i < l.length := by simpa using h2
    simp [rsR, hi]

theorem rest_pos (c W : Int) (l : List Int) (hl : l.length = n + 1) (hs : l.sum = W) (hW : 0 < W) (hok : l.all wok = true) (x : Fin (n + 1)) (hx : x ∈ upL c W l n) : 0 < rsR c W l n x := by
  have hnn : ∀ y : Fin (n + 1), 0 ≤ rsR c W l n y ∧ rsR c W l n y ≤ W - 1 := fun y => by
    have hy : y.val < l.length := by rw [hl]; exact y.isLt
    have hw := (wok_iff _).1 (List.all_eq_true.1 hok l[y.val] (List.getElem_mem hy))
    have e : rsR c W l n y = ab c * l[y.val] % W := by
      unfold rsR
      rw [List.getD_eq_getElem?_getD, List.getElem?_eq_getElem hy]
      exact (parts_nat c W _ hW hw.1).2.1
    have h1 := Int.emod_nonneg (ab c * l[y.val]) (show W ≠ 0 by omega)
    have h2 := Int.emod_lt_of_pos (ab c * l[y.val]) hW
    omega
  apply Classical.byContradiction
  intro hneg
  have hx0 : rsR c W l n x = 0 := by have := (hnn x).1; omega
  have hM := (miss_sign c W l hs hW hok).2.1
  have hMab : 0 ≤ ab (miss c W l) := by unfold ab; split <;> omega
  unfold upL at hx
  obtain ⟨M, hMe⟩ : ∃ M : Nat, (M : Int) = ab (miss c W l) := ⟨(ab (miss c W l)).toNat, by omega⟩
  rw [← hMe] at hx hM
  rw [Int.toNat_natCast] at hx
  -- all those behind have nothing
  have hd : ∀ y ∈ (ordL (rsR c W l n)).drop M, rsR c W l n y = 0 := fun y hy => by
    have hs2 := ordL_sorted (rsR c W l n)
    rw [← List.take_append_drop M (ordL (rsR c W l n))] at hs2
    have h := (List.pairwise_append.1 hs2).2.2 x hx y hy
    unfold ltR at h
    simp only [decide_eq_false_iff_not] at h
    have := (hnn y).1
    omega
  have hsum : (l.map (pr c W)).sum = (((ordL (rsR c W l n)).take M).map (rsR c W l n)).sum := by
    rw [← map_rests c W l hl]
    have hp : ((List.finRange (n + 1)).map (rsR c W l n)).sum = ((ordL (rsR c W l n)).map (rsR c W l n)).sum := (perm_sum ((ordL_perm _).map _)).symm
    rw [hp]
    have hsplit : (ordL (rsR c W l n)).map (rsR c W l n) = ((ordL (rsR c W l n)).take M).map (rsR c W l n) ++ ((ordL (rsR c W l n)).drop M).map (rsR c W l n) := by rw [← List.map_append, List.take_append_drop]
    rw [hsplit, List.sum_append, sum_zero (((ordL (rsR c W l n)).drop M).map (rsR c W l n)) (fun z hz => by obtain ⟨y, hy, rfl⟩ := List.mem_map.1 hz; exact hd y hy)]
    omega
  have hle : (((ordL (rsR c W l n)).take M).map (rsR c W l n)).sum ≤ ((((ordL (rsR c W l n)).take M).map (rsR c W l n)).length : Int) * (W - 1) := sum_le (W - 1) _ (fun z hz => by obtain ⟨y, _, rfl⟩ := List.mem_map.1 hz; exact (hnn y).2)
  have hlen : (((ordL (rsR c W l n)).take M).map (rsR c W l n)).length ≤ M := by rw [List.length_map]; exact List.length_take_le _ _
  have hpos : 0 < (((ordL (rsR c W l n)).take M).map (rsR c W l n)).length := by rw [List.length_map]; exact List.length_pos_of_mem hx
  rw [← hsum, ← hM] at hle
  generalize (((ordL (rsR c W l n)).take M).map (rsR c W l n)).length = k at hle hlen hpos
  have h3 : (k : Int) * (W - 1) ≤ (M : Int) * (W - 1) := Int.mul_le_mul_of_nonneg_right (by omega) (by omega)
  rw [Int.mul_sub (M : Int), Int.mul_one] at h3
  omega

/-! The parts add up. -/
theorem sum_ind (f : Nat → Int) (x : Nat) (s : Int) : ∀ m : Nat, ((List.range m).map (fun k => f k + if k = x then s else 0)).sum = ((List.range m).map f).sum + if x < m then s else 0
  | 0 => by simp
  | m + 1 => by
    rw [List.range_succ, List.map_append, List.map_append, List.sum_append, List.sum_append, sum_ind f x s m]
    simp only [List.map_cons, List.map_nil, List.sum_cons, List.sum_nil]
    by_cases h : m = x
    · subst h; rw [if_pos rfl, if_neg (by omega), if_pos (by omega)]; omega
    · rw [if_neg h]
      by_cases h2 : x < m
      · rw [if_pos h2, if_pos (by omega)]; omega
      · rw [if_neg h2, if_neg (by omega)]; omega

theorem sum_taken (c W : Int) (l : List Int) (hl : l.length = n + 1) (r : Rests n) : ∀ j : Nat, j ≤ n + 1 → ((List.range l.length).map (gj c W l (((ordL r).take j).map (·.val)))).sum = (l.map (pq c W)).sum + j * sgn c
  | 0, _ => by
    have e : (List.range l.length).map (gj c W l (((ordL r).take 0).map (·.val))) = l.map (pq c W) := by
      rw [List.take_zero, List.map_nil]
      apply List.ext_getElem
      · simp
      · intro i h1 h2
        have hi : i < l.length := by simpa using h2
        rw [List.getElem_map, List.getElem_range, gj_nil, List.getElem_map, List.getD_eq_getElem?_getD, List.getElem?_eq_getElem hi]; rfl
    rw [e]; simp
  | j + 1, hj => by
    have hd : (ordL r).toArray.toList = ordL r := rfl
    have hsz : j < (ordL r).toArray.size := by rw [List.size_toArray, ordL_length]; omega
    have e : (List.range l.length).map (gj c W l (((ordL r).take (j + 1)).map (·.val))) = (List.range l.length).map (fun k => gj c W l (((ordL r).take j).map (·.val)) k + if k = ((ordL r).toArray[j]!).val then sgn c else 0) :=
      List.map_congr_left (fun k _ => ord_step c W l r hd j hsz k)
    rw [e, sum_ind, sum_taken c W l hl r j (by omega), if_pos (by rw [hl]; exact ((ordL r).toArray[j]!).isLt)]
    rw [Int.natCast_add, Int.add_mul]; omega

theorem parts_sum (c W : Int) (l : List Int) (hl : l.length = n + 1) (hs : l.sum = W) (hW : 0 < W) (hok : l.all wok = true) : (partL c W l n).sum = c := by
  have h := miss_sign c W l hs hW hok
  have hm := miss_le c W l hs hW
  have hMab : 0 ≤ ab (miss c W l) := by unfold ab; split <;> omega
  unfold partL upL
  rw [sum_taken c W l hl _ _ (by omega)]
  have e : (((ab (miss c W l)).toNat : Nat) : Int) = ab (miss c W l) := by omega
  rw [e, Int.mul_comm, ← h.1]
  unfold miss; omega

/-! What the laws ask of each part. -/
/-- Does the weight at a place get one more? -/
def one (c W : Int) (l : List Int) (n k : Nat) : Prop := k ∈ (upL c W l n).map (·.val)

theorem part_eq (c W : Int) (l : List Int) (k : Nat) (hk : k < l.length) (hW : 0 < W) (hok : l.all wok = true) :
    (one c W l n k → gj c W l ((upL c W l n).map (·.val)) k = sgn c * (ab c * l[k] / W + 1)) ∧ (¬ one c W l n k → gj c W l ((upL c W l n).map (·.val)) k = sgn c * (ab c * l[k] / W)) := by
  have hw := (wok_iff _).1 (List.all_eq_true.1 hok l[k] (List.getElem_mem hk))
  have e := (parts_nat c W l[k] hW hw.1).1
  unfold gj one
  rw [List.getD_eq_getElem?_getD, List.getElem?_eq_getElem hk]
  dsimp only [Option.getD]
  rw [e]
  constructor
  · intro h; rw [if_pos h, Int.mul_add, Int.mul_one]
  · intro h; rw [if_neg h, Int.add_zero]

theorem rest_eq (c W : Int) (l : List Int) (k : Nat) (hk : k < l.length) (hn : k < n + 1) (hW : 0 < W) (hok : l.all wok = true) : rsR c W l n ⟨k, hn⟩ = ab c * l[k] % W := by
  have hw := (wok_iff _).1 (List.all_eq_true.1 hok l[k] (List.getElem_mem hk))
  unfold rsR
  dsimp only
  rw [List.getD_eq_getElem?_getD, List.getElem?_eq_getElem hk]
  exact (parts_nat c W l[k] hW hw.1).2.1

theorem one_mem (c W : Int) (l : List Int) (k : Nat) (hn : k < n + 1) : one c W l n k ↔ (⟨k, hn⟩ : Fin (n + 1)) ∈ upL c W l n := by
  unfold one
  constructor
  · intro h
    obtain ⟨y, hy, he⟩ := List.mem_map.1 h
    have : y = ⟨k, hn⟩ := Fin.ext he
    rw [← this]; exact hy
  · intro h; exact List.mem_map.2 ⟨_, h, rfl⟩

theorem one_zero (W : Int) (l : List Int) (k : Nat) (hs : l.sum = W) (hW : 0 < W) (hok : l.all wok = true) : ¬ one 0 W l n k := by
  have := (miss_sign 0 W l hs hW hok).2.2 sgn_zero
  unfold one upL
  rw [this]
  have e : (ab (0 : Int)).toNat = 0 := by decide
  rw [e]; simp

/-- Bounds of a part. -/
theorem quot_bounds (s W x : Int) (hW : 0 < W) (hs : 0 ≤ s) (hx : 0 ≤ x) (hxW : x ≤ W) : 0 ≤ s * x / W ∧ s * x / W ≤ s ∧ s * x / W * W + s * x % W = s * x ∧ 0 ≤ s * x % W ∧ s * x % W < W := by
  have h0 : 0 ≤ s * x := Int.mul_nonneg hs hx
  have h1 := Int.ediv_nonneg h0 (show 0 ≤ W by omega)
  have h2 := Int.emod_nonneg (s * x) (show W ≠ 0 by omega)
  have h3 := Int.emod_lt_of_pos (s * x) hW
  have h4 := Int.ediv_mul_add_emod (s * x) W
  have h5 : s * x ≤ s * W := Int.mul_le_mul_of_nonneg_left hxW hs
  refine ⟨h1, ?_, h4, h2, h3⟩
  rcases Int.lt_or_le s (s * x / W) with h | h
  · exfalso
    have h6 : (s + 1) * W ≤ s * x / W * W := Int.mul_le_mul_of_nonneg_right (by omega) (by omega)
    rw [Int.add_mul, Int.one_mul] at h6
    omega
  · exact h

theorem elem_le_sum : ∀ (l : List Int), l.all wok = true → ∀ (k : Nat) (h : k < l.length), l[k] ≤ l.sum
  | [], _, k, h => by cases h
  | x :: l, hok, 0, _ => by
    simp only [List.all_cons, Bool.and_eq_true] at hok
    have := (sum_bounds l hok.2).1
    simp only [List.getElem_cons_zero, List.sum_cons]; omega
  | x :: l, hok, k + 1, h => by
    simp only [List.all_cons, Bool.and_eq_true] at hok
    have h1 := elem_le_sum l hok.2 k (by simpa using h)
    have := (wok_iff x).1 hok.1
    simp only [List.getElem_cons_succ, List.sum_cons]; omega

/-- All that MoneyParts asks of one part. -/
structure Fair (c W x p : Int) : Prop where
  amount : amt p = true
  pos : 0 ≤ c → 0 ≤ p
  neg : c ≤ 0 → p ≤ 0
  none : x = 0 → p = 0
  near : p * W - c * x < W ∧ -(p * W - c * x) < W

theorem part_fair (c W : Int) (l : List Int) (k : Nat) (hk : k < l.length) (hl : l.length = n + 1) (hs : l.sum = W) (hW : 0 < W) (hok : l.all wok = true) (hc : amt c = true) :
    Fair c W l[k] (gj c W l ((upL c W l n).map (·.val)) k) := by
  have hw := (wok_iff _).1 (List.all_eq_true.1 hok l[k] (List.getElem_mem hk))
  have hle := elem_le_sum l hok k hk
  rw [hs] at hle
  have hcb := (amt_iff c).1 hc
  have hab : 0 ≤ ab c ∧ ab c ≤ 1000000000 := by unfold ab; split <;> omega
  obtain ⟨q0, q1, q2, q3, q4⟩ := quot_bounds (ab c) W l[k] hW hab.1 hw.1 hle
  have hp := part_eq (n := n) c W l k hk hW hok
  have hrp : one c W l n k → 0 < ab c * l[k] % W := fun ho => by
    have := rest_pos c W l hl hs hW hok ⟨k, by omega⟩ ((one_mem c W l k (by omega)).1 ho)
    rw [rest_eq c W l k hk (by omega) hW hok] at this
    exact this
  have hz : l[k] = 0 → ab c * l[k] / W = 0 ∧ ab c * l[k] % W = 0 := fun e => by rw [e, Int.mul_zero]; exact ⟨Int.zero_ediv _, Int.zero_emod _⟩
  have hzero : c = 0 → ¬ one c W l n k := fun e => by subst e; exact one_zero W l k hs hW hok
  have hqs : ab c * l[k] % W > 0 → ab c * l[k] / W + 1 ≤ ab c := fun h => by
    rcases Int.lt_or_le (ab c * l[k] / W) (ab c) with h1 | h1
    · omega
    · exfalso
      have h5 : ab c * l[k] ≤ ab c * W := Int.mul_le_mul_of_nonneg_left hle hab.1
      have h6 : ab c * W ≤ ab c * l[k] / W * W := Int.mul_le_mul_of_nonneg_right h1 (by omega)
      omega
  generalize gj c W l ((upL c W l n).map (·.val)) k = p at hp ⊢
  generalize ab c * l[k] / W = q at *
  generalize hr : ab c * l[k] % W = r at *
  have e1 : sgn c * q * W = sgn c * (q * W) := Int.mul_assoc _ _ _
  have e2 : sgn c * (q + 1) * W = sgn c * (q * W) + sgn c * W := by rw [Int.mul_assoc, Int.add_mul, Int.one_mul, Int.mul_add]
  have hcx : c * l[k] = sgn c * (ab c * l[k]) := by
    rw [← Int.mul_assoc]; congr 1
    rcases sgn_cases c with ⟨h1, h2, h3⟩ | ⟨h1, h2, h3⟩ | ⟨h1, h2, h3⟩ <;> rw [h2, h3] <;> omega
  by_cases ho : one c W l n k
  · have hpe := hp.1 ho
    have hr0 := hrp ho
    have hq1 := hqs hr0
    have hxn : l[k] ≠ 0 := fun e => by have := (hz e).2; omega
    rcases sgn_cases c with ⟨h1, h2, h3⟩ | ⟨h1, h2, h3⟩ | ⟨h1, h2, h3⟩
    · exact absurd ho (hzero h1)
    · rw [h2] at hpe e2 hcx
      refine ⟨(amt_iff p).2 (by omega), fun _ => by omega, fun _ => by omega, fun e => absurd e hxn, ?_⟩
      rw [hcx, hpe, e2]; omega
    · rw [h2] at hpe e2 hcx
      refine ⟨(amt_iff p).2 (by omega), fun _ => by omega, fun _ => by omega, fun e => absurd e hxn, ?_⟩
      rw [hcx, hpe, e2]; omega
  · have hpe := hp.2 ho
    rcases sgn_cases c with ⟨h1, h2, h3⟩ | ⟨h1, h2, h3⟩ | ⟨h1, h2, h3⟩
    · rw [h2] at hpe e1 hcx
      refine ⟨(amt_iff p).2 (by omega), fun _ => by omega, fun _ => by omega, fun _ => by omega, ?_⟩
      rw [hcx, hpe, e1]; omega
    · rw [h2] at hpe e1 hcx
      refine ⟨(amt_iff p).2 (by omega), fun _ => by omega, fun _ => by omega, fun e => by have := (hz e).1; omega, ?_⟩
      rw [hcx, hpe, e1]; omega
    · rw [h2] at hpe e1 hcx
      refine ⟨(amt_iff p).2 (by omega), fun _ => by omega, fun _ => by omega, fun e => by have := (hz e).1; omega, ?_⟩
      rw [hcx, hpe, e1]; omega

/-- A part without its sign. -/
theorem part_size (c W : Int) (l : List Int) (k : Nat) (hk : k < l.length) (hs : l.sum = W) (hW : 0 < W) (hok : l.all wok = true) :
    (one c W l n k → ab (gj c W l ((upL c W l n).map (·.val)) k) = ab c * l[k] / W + 1 ∧ 0 < ab c) ∧ (¬ one c W l n k → ab (gj c W l ((upL c W l n).map (·.val)) k) = ab c * l[k] / W) := by
  have hw := (wok_iff _).1 (List.all_eq_true.1 hok l[k] (List.getElem_mem hk))
  have hab : 0 ≤ ab c := by unfold ab; split <;> omega
  have hle := elem_le_sum l hok k hk
  rw [hs] at hle
  obtain ⟨q0, _, _, _, _⟩ := quot_bounds (ab c) W l[k] hW hab hw.1 hle
  have hp := part_eq (n := n) c W l k hk hW hok
  have hzero : c = 0 → ¬ one c W l n k := fun e => by subst e; exact one_zero W l k hs hW hok
  have hz0 : c = 0 → ab c * l[k] / W = 0 := fun e => by subst e; show 0 * l[k] / W = 0; rw [Int.zero_mul]; exact Int.zero_ediv _
  generalize gj c W l ((upL c W l n).map (·.val)) k = p at hp ⊢
  generalize ab c * l[k] / W = q at *
  constructor
  · intro ho
    have hpe := hp.1 ho
    rcases sgn_cases c with ⟨h1, h2, h3⟩ | ⟨h1, h2, h3⟩ | ⟨h1, h2, h3⟩
    · exact absurd ho (hzero h1)
    · rw [h2] at hpe; refine ⟨?_, by omega⟩; unfold ab; split <;> omega
    · rw [h2] at hpe; refine ⟨?_, by omega⟩; unfold ab; split <;> omega
  · intro ho
    have hpe := hp.2 ho
    rcases sgn_cases c with ⟨h1, h2, h3⟩ | ⟨h1, h2, h3⟩ | ⟨h1, h2, h3⟩
    · have := hz0 h1
      rw [h2] at hpe; unfold ab; split <;> omega
    · rw [h2] at hpe; unfold ab; split <;> omega
    · rw [h2] at hpe; unfold ab; split <;> omega

theorem part_order (c W : Int) (l : List Int) (i k : Nat) (hi : i < l.length) (hk : k < l.length) (hl : l.length = n + 1) (hs : l.sum = W) (hW : 0 < W) (hok : l.all wok = true) (h : l[k] < l[i]) :
    ab (gj c W l ((upL c W l n).map (·.val)) k) ≤ ab (gj c W l ((upL c W l n).map (·.val)) i) := by
  have hwi := (wok_iff _).1 (List.all_eq_true.1 hok l[i] (List.getElem_mem hi))
  have hwk := (wok_iff _).1 (List.all_eq_true.1 hok l[k] (List.getElem_mem hk))
  have hab : 0 ≤ ab c := by unfold ab; split <;> omega
  have hlei := elem_le_sum l hok i hi
  have hlek := elem_le_sum l hok k hk
  rw [hs] at hlei hlek
  obtain ⟨_, _, m1, m2, m3⟩ := quot_bounds (ab c) W l[i] hW hab hwi.1 hlei
  obtain ⟨_, _, m4, m5, m6⟩ := quot_bounds (ab c) W l[k] hW hab hwk.1 hlek
  have hle : ab c * l[k] / W ≤ ab c * l[i] / W := Int.ediv_le_ediv hW (Int.mul_le_mul_of_nonneg_left (by omega) hab)
  have s1 := part_size (n := n) c W l i hi hs hW hok
  have s2 := part_size (n := n) c W l k hk hs hW hok
  by_cases ok : one c W l n k
  · by_cases oi : one c W l n i
    · rw [(s1.1 oi).1, (s2.1 ok).1]; omega
    · rw [s1.2 oi, (s2.1 ok).1]
      rcases Int.lt_or_le (ab c * l[k] / W) (ab c * l[i] / W) with h1 | h1
      · omega
      · exfalso
        have hq : ab c * l[i] / W = ab c * l[k] / W := by omega
        have hlt : ab c * l[k] < ab c * l[i] := Int.mul_lt_mul_of_pos_left h (s2.1 ok).2
        rw [hq] at m1
        have r1 := rest_eq (n := n) c W l i hi (by omega) hW hok
        have r2 := rest_eq (n := n) c W l k hk (by omega) hW hok
        refine oi ((one_mem c W l i (by omega)).2 (taken_up (rsR c W l n) _ ⟨i, by omega⟩ ⟨k, by omega⟩ ?_ ((one_mem c W l k (by omega)).1 ok)))
        unfold ltR
        simp only [decide_eq_true_eq]
        left
        rw [r1, r2]; omega
  · rw [s2.2 ok]
    by_cases oi : one c W l n i
    · rw [(s1.1 oi).1]; omega
    · rw [s1.2 oi]; exact hle

theorem part_rem (c W : Int) (l : List Int) (i k : Nat) (hi : i < l.length) (hk : k < l.length) (hl : l.length = n + 1) (hs : l.sum = W) (hW : 0 < W) (hok : l.all wok = true)
    (h1 : ab c * l[i] / W < ab (gj c W l ((upL c W l n).map (·.val)) i)) (h2 : ab (gj c W l ((upL c W l n).map (·.val)) k) = ab c * l[k] / W) :
    ¬ (ab c * l[i] % W < ab c * l[k] % W ∨ (ab c * l[i] % W = ab c * l[k] % W ∧ k < i)) := by
  have s1 := part_size (n := n) c W l i hi hs hW hok
  have s2 := part_size (n := n) c W l k hk hs hW hok
  have oi : one c W l n i := Classical.byContradiction fun x => by have := s1.2 x; omega
  have ok : ¬ one c W l n k := fun x => by have := (s2.1 x).1; omega
  have r1 := rest_eq (n := n) c W l i hi (by omega) hW hok
  have r2 := rest_eq (n := n) c W l k hk (by omega) hW hok
  have h := taken_lt (rsR c W l n) _ ⟨i, by omega⟩ ⟨k, by omega⟩ ((one_mem c W l i (by omega)).1 oi) (fun x => ok ((one_mem c W l k (by omega)).2 x))
  unfold ltR at h
  simp only [decide_eq_true_eq] at h
  rw [r1, r2] at h
  omega
end Go.Proofs.YtamccmeibnihpaaGreatDoor
