/-
  Contract of the reference implementation's Parse: what it gives.
-/
import Derived.Test.YtohnmffokichkaaDoorRef6
namespace Go.Proofs.YtohnmffokichkaaDoor
open Go.RowKit

theorem refP_par {s : ByteArray} {n d : Int} {c : Bool} (hA : c = true → Q.Val n d ∧ txt n d = s.data.toList) (hB : ∀ p q, Q.Val p q → txt p q = s.data.toList → c = true) : parR s = refP n d c := by
  cases c with
  | true =>
    obtain ⟨hv, ht⟩ := hA rfl
    have e : bs (txt n d) = s := by rw [ht]; apply ByteArray.ext; simp [bs]
    have := par_txt hv
    rw [e] at this
    rw [this]; rfl
  | false =>
    generalize h : parR s = x
    obtain ⟨p, q, e⟩ := x
    rcases par_ok h with ⟨rfl, hv, ht⟩ | ⟨rfl, rfl, rfl⟩
    · exact absurd (hB p q hv ht) (by simp)
    · rfl

theorem num_true {x : List UInt8} (h : (numR x).2 = true) : ∃ u : Nat, x = Lib.decDigits u ∧ (numR x).1 = u := by
  unfold numR at h ⊢
  split at h
  · cases h
  · rename_i h1
    split at h
    · rename_i h2
      refine ⟨valOf x, ?_, ?_⟩
      · simpa using (show Lib.decDigits (valOf x) = x by simpa using h).symm
      · rw [if_neg h1, if_pos h2]
    · cases h
theorem num_bounds (x : List UInt8) : 0 ≤ (numR x).1 ∧ (numR x).1 ≤ 10000000000 := by
  unfold numR
  split
  · simp
  · rename_i h1
    split
    · rename_i h2
      have h := valOf_lt x h2
      have k : 10 ^ x.length ≤ 10 ^ 10 := Nat.pow_le_pow_right (by omega) (by omega)
      simp only
      omega
    · simp
theorem valOf_dec (u : Nat) : valOf (Lib.decDigits u) = u := by
  induction u using Nat.strongRecOn with
  | _ u ih =>
    rw [Lib.decDigits]
    split
    · rename_i h
      rw [show ([UInt8.ofNat (48 + u)] : List UInt8) = [] ++ [UInt8.ofNat (48 + u)] from rfl, valOf_snoc, dig_toNat h]
      show 10 * 0 + _ = _
      omega
    · rename_i h
      rw [valOf_snoc, ih (u / 10) (by omega), dig_toNat (by omega)]; omega
theorem isDig_dec (u : Nat) : (Lib.decDigits u).all isDig = true := by
  rw [List.all_eq_true]
  intro c hc
  have := digits_range u c hc
  unfold isDig; simp; omega
theorem dec_len : ∀ (k u : Nat), u < 10 ^ (k + 1) → (Lib.decDigits u).length ≤ k + 1 := by
  intro k
  induction k with
  | zero =>
    intro u h
    rw [Lib.decDigits, dif_pos (by simpa using h)]; simp
  | succ k ih =>
    intro u h
    rw [Lib.decDigits]
    split
    · simp
    · have := ih (u / 10) (by rw [Nat.pow_succ] at h; omega)
      simp; omega
theorem num_dec {u : Nat} (h : u ≤ 1000000000) : numR (Lib.decDigits u) = ((u : Int), true) := by
  have l := dec_len 9 u (by omega)
  have g : 0 < (Lib.decDigits u).length := List.length_pos_iff.2 (digits_ne u)
  unfold numR
  rw [if_neg (by omega), if_pos (isDig_dec u), valOf_dec]
  simp
theorem dec_noslash (u : Nat) : ∀ c ∈ Lib.decDigits u, c ≠ 47 := by
  intro c hc e
  subst e
  have := (digits_range _ _ hc).1
  exact absurd this (by decide)
theorem cut_unique {a a' b b' : List UInt8} (h : ∀ c ∈ a, c ≠ 47) (h' : ∀ c ∈ a', c ≠ 47) (e : a ++ 47 :: b = a' ++ 47 :: b') : a = a' ∧ b = b' := by
  have i := index_app b a h
  rw [e, index_app b' a' h'] at i
  have hl : a.length = a'.length := by omega
  obtain ⟨e1, e2⟩ := List.append_inj e hl
  exact ⟨e1, by injection e2⟩

/-- The text of a number, by its digits. -/
theorem txt_shape {p q : Int} (h : Q.Val p q) : txt p q = (if p < 0 then [45] else []) ++ (Lib.decDigits p.natAbs ++ if q = 1 then [] else 47 :: Lib.decDigits q.toNat) := by
  obtain ⟨h1, h2, h3, h4, h5⟩ := h
  have e : Lib.itoa p = (if p < 0 then [45] else []) ++ Lib.decDigits p.natAbs := by
    unfold Lib.itoa
    by_cases hp : p < 0
    · rw [if_pos hp, if_pos hp]; rfl
    · rw [if_neg hp, if_neg hp]
      rw [List.nil_append]; congr 1; omega
  have e2 : Lib.itoa q = Lib.decDigits q.toNat := by
    unfold Lib.itoa
    rw [if_neg (by omega)]
  unfold txt
  rw [e, e2]
  split <;> simp

/-- Signs and digits of a text that has no sign. -/
theorem shape_plain {p q : Int} {l : List UInt8} (h : Q.Val p q) (e : txt p q = l) (hm : ∀ c r, l = c :: r → c ≠ 45) :
    0 ≤ p ∧ l = Lib.decDigits p.toNat ++ if q = 1 then [] else 47 :: Lib.decDigits q.toNat := by
  rw [txt_shape h] at e
  by_cases hp : p < 0
  · rw [if_pos hp] at e
    exact absurd rfl (hm 45 _ e.symm)
  · rw [if_neg hp, show p.natAbs = p.toNat by omega] at e
    exact ⟨by omega, e.symm⟩
theorem shape_minus {p q : Int} {l t : List UInt8} (h : Q.Val p q) (e : txt p q = l) (hm : l = 45 :: t) :
    p < 0 ∧ t = Lib.decDigits (-p).toNat ++ if q = 1 then [] else 47 :: Lib.decDigits q.toNat := by
  rw [txt_shape h, hm] at e
  by_cases hp : p < 0
  · rw [if_pos hp, show p.natAbs = (-p).toNat by omega] at e
    simp only [List.cons_append, List.nil_append] at e
    exact ⟨hp, by injection e with _ e; exact e.symm⟩
  · rw [if_neg hp, List.nil_append] at e
    cases hd : Lib.decDigits p.natAbs with
    | nil => exact absurd hd (digits_ne _)
    | cons c r =>
      rw [hd] at e
      have := (digits_range p.natAbs c (by rw [hd]; exact List.mem_cons_self ..)).1
      injection e with e1 _
      rw [e1] at this
      exact absurd this (by decide)
theorem part_none {u : Nat} {q : Int} {t : List UInt8} (e : t = Lib.decDigits u ++ if q = 1 then [] else 47 :: Lib.decDigits q.toNat) (h : ∀ c ∈ t, c ≠ 47) : q = 1 ∧ t = Lib.decDigits u := by
  by_cases hq : q = 1
  · rw [if_pos hq, List.append_nil] at e; exact ⟨hq, e⟩
  · rw [if_neg hq] at e
    exact absurd rfl (h 47 (by rw [e]; simp))
theorem part_some {u : Nat} {q : Int} {x y : List UInt8} (e : x ++ 47 :: y = Lib.decDigits u ++ if q = 1 then [] else 47 :: Lib.decDigits q.toNat) (h : ∀ c ∈ x, c ≠ 47) : ¬ q = 1 ∧ x = Lib.decDigits u ∧ y = Lib.decDigits q.toNat := by
  by_cases hq : q = 1
  · rw [if_pos hq, List.append_nil] at e
    exact absurd rfl (dec_noslash u 47 (by rw [← e]; simp))
  · rw [if_neg hq] at e
    obtain ⟨e1, e2⟩ := cut_unique h (dec_noslash u) e
    exact ⟨hq, e1, e2⟩

theorem par_00 {s : ByteArray} (hm : ∀ c r, s.data.toList = c :: r → c ≠ 45) (hs : ∀ c ∈ s.data.toList, c ≠ 47) :
    parR s = refP (numR s.data.toList).1 1 ((numR s.data.toList).2 && vld (numR s.data.toList).1 1) := by
  generalize hl : s.data.toList = l at hm hs
  apply refP_par
  · rw [hl]; intro hc
    simp only [Bool.and_eq_true] at hc
    obtain ⟨c1, c2⟩ := hc
    obtain ⟨u, e, en⟩ := num_true c1
    rw [en] at c2 ⊢
    refine ⟨(vld_iff _ _).1 c2, ?_⟩
    rw [txt_one, Lib.itoa_nonneg, e]
  · rw [hl]; intro p q hv ht
    obtain ⟨hp, e⟩ := shape_plain hv ht hm
    obtain ⟨rfl, e2⟩ := part_none e hs
    have hv' := hv
    obtain ⟨v1, v2, _⟩ := hv'
    have hk := (vld_iff _ _).2 hv
    rw [e2, num_dec (by omega), show ((p.toNat : Nat) : Int) = p by omega, hk]; rfl
theorem par_01 {s : ByteArray} {x y : List UInt8} (hm : ∀ c r, s.data.toList = c :: r → c ≠ 45) (he : s.data.toList = x ++ 47 :: y) (hs : ∀ c ∈ x, c ≠ 47) :
    parR s = refP (numR x).1 (numR y).1 (((numR x).2 && (numR y).2 && ((numR y).1 != 1)) && vld (numR x).1 (numR y).1) := by
  generalize hl : s.data.toList = l at hm he
  apply refP_par
  · rw [hl]; intro hc
    simp only [Bool.and_eq_true] at hc
    obtain ⟨⟨⟨c1, c2⟩, c3⟩, c4⟩ := hc
    obtain ⟨u, e, en⟩ := num_true c1
    obtain ⟨v, f, fn⟩ := num_true c2
    rw [fn] at c3 c4 ⊢
    rw [en] at c4 ⊢
    refine ⟨(vld_iff _ _).1 c4, ?_⟩
    unfold txt
    rw [if_neg (by simpa using c3), Lib.itoa_nonneg, Lib.itoa_nonneg, he, e, f]
  · rw [hl]; intro p q hv ht
    obtain ⟨hp, e⟩ := shape_plain hv ht hm
    rw [he] at e
    obtain ⟨hq, e1, e2⟩ := part_some e hs
    have hv' := hv
    obtain ⟨v1, v2, v3, v4, _⟩ := hv'
    have hk := (vld_iff _ _).2 hv
    rw [e1, e2, num_dec (by omega), num_dec (by omega), show ((p.toNat : Nat) : Int) = p by omega, show ((q.toNat : Nat) : Int) = q by omega, hk]
    simpa using hq
theorem par_10 {s : ByteArray} {t : List UInt8} (hm : s.data.toList = 45 :: t) (hs : ∀ c ∈ t, c ≠ 47) :
    parR s = refP (-(numR t).1) 1 (((numR t).2 && ((numR t).1 != 0)) && vld (-(numR t).1) 1) := by
  generalize hl : s.data.toList = l at hm
  apply refP_par
  · rw [hl]; intro hc
    simp only [Bool.and_eq_true] at hc
    obtain ⟨⟨c1, c3⟩, c2⟩ := hc
    obtain ⟨u, e, en⟩ := num_true c1
    rw [en] at c2 c3 ⊢
    refine ⟨(vld_iff _ _).1 c2, ?_⟩
    have c5 : ¬ (u : Int) = 0 := by simpa using c3
    rw [txt_one, Lib.itoa_neg u (by omega), hm, e]
  · rw [hl]; intro p q hv ht
    obtain ⟨hp, e⟩ := shape_minus hv ht hm
    obtain ⟨rfl, e2⟩ := part_none e hs
    have hv' := hv
    obtain ⟨v1, v2, _⟩ := hv'
    have hk := (vld_iff _ _).2 hv
    rw [e2, num_dec (by omega), show (((-p).toNat : Nat) : Int) = -p by omega, Int.neg_neg, hk]
    simp; omega
theorem par_11 {s : ByteArray} {x y : List UInt8} (hm : s.data.toList = 45 :: (x ++ 47 :: y)) (hs : ∀ c ∈ x, c ≠ 47) :
    parR s = refP (-(numR x).1) (numR y).1 ((((numR x).2 && (numR y).2 && ((numR y).1 != 1)) && ((numR x).1 != 0)) && vld (-(numR x).1) (numR y).1) := by
  generalize hl : s.data.toList = l at hm
  apply refP_par
  · rw [hl]; intro hc
    simp only [Bool.and_eq_true] at hc
    obtain ⟨⟨⟨⟨c1, c2⟩, c3⟩, c6⟩, c4⟩ := hc
    obtain ⟨u, e, en⟩ := num_true c1
    obtain ⟨v, f, fn⟩ := num_true c2
    rw [fn] at c3 c4 ⊢
    rw [en] at c4 c6 ⊢
    refine ⟨(vld_iff _ _).1 c4, ?_⟩
    have c5 : ¬ (u : Int) = 0 := by simpa using c6
    unfold txt
    rw [if_neg (by simpa using c3), Lib.itoa_neg u (by omega), Lib.itoa_nonneg, hm, e, f]; rfl
  · rw [hl]; intro p q hv ht
    obtain ⟨hp, e⟩ := shape_minus hv ht hm
    obtain ⟨hq, e1, e2⟩ := part_some e hs
    have hv' := hv
    obtain ⟨v1, v2, v3, v4, _⟩ := hv'
    have hk := (vld_iff _ _).2 hv
    rw [e1, e2, num_dec (by omega), num_dec (by omega), show (((-p).toNat : Nat) : Int) = -p by omega, show ((q.toNat : Nat) : Int) = q by omega, Int.neg_neg, hk]
    simp; omega
end Go.Proofs.YtohnmffokichkaaDoor
