/-
  Texts of numbers: what is written is read back.
-/
import Derived.Test.YtohnmffokichkaaDoorWalks8
import Derived.Lib.AtoiAllCases
namespace Go.Proofs.YtohnmffokichkaaDoor
open Go.RowKit

theorem dig_toNat {d : Nat} (h : d < 10) : (UInt8.ofNat (48 + d)).toNat = 48 + d := by
  rw [UInt8.toNat_ofNat']; omega

theorem digits_range (u : Nat) : ∀ c ∈ Lib.decDigits u, 48 ≤ c.toNat ∧ c.toNat ≤ 57 := by
  induction u using Nat.strongRecOn with
  | _ u ih =>
    intro c hc
    rw [Lib.decDigits] at hc
    split at hc
    · rename_i h
      simp only [List.mem_singleton] at hc
      rw [hc, dig_toNat h]; omega
    · rename_i h
      rcases List.mem_append.1 hc with h1 | h1
      · exact ih (u / 10) (by omega) c h1
      · simp only [List.mem_singleton] at h1
        rw [h1, dig_toNat (by omega)]; omega

theorem digits_ne (u : Nat) : Lib.decDigits u ≠ [] := by
  rw [Lib.decDigits]
  split <;> simp

theorem pu_append (r : List UInt8) : ∀ (l : List UInt8) (acc v : Nat), Lib.parseUint10 acc l = .ok v → Lib.parseUint10 acc (l ++ r) = Lib.parseUint10 v r
  | [], acc, v, h => by
    simp only [Lib.parseUint10] at h
    injection h with h
    rw [h]; rfl
  | c :: l, acc, v, h => by
    simp only [List.cons_append, Lib.parseUint10] at h ⊢
    split at h
    · rename_i h1
      rw [if_pos h1]
      split at h
      · cases h
      · rename_i h2
        rw [if_neg h2]
        split at h
        · cases h
        · rename_i h3
          rw [if_neg h3]
          exact pu_append r l _ v h
    · cases h

theorem pu_one {acc d : Nat} (hd : d < 10) (ha : acc < 100000000000000000) : Lib.parseUint10 acc [UInt8.ofNat (48 + d)] = .ok (acc * 10 + d) := by
  simp only [Lib.parseUint10]
  rw [dig_toNat hd, if_pos (by omega), if_neg (by omega), if_neg (by omega), show 48 + d - 48 = d from by omega]

theorem pu_digits (u : Nat) (hu : u < 1000000000000000000) : Lib.parseUint10 0 (Lib.decDigits u) = .ok u := by
  induction u using Nat.strongRecOn with
  | _ u ih =>
    rw [Lib.decDigits]
    split
    · rename_i h
      rw [pu_one h (by omega)]; congr 1; omega
    · rename_i h
      rw [pu_append _ _ _ _ (ih (u / 10) (by omega) (by omega)), pu_one (by omega) (by omega)]; congr 1; omega

theorem atoi_itoa {n : Int} (h0 : -1000000000 ≤ n) (h1 : n ≤ 1000000000) : Lib.atoiAll (Lib.itoa n) = .ok n := by
  by_cases hn : n < 0
  · obtain ⟨u, rfl⟩ : ∃ u : Nat, n = -(u : Int) := ⟨n.natAbs, by omega⟩
    rw [Lib.itoa_neg u (by omega), Lib.atoiAll_minus]
    unfold Lib.parseMag
    rw [if_neg (digits_ne u), pu_digits u (by omega)]
    unfold Lib.signed
    simp; omega
  · obtain ⟨u, rfl⟩ : ∃ u : Nat, n = u := ⟨n.toNat, by omega⟩
    rw [Lib.itoa_nonneg]
    have hr := digits_range u
    have hp : Lib.parseMag (Lib.decDigits u) = .ok u := by
      unfold Lib.parseMag
      rw [if_neg (digits_ne u), pu_digits u (by omega)]
    cases e : Lib.decDigits u with
    | nil => exact absurd e (digits_ne u)
    | cons c r =>
      rw [e] at hr hp
      have hc := hr c (List.mem_cons_self ..)
      rw [Lib.atoiAll_plain c r (by omega) (by omega), hp]
      unfold Lib.signless
      simp; omega

theorem itoa_noslash (n : Int) : ∀ c ∈ Lib.itoa n, c ≠ 47 := by
  intro c hc e
  subst e
  unfold Lib.itoa at hc
  split at hc
  · rcases List.mem_cons.1 hc with h | h
    · exact absurd h (by decide)
    · have := (digits_range _ _ h).1
      exact absurd this (by decide)
  · have := (digits_range _ _ hc).1
    exact absurd this (by decide)

theorem index_app (r : List UInt8) : ∀ l : List UInt8, (∀ c ∈ l, c ≠ 47) → Lib.indexByte (l ++ 47 :: r) 47 = l.length
  | [], _ => by simp [Lib.indexByte]
  | c :: l, h => by
    have ih := index_app r l (fun x hx => h x (List.mem_cons_of_mem _ hx))
    have hc : (c == 47) = false := by simpa using h c (List.mem_cons_self ..)
    simp only [List.cons_append, Lib.indexByte, hc, ih, Bool.false_eq_true, if_false, List.length_cons]
    rw [if_neg (by simp)]; omega
theorem index_none : ∀ l : List UInt8, (∀ c ∈ l, c ≠ 47) → Lib.indexByte l 47 = -1
  | [], _ => rfl
  | c :: l, h => by
    have ih := index_none l (fun x hx => h x (List.mem_cons_of_mem _ hx))
    have hc : (c == 47) = false := by simpa using h c (List.mem_cons_self ..)
    simp [Lib.indexByte, hc, ih]

theorem cut_pair (a b : Int) : cutS (Lib.itoa a ++ 47 :: Lib.itoa b) = (Lib.itoa a, Lib.itoa b, true) := by
  unfold cutS
  rw [index_app _ _ (itoa_noslash a), if_pos (by omega)]
  simp
theorem cut_one (a : Int) : cutS (Lib.itoa a) = (Lib.itoa a, [], false) := by
  unfold cutS
  rw [index_none _ (itoa_noslash a), if_neg (by omega)]

/-- The text of a number is parsed to it. -/
theorem par_txt {a b : Int} (h : Q.Val a b) : parR (bs (txt a b)) = (a, b, 0) := by
  obtain ⟨h1, h2, h3, h4, h5⟩ := h
  have hv : vld a b = true := (vld_iff a b).2 ⟨h1, h2, h3, h4, h5⟩
  have hl : (bs (txt a b)).data.toList = txt a b := by simp [bs]
  have hf : fin (bs (txt a b)) a b = (a, b, 0) := by
    unfold fin texR
    rw [if_pos hv, hl]; simp
  unfold parR
  rw [hl]
  by_cases hb : b = 1
  · subst hb
    have e1 : Lib.atoiAll [49] = .ok 1 := rfl
    rw [txt_one] at hf ⊢
    rw [cut_one]
    simp only [Bool.false_eq_true, if_false, atoi_itoa h1 h2, e1]
    exact hf
  · have e : txt a b = Lib.itoa a ++ 47 :: Lib.itoa b := by unfold txt; rw [if_neg hb]
    rw [e] at hf ⊢
    rw [cut_pair]
    simp only [if_true, atoi_itoa h1 h2, atoi_itoa (show -1000000000 ≤ b by omega) h4]
    exact hf

/-- A string that is parsed is the text of the number. -/
theorem par_ok {s : ByteArray} {p q e : Int} (h : parR s = (p, q, e)) : (e = 0 ∧ Q.Val p q ∧ txt p q = s.data.toList) ∨ (p = 0 ∧ q = 0 ∧ e = 8) := by
  have hfin : ∀ n d, fin s n d = (p, q, e) → (e = 0 ∧ Q.Val p q ∧ txt p q = s.data.toList) ∨ (p = 0 ∧ q = 0 ∧ e = 8) := by
    intro n d hn
    unfold fin at hn
    split at hn
    · rename_i hc
      simp only [Prod.mk.injEq] at hn
      obtain ⟨rfl, rfl, rfl⟩ := hn
      unfold texR at hc
      by_cases hv : vld n d = true
      · rw [if_pos hv] at hc
        exact Or.inl ⟨rfl, (vld_iff _ _).1 hv, hc.2⟩
      · rw [if_neg hv] at hc; exact absurd hc.1 (by decide)
    · simp only [Prod.mk.injEq] at hn
      obtain ⟨rfl, rfl, rfl⟩ := hn
      exact Or.inr ⟨rfl, rfl, rfl⟩
  unfold parR at h
  split at h
  · exact hfin _ _ h
  · simp only [Prod.mk.injEq] at h
    obtain ⟨rfl, rfl, rfl⟩ := h
    exact Or.inr ⟨rfl, rfl, rfl⟩
end Go.Proofs.YtohnmffokichkaaDoor
