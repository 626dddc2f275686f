/-
  Mathematics of the texts of amounts: Parse and Text are inverse to each other.
-/
import Derived.Test.YtamccmeibnihpaaGreatDoorMParse2
import Derived.Test.YtamccmeibnihpaaGreatDoorMRndMath
namespace Go.Proofs.YtamccmeibnihpaaGreatDoor

theorem dec_small {n : Nat} (h : n < 10) : Lib.decDigits n = [UInt8.ofNat (48 + n)] := by
  rw [Lib.decDigits]; simp [h]
theorem dec_big {n : Nat} (h : 10 ≤ n) : Lib.decDigits n = Lib.decDigits (n / 10) ++ [UInt8.ofNat (48 + n % 10)] := by
  rw [Lib.decDigits]; simp [show ¬ n < 10 by omega]
theorem ofNat_toNat {d : Nat} (h : d < 10) : (UInt8.ofNat (48 + d)).toNat = 48 + d := by
  have : ∀ k : Fin 10, (UInt8.ofNat (48 + k.val)).toNat = 48 + k.val := by decide
  exact this ⟨d, h⟩
theorem digit_of {c : UInt8} (h : isD c = true) : c = UInt8.ofNat (48 + (c.toNat - 48)) ∧ c.toNat - 48 < 10 := by
  unfold isD at h
  simp only [Bool.and_eq_true, decide_eq_true_eq] at h
  refine ⟨?_, by omega⟩
  rw [show 48 + (c.toNat - 48) = c.toNat by omega]; simp

theorem valD_snoc (l : List UInt8) (c : UInt8) : valD (l ++ [c]) = valD l * 10 + (c.toNat - 48) := by unfold valD; rw [List.foldl_append]; rfl

theorem dec_allD (n : Nat) : allD (Lib.decDigits n) = true ∧ Lib.decDigits n ≠ [] ∧ valD (Lib.decDigits n) = n ∧ (10 ≤ n → (Lib.decDigits n).head? ≠ some 48) ∧ (0 < n → (Lib.decDigits n).head? ≠ some 48) := by
  induction n using Nat.strongRecOn with
  | _ n ih =>
    by_cases h : n < 10
    · rw [dec_small h]
      have e := ofNat_toNat h
      refine ⟨?_, by simp, ?_, fun h2 => by omega, fun h2 => ?_⟩
      · unfold allD isD; simp only [List.all_cons, List.all_nil, e]; simp; omega
      · unfold valD; simp only [List.foldl_cons, List.foldl_nil, e]; omega
      · simp only [List.head?_cons, ne_eq, Option.some.injEq]
        intro hc
        have := congrArg UInt8.toNat hc
        rw [e] at this
        have h48 : (48 : UInt8).toNat = 48 := rfl
        omega
    · rw [dec_big (by omega)]
      obtain ⟨i1, i2, i3, i4, i5⟩ := ih (n / 10) (by omega)
      have e := ofNat_toNat (show n % 10 < 10 by omega)
      have hh : (Lib.decDigits (n / 10) ++ [UInt8.ofNat (48 + n % 10)]).head? = (Lib.decDigits (n / 10)).head? := by
        cases hd : Lib.decDigits (n / 10) with
        | nil => exact absurd hd i2
        | cons c r => rfl
      refine ⟨?_, by simp, ?_, fun _ => by rw [hh]; exact i5 (by omega), fun _ => by rw [hh]; exact i5 (by omega)⟩
      · unfold allD at i1 ⊢
        rw [List.all_append, i1]
        unfold isD; simp only [List.all_cons, List.all_nil, e]; simp; omega
      · rw [valD_snoc, i3, e]; omega

/-- Digits without a superfluous zero are those of their value. -/
theorem dec_val : ∀ (k : Nat) (l : List UInt8), l.length = k → allD l = true → l ≠ [] → (l = [48] ∨ l.head? ≠ some 48) → Lib.decDigits (valD l) = l ∧ (l ≠ [48] → 0 < valD l)
  | 0, l, hk, _, hne, _ => absurd (List.length_eq_zero_iff.1 hk) hne
  | k + 1, l, hk, ha, hne, hz => by
    obtain ⟨r, c, rfl⟩ : ∃ r c, l = r ++ [c] := ⟨l.dropLast, l.getLast hne, (List.dropLast_concat_getLast hne).symm⟩
    unfold allD at ha
    rw [List.all_append, Bool.and_eq_true] at ha
    have hc : isD c = true := by simpa using ha.2
    obtain ⟨e1, e2⟩ := digit_of hc
    rw [valD_snoc]
    by_cases hr : r = []
    · subst hr
      simp only [List.nil_append]
      have ev : valD [] * 10 + (c.toNat - 48) = c.toNat - 48 := by unfold valD; simp
      rw [ev, dec_small e2, ← e1]
      refine ⟨rfl, fun h => ?_⟩
      rcases Nat.eq_zero_or_pos (c.toNat - 48) with h0 | h0
      · rw [h0] at e1
        exact absurd (by rw [e1]; rfl) h
      · exact h0
    · have hk2 : r.length = k := by rw [List.length_append] at hk; simpa using hk
      have hzr : r.head? ≠ some 48 := by
        rcases hz with h | h
        · exfalso
          have := congrArg List.length h
          rw [List.length_append] at this
          have : r.length = 0 := by simpa using this
          exact hr (List.length_eq_zero_iff.1 this)
        · cases r with
          | nil => exact absurd rfl hr
          | cons d r => simpa using h
      obtain ⟨i1, i2⟩ := dec_val k r hk2 ha.1 hr (Or.inr hzr)
      have hpos := i2 (fun h => hzr (by rw [h]; rfl))
      refine ⟨?_, fun _ => by omega⟩
      rw [dec_big (by omega), show (valD r * 10 + (c.toNat - 48)) / 10 = valD r by omega, show (valD r * 10 + (c.toNat - 48)) % 10 = c.toNat - 48 by omega, i1, ← e1]

theorem itoa_nat (n : Nat) : Lib.itoa (n : Int) = Lib.decDigits n := by unfold Lib.itoa; rw [if_neg (by omega)]; rfl

/-- The text of cents, by digits. -/
theorem txA_nat (a : Nat) : txA (a : Int) = Lib.decDigits (a / 100) ++ ([46] ++ ([UInt8.ofNat (48 + a / 10 % 10)] ++ [UInt8.ofNat (48 + a % 10)])) := by
  unfold txA
  have e1 : (a : Int) / 100 = ((a / 100 : Nat) : Int) := by omega
  have e2 : (a : Int) / 10 % 10 = ((a / 10 % 10 : Nat) : Int) := by omega
  have e3 : (a : Int) % 10 = ((a % 10 : Nat) : Int) := by omega
  rw [e1, e2, e3, itoa_nat, itoa_nat, itoa_nat, dec_small (show a / 10 % 10 < 10 by omega), dec_small (show a % 10 < 10 by omega)]

theorem index_app (r : List UInt8) : ∀ l : List UInt8, (∀ c ∈ l, c ≠ 46) → Lib.indexByte (l ++ 46 :: r) 46 = l.length
  | [], _ => by simp [Lib.indexByte]
  | c :: l, h => by
    have ih := index_app r l (fun x hx => h x (List.mem_cons_of_mem _ hx))
    have hc : (c == 46) = false := by simpa using h c (List.mem_cons_self ..)
    simp only [List.cons_append, Lib.indexByte, hc, ih, Bool.false_eq_true, if_false, List.length_cons]
    rw [if_neg (by simp)]; omega

theorem digit_ne {l : List UInt8} (h : allD l = true) (x : UInt8) (hx : isD x = false) : ∀ c ∈ l, c ≠ x := by
  intro c hc e
  unfold allD at h
  have := List.all_eq_true.1 h c hc
  rw [e, hx] at this; cases this

theorem cutP_pair (A B : List UInt8) (h : allD A = true) : cutP (A ++ 46 :: B) = (A, B, true) := by
  unfold cutP
  rw [index_app B A (digit_ne h 46 (by decide)), if_pos (by omega)]
  simp

theorem cutP_inv (U : List UInt8) (hne : (cutP U).2.1 ≠ []) : U = (cutP U).1 ++ 46 :: (cutP U).2.1 := by
  by_cases h : 0 ≤ Lib.indexByte U 46
  · obtain ⟨o, ho⟩ : ∃ o : Nat, Lib.indexByte U 46 = o := ⟨(Lib.indexByte U 46).toNat, by omega⟩
    have h2 := (Lib.indexByte_some ho).1
    obtain ⟨hlt, hget⟩ := List.getElem?_eq_some_iff.1 h2
    unfold cutP
    rw [if_pos h, ho]
    simp only [Int.toNat_natCast]
    rw [← hget, ← List.drop_eq_getElem_cons hlt, List.take_append_drop]
  · unfold cutP at hne
    rw [if_neg h] at hne
    exact absurd rfl hne

theorem valD_two (A : List UInt8) (x y : UInt8) : valD (A ++ [x, y]) = (valD A * 10 + (x.toNat - 48)) * 10 + (y.toNat - 48) := by
  have : A ++ [x, y] = (A ++ [x]) ++ [y] := by simp
  rw [this, valD_snoc, valD_snoc]

theorem prefix_minus (l : List UInt8) : Lib.hasPrefix (45 :: l) [45] = true ∧ Lib.trimPrefix (45 :: l) [45] = l := by
  have h : Lib.hasPrefix (45 :: l) [45] = true := by unfold Lib.hasPrefix; simp [List.isPrefixOf]
  refine ⟨h, ?_⟩
  unfold Lib.trimPrefix
  rw [if_pos h]; rfl
theorem prefix_none {l : List UInt8} (h : l.head? ≠ some 45) : Lib.hasPrefix l [45] = false ∧ Lib.trimPrefix l [45] = l := by
  have hp : Lib.hasPrefix l [45] = false := by
    unfold Lib.hasPrefix
    cases l with
    | nil => rfl
    | cons c r => simp [List.isPrefixOf]; simpa using fun e => h (by rw [← e]; rfl)
  refine ⟨hp, ?_⟩
  unfold Lib.trimPrefix
  rw [hp, if_neg (by simp)]

/-- The unsigned text: cut, its form, its value. -/
theorem txA_facts (a : Nat) : cutP (txA (a : Int)) = (Lib.decDigits (a / 100), [UInt8.ofNat (48 + a / 10 % 10), UInt8.ofNat (48 + a % 10)], true) ∧ whl (Lib.decDigits (a / 100)) = true ∧
    allD [UInt8.ofNat (48 + a / 10 % 10), UInt8.ofNat (48 + a % 10)] = true ∧ valD (Lib.decDigits (a / 100) ++ [UInt8.ofNat (48 + a / 10 % 10), UInt8.ofNat (48 + a % 10)]) = a ∧ (txA (a : Int)).head? ≠ some 45 := by
  obtain ⟨d1, d2, d3, _, d5⟩ := dec_allD (a / 100)
  have e1 := ofNat_toNat (show a / 10 % 10 < 10 by omega)
  have e2 := ofNat_toNat (show a % 10 < 10 by omega)
  have ht : txA (a : Int) = Lib.decDigits (a / 100) ++ 46 :: [UInt8.ofNat (48 + a / 10 % 10), UInt8.ofNat (48 + a % 10)] := by rw [txA_nat]; simp
  refine ⟨by rw [ht]; exact cutP_pair _ _ d1, ?_, ?_, ?_, ?_⟩
  · unfold whl
    by_cases h : a / 100 = 0
    · rw [h, dec_small (by omega)]; decide
    · rw [d1, decide_eq_true d2, decide_eq_true (d5 (by omega))]; simp
  · unfold allD isD
    simp only [List.all_cons, List.all_nil, e1, e2]; simp; omega
  · rw [valD_two, d3, e1, e2]; omega
  · rw [ht]
    cases hd : Lib.decDigits (a / 100) with
    | nil => exact absurd hd d2
    | cons c r =>
      have := digit_ne d1 45 (by decide) c (by rw [hd]; simp)
      simpa using this

theorem par_txt {c : Int} (h : amt c = true) : parM (txM c) = (c, 0) := by
  obtain ⟨a, ha⟩ : ∃ a : Nat, (a : Int) = ab c := ⟨(ab c).toNat, by unfold ab; split <;> omega⟩
  obtain ⟨f1, f2, f3, f4, f5⟩ := txA_facts a
  have hw : wth c = (c, 0) := by unfold wth; rw [if_pos h]
  unfold txM
  rw [← ha]
  by_cases hc : c < 0
  · rw [if_pos hc]
    show parM (45 :: txA (a : Int)) = _
    obtain ⟨p1, p2⟩ := prefix_minus (txA (a : Int))
    have hne : decide (45 :: txA (a : Int) = [45, 48, 46, 48, 48]) = false := by
      refine decide_eq_false (fun e => ?_)
      have e2 : txA (a : Int) = [48, 46, 48, 48] := by simpa using e
      rw [e2] at f1
      have e3 : cutP [48, 46, 48, 48] = ([48], [48, 48], true) := by decide
      rw [e3] at f1
      simp only [Prod.mk.injEq] at f1
      have : valD ([48] ++ [48, 48]) = a := by have h := f4; rw [← f1.1, ← f1.2.1] at h; exact h
      have hz : valD ([48] ++ [48, 48]) = 0 := by decide
      have : ab c = -c := by unfold ab; rw [if_pos hc]
      omega
    unfold parM form valM neS abS beS unS
    rw [p2, f1, f2, f3, hne, p1]
    rw [if_pos (by simp), if_pos rfl, f4]
    have : -(a : Int) = c := by have : ab c = -c := by unfold ab; rw [if_pos hc]
                                omega
    rw [this]; exact hw
  · rw [if_neg hc]
    obtain ⟨p1, p2⟩ := prefix_none f5
    have hne : decide (txA (a : Int) = [45, 48, 46, 48, 48]) = false := by
      refine decide_eq_false (fun e => ?_)
      rw [e] at f5; exact f5 rfl
    unfold parM form valM neS abS beS unS
    rw [p2, f1, f2, f3, hne, p1]
    rw [if_pos (by simp), if_neg (by simp), f4]
    have : (a : Int) = c := by have : ab c = c := by unfold ab; rw [if_neg hc]
                               omega
    rw [this]; exact hw

theorem par_ok {l : List UInt8} {n g : Int} (h : parM l = (n, g)) : (g = 0 ∧ amt n = true ∧ txM n = l) ∨ (n = 0 ∧ (g = 8 ∨ g = 3)) := by
  unfold parM at h
  by_cases hf : form l = true
  · rw [if_pos hf] at h
    obtain ⟨v, hv⟩ : ∃ v, v = if neS l = true then -(valM l) else valM l := ⟨_, rfl⟩
    rw [← hv] at h
    rcases wth_cases v with ⟨k1, k2⟩ | ⟨k1, k2⟩
    · left
      rw [k1] at h
      simp only [Prod.mk.injEq] at h
      obtain ⟨rfl, rfl⟩ := h
      refine ⟨rfl, k2, ?_⟩
      unfold form at hf
      simp only [Bool.and_eq_true, decide_eq_true_eq, Bool.not_eq_true', decide_eq_false_iff_not] at hf
      obtain ⟨hw, hl, hb, hx⟩ := hf
      have hwd := whl_digits hw
      have hz : abS l = [48] ∨ (abS l).head? ≠ some 48 := by
        unfold whl at hw
        simp only [Bool.or_eq_true, Bool.and_eq_true, decide_eq_true_eq] at hw
        rcases hw with h | ⟨⟨_, h⟩, _⟩
        · exact Or.inl h
        · exact Or.inr h
      obtain ⟨x, y, hxy⟩ : ∃ x y, beS l = [x, y] := by
        cases hbs : beS l with
        | nil => rw [hbs] at hl; cases hl
        | cons x r =>
          cases r with
          | nil => rw [hbs] at hl; cases hl
          | cons y r =>
            cases r with
            | nil => exact ⟨x, y, rfl⟩
            | cons z r => rw [hbs] at hl; simp at hl
      have hU : unS l = abS l ++ 46 :: beS l := cutP_inv (unS l) (by show beS l ≠ []; rw [hxy]; simp)
      rw [hxy] at hb hU
      have hbx : isD x = true ∧ isD y = true := by unfold allD at hb; simpa using hb
      obtain ⟨ex1, ex2⟩ := digit_of hbx.1
      obtain ⟨ey1, ey2⟩ := digit_of hbx.2
      obtain ⟨i1, i2⟩ := dec_val _ (abS l) rfl hwd.1 hwd.2 hz
      obtain ⟨a, haV⟩ : ∃ a : Nat, a = valD (abS l ++ beS l) := ⟨_, rfl⟩
      have ha2 : a = (valD (abS l) * 10 + (x.toNat - 48)) * 10 + (y.toNat - 48) := by rw [haV, hxy, valD_two]
      have hvm : valM l = (a : Int) := by unfold valM; rw [haV]
      have htx : txA (a : Int) = unS l := by
        rw [txA_nat, hU, show a / 100 = valD (abS l) by omega, i1, show a / 10 % 10 = x.toNat - 48 by omega, show a % 10 = y.toNat - 48 by omega, ← ex1, ← ey1]
        rfl
      rw [hvm] at hv
      cases hn : neS l with
      | true =>
        rw [hn, if_pos rfl] at hv
        have hl2 : l = 45 :: unS l := by
          unfold neS Lib.hasPrefix at hn
          unfold unS Lib.trimPrefix Lib.hasPrefix
          rw [if_pos hn]
          cases l with
          | nil => simp [List.isPrefixOf] at hn
          | cons c r => simp [List.isPrefixOf] at hn; rw [← hn]; rfl
        have hpos : 0 < a := by
          rcases Nat.eq_zero_or_pos a with h0 | h0
          · exfalso
            apply hx
            rw [hl2, ← htx, h0, txA_nat]
            rw [dec_small (by omega)]
            decide
          · exact h0
        unfold txM
        rw [if_pos (by omega)]
        have : ab v = (a : Int) := by unfold ab; rw [if_pos (by omega)]; omega
        rw [this, htx]; exact hl2.symm
      | false =>
        rw [hn, if_neg (by simp)] at hv
        have hl2 : l = unS l := by
          unfold neS at hn
          unfold unS Lib.trimPrefix
          rw [hn, if_neg (by simp)]
        unfold txM
        rw [if_neg (by omega)]
        have : ab v = (a : Int) := by unfold ab; rw [if_neg (by omega)]; omega
        rw [this, htx]; exact hl2.symm
    · right
      rw [k1] at h
      simp only [Prod.mk.injEq] at h
      exact ⟨h.1.symm, Or.inr h.2.symm⟩
  · rw [if_neg hf] at h
    simp only [Prod.mk.injEq] at h
    right; exact ⟨h.1.symm, Or.inl h.2.symm⟩
end Go.Proofs.YtamccmeibnihpaaGreatDoor
