/-
  Mathematics of rounding and of sums.
-/
import Derived.Test.YtamccmeibnihpaaGreatDoorMWalks2
namespace Go.Proofs.YtamccmeibnihpaaGreatDoor

theorem rnd_near (m d : Int) (hd : 1 ≤ d) : 2 * (rnd m d * d - m) ≤ d ∧ -(2 * (rnd m d * d - m)) ≤ d := by
  have e := Int.mul_tdiv_add_tmod m d
  have hr : (m.tmod d).natAbs < d.natAbs := by rw [Int.natAbs_tmod]; exact Nat.mod_lt _ (by omega)
  have hs1 : 0 ≤ m → 0 ≤ m.tmod d := fun h => Int.tmod_nonneg d h
  have hs2 : m ≤ 0 → m.tmod d ≤ 0 := fun h => by
    have := Int.tmod_nonneg d (show 0 ≤ -m by omega)
    rw [Int.neg_tmod] at this; omega
  unfold rnd
  generalize m.tdiv d = q at e ⊢
  generalize m.tmod d = r at e hr hs1 hs2 ⊢
  have hc : q * d = d * q := Int.mul_comm q d
  have ha : ab r = if r < 0 then -r else r := rfl
  split
  · rename_i h
    rcases Int.lt_trichotomy m 0 with hm | hm | hm
    · rw [sgn_neg hm, Int.add_mul, hc]
      have := hs2 (by omega)
      split at ha <;> omega
    · have h1 := hs1 (by omega)
      have h2 := hs2 (by omega)
      split at ha <;> omega
    · rw [sgn_pos hm, Int.add_mul, hc]
      have := hs1 (by omega)
      split at ha <;> omega
  · rw [hc]
    split at ha <;> omega

theorem rnd_neg (m d : Int) : rnd (-m) d = -rnd m d := by
  unfold rnd
  have e1 : ab ((-m).tmod d) = ab (m.tmod d) := by rw [Int.neg_tmod]; unfold ab; split <;> split <;> omega
  have e2 : sgn (-m) = -sgn m := by unfold sgn cmp3; repeat' split <;> omega
  rw [e1, Int.neg_tdiv, e2]
  split <;> omega

theorem rnd_mono (m k d : Int) (hd : 1 ≤ d) (h : m ≤ k) : rnd m d ≤ rnd k d := by
  rcases Int.lt_or_le (rnd k d) (rnd m d) with hl | hl
  · exfalso
    have a := rnd_near m d hd
    have b := rnd_near k d hd
    have c : (rnd k d + 1) * d ≤ rnd m d * d := Int.mul_le_mul_of_nonneg_right (by omega) (by omega)
    rw [Int.add_mul, Int.one_mul] at c
    have hmk : m = k := by omega
    subst hmk
    omega
  · exact hl

theorem wth_neg (q : Int) : wth (-q) = (-(wth q).1, (wth q).2) := by
  unfold wth
  cases h : amt q with
  | true =>
    have := (amt_iff q).1 h
    rw [if_pos rfl, if_pos ((amt_iff _).2 (by omega))]
  | false =>
    have h2 : amt (-q) = false := by
      rw [Bool.eq_false_iff]; intro h3
      have := (amt_iff _).1 h3
      have := (amt_iff q).2 (by omega)
      rw [h] at this; cases this
    rw [h2, if_neg (by simp), if_neg (by simp)]; rfl

theorem sclR_one (c : Int) (h : amt c = true) : sclR c 1 1 = (c, 0) := by
  unfold sclR
  rw [if_pos ⟨h, by decide +kernel⟩, Int.mul_one]
  have e : rnd c 1 = c := by
    unfold rnd
    rw [Int.tmod_one, Int.tdiv_one, if_neg (by decide)]
  rw [e]; unfold wth; rw [if_pos h]

theorem sclR_neg (c n d : Int) : sclR (-c) n d = (-(sclR c n d).1, (sclR c n d).2) := by
  unfold sclR
  have h2 : amt (-c) = amt c := by
    rw [Bool.eq_iff_iff, amt_iff, amt_iff]; omega
  rw [h2, Int.neg_mul, rnd_neg]
  split
  · exact wth_neg _
  · rfl

theorem wth_cases (q : Int) : (wth q = (q, 0) ∧ amt q = true) ∨ (wth q = (0, 3) ∧ amt q = false) := by
  unfold wth
  cases h : amt q with
  | true => left; exact ⟨by rw [if_pos rfl], rfl⟩
  | false => right; exact ⟨by rw [if_neg (by simp)], rfl⟩

/-! Sums. -/
theorem all3 (a b c : Int) : [a, b, c].all amt = (amt a && (amt b && amt c)) := by simp
theorem sum3 (a b c : Int) : [a, b, c].sum = a + (b + (c + 0)) := by simp [List.sum_cons]
theorem add_rot (a b c : Int) : addR [c, a, b] = addR [a, b, c] := by
  unfold addR
  rw [all3, all3, sum3, sum3]
  have e : (amt c && (amt a && amt b)) = (amt a && (amt b && amt c)) := by cases amt a <;> cases amt b <;> cases amt c <;> rfl
  rw [e, show c + (a + (b + 0)) = a + (b + (c + 0)) by omega]
theorem add_step (a b c : Int) (h1 : (addR [a, b, c]).2 = 0) (h2 : (addR [a, b]).2 = 0) : addR [(addR [a, b]).1, c] = ((addR [a, b, c]).1, 0) := by
  unfold addR at h1 h2 ⊢
  split at h1
  · rename_i ha
    split at h2
    · rename_i hb
      rw [if_pos ha, if_pos hb]
      have e2 : [a, b].sum = a + (b + 0) := by simp [List.sum_cons]
      rw [sum3] at h1 ⊢
      rw [e2] at h2 ⊢
      rcases wth_cases (a + (b + (c + 0))) with ⟨k1, k2⟩ | ⟨k1, k2⟩
      · rcases wth_cases (a + (b + 0)) with ⟨k3, k4⟩ | ⟨k3, k4⟩
        · rw [k1, k3]
          have hc : amt c = true := by rw [all3] at ha; simp only [Bool.and_eq_true] at ha; exact ha.2.2
          have : [a + (b + 0), c].all amt = true := by simp only [List.all_cons, List.all_nil, Bool.and_true, Bool.and_eq_true]; exact ⟨k4, hc⟩
          dsimp only
          rw [if_pos this]
          have e3 : [a + (b + 0), c].sum = a + (b + (c + 0)) := by simp only [List.sum_cons, List.sum_nil]; omega
          rw [e3, k1]
        · rw [k3] at h2; cases h2
      · rw [k1] at h1; cases h1
    · cases h2
  · cases h1
theorem add_neg (a : Int) (h : amt a = true) : addR [a, -a] = (0, 0) := by
  unfold addR
  have hb := (amt_iff a).1 h
  have h2 : amt (-a) = true := (amt_iff _).2 (by omega)
  rw [if_pos (by simp only [List.all_cons, List.all_nil, Bool.and_true, Bool.and_eq_true]; exact ⟨h, h2⟩)]
  have e3 : [a, -a].sum = 0 := by simp only [List.sum_cons, List.sum_nil]; omega
  rw [e3]; decide
end Go.Proofs.YtamccmeibnihpaaGreatDoor
