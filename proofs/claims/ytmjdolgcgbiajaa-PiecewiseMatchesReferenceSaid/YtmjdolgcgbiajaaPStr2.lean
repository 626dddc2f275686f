/-
  Stretches: where the lesser one turns, the sections of Least, and the comparison.
-/
import Derived.Test.YtmjdolgcgbiajaaPStr
namespace Go.Proofs.Ytmjdolgcgbiajaa
open Go.RowKit Pw

def tk (s : ST) : Nat → Nat → Nat
  | 0, k => k
  | n + 1, k => if s.lt (s.f + k) ≠ s.lt s.f then k else tk s n (k + 1)
/-- The first place of a stretch at which the left line is not to the right one as at its beginning, counted from there; or its length. -/
def turnK (s : ST) : Nat := tk s (s.u - s.f).toNat 0
theorem tk_is (s : ST) : ∀ (n k : Nat), (∀ i : Nat, i < k → s.lt (s.f + i) = s.lt s.f) → k ≤ tk s n k ∧ tk s n k ≤ k + n ∧ (∀ i : Nat, i < tk s n k → s.lt (s.f + i) = s.lt s.f) ∧ (tk s n k < k + n → s.lt (s.f + tk s n k) ≠ s.lt s.f)
  | 0, k, h => ⟨Nat.le_refl _, Nat.le_refl _, h, fun x => absurd x (Nat.lt_irrefl _)⟩
  | n + 1, k, h => by
    rw [tk]
    by_cases e : s.lt (s.f + k) ≠ s.lt s.f
    · rw [if_pos e]
      exact ⟨Nat.le_refl _, by omega, h, fun _ => e⟩
    · rw [if_neg e]
      have e' : s.lt (s.f + k) = s.lt s.f := Decidable.not_not.1 e
      obtain ⟨h1, h2, h3, h4⟩ := tk_is s n (k + 1) fun i hi => by
        by_cases hik : i = k
        · subst hik; exact e'
        · exact h i (by omega)
      exact ⟨by omega, by omega, h3, fun x => h4 (by omega)⟩
theorem ST.Ok.mono {s : ST} (h : s.Ok) {x y z : Int} (hxy : x ≤ y) (hyz : y ≤ z) (hne : s.lt y ≠ s.lt x) : s.lt z = s.lt y := by
  unfold ST.lt at *
  rw [← LN.ap_at h.l.d0, ← LN.ap_at h.r.d0, ← LN.ap_at h.l.d0, ← LN.ap_at h.r.d0] at hne ⊢
  exact less_mono hxy hyz hne
theorem turn_is {s : ST} (h : s.Ok) : s.f + turnK s ≤ s.u ∧ (∀ i : Nat, i < turnK s → s.lt (s.f + i) = s.lt s.f) ∧ (s.f + turnK s < s.u → s.lt (s.f + turnK s) ≠ s.lt s.f) ∧ (∀ i : Nat, turnK s ≤ i → s.f + i < s.u → s.lt (s.f + i) ≠ s.lt s.f) ∧ 0 < turnK s := by
  have hfu := h.fu
  obtain ⟨_, h2, h3, h4⟩ := tk_is s (s.u - s.f).toNat 0 fun i hi => by omega
  have h5 : s.f + turnK s < s.u → s.lt (s.f + turnK s) ≠ s.lt s.f := fun x => h4 (by show turnK s < _; omega)
  refine ⟨by show s.f + (tk s _ 0 : Nat) ≤ _; omega, h3, h5, fun i hi hiu => ?_, ?_⟩
  · have := h5 (by omega)
    rw [h.mono (x := s.f) (y := s.f + turnK s) (z := s.f + i) (by omega) (by omega) this]
    exact this
  · rcases Nat.eq_zero_or_pos (turnK s) with e | e
    · exfalso
      have := h5 (by rw [e]; omega)
      rw [e] at this
      exact this (by rw [show s.f + ((0 : Nat) : Int) = s.f by omega])
    · exact e
theorem turnS_any (s : ST) (w : World) (h : s.Ok) : Calls Try.prog 54 #[s.V] w fun e w' => e = .returned (.int .i64 (s.f + turnK s)) ∧ RowKit.Below w.heap.size w w' :=
  have ⟨h1, h2, _, h4, _⟩ := turn_is h
  turn_any s (turnK s) w h h1 h2 h4

/-! ### The sections of Least -/
def secAt (x : Int) (l : LN) : SP := ⟨x, l.b, l.r, l.d⟩
def lead (s : ST) : LN := if s.lt s.f then s.l else s.r
def other (s : ST) : LN := if s.lt s.f then s.r else s.l
def leastSec (s : ST) : List SP := secAt s.f (lead s) :: (if s.f + turnK s < s.u then [secAt (s.f + turnK s) (other s)] else [])
theorem secAt_ok {x : Int} {l : LN} (h : l.Ok) (h0 : 0 ≤ x) (h1 : x ≤ 100000) : (secAt x l).Ok := by
  have := h.b
  have := h.r
  have := h.d0
  have := h.d1
  unfold secAt SP.Ok
  simp only
  omega
theorem secAt_A {x : Int} {l : LN} : (secAt x l).A = ⟨x, l.at x, l.s⟩ := rfl
theorem leastSec_ok {s : ST} (h : s.Ok) : ∀ t, t ∈ leastSec s → t.Ok := by
  have := h.f0
  have := h.fu
  have := h.u1
  intro t ht
  unfold leastSec at ht
  rcases List.mem_cons.1 ht with rfl | ht
  · unfold lead; split
    · exact secAt_ok h.l (by omega) (by omega)
    · exact secAt_ok h.r (by omega) (by omega)
  · split at ht
    · rw [List.mem_singleton.1 ht]
      unfold other; split
      · exact secAt_ok h.r (by omega) (by omega)
      · exact secAt_ok h.l (by omega) (by omega)
    · cases ht
/-- Over stretches of g and f: what is less of g is not of f. -/
theorem st_ls {f g : List RP} (hf : VR f) (hg : VR g) {x z : Int} (h0 : 0 ≤ x) (h1 : x ≤ 100000) (hz1 : x ≤ z) (hz2 : z < (stA g f 100000 x).u) : (stA g f 100000 x).lt z = !lsF (AA f) (AA g) z := by
  obtain ⟨_, _, e1, e2, _, _⟩ := stA_const hg hf (hi := 100000) h0 h1 (by omega) hz1 hz2
  unfold ST.lt lsF
  rw [e1, e2]
  by_cases h : vl (AA g) z < vl (AA f) z
  · rw [decide_eq_true h, decide_eq_false (Rat.not_le.2 h)]; rfl
  · rw [decide_eq_false h, decide_eq_true (Rat.not_lt.1 h)]; rfl
theorem least_strs {f g : List RP} (hf : VR f) (hg : VR g) : ∀ (n : Nat) (x : Nat), (x = 100001 ∨ x ≤ 100000 ∧ isS (AA g) (AA f) x = true) → 100001 - (x : Int) ≤ n →
    (ps (isT (AA f) (AA g)) x).map (tkH (AA f) (AA g)) ++ ((strs g f 100000 n x).flatMap leastSec).map SP.A = leastL (AA f) (AA g)
  | 0, x, h, hn => by
    have : x = 100001 := by omega
    subst this
    simp [strs, leastL]
  | n + 1, x, h, hn => by
    by_cases hx : x = 100001
    · subst hx
      rw [strs, if_neg (by omega)]
      simp [leastL]
    · have hx2 := h.resolve_left hx
      have ok := stA_ok hg hf (hi := 100000) (x := x) (by omega) (by omega) (by omega)
      have hff : (stA g f 100000 x).f = x := rfl
      have hfu := ok.fu
      have hu1 := ok.u1
      have hn2 := stA_next hg hf (x := x) (by omega) (by omega)
      have hgap := fun z hz1 hz2 => stA_gap hg hf (hi := 100000) (x := x) (z := z) (by omega) (by omega) (by omega) hz1 hz2
      have hls := fun z hz1 hz2 => st_ls hf hg (x := x) (z := z) (by omega) (by omega) hz1 hz2
      have hcz := fun z hz1 hz2 => stA_const hg hf (hi := 100000) (x := x) (z := z) (by omega) (by omega) (by omega) hz1 hz2
      obtain ⟨t1, t2, t3, t4, t5⟩ := turn_is ok
      obtain ⟨u, hu⟩ : ∃ u : Nat, (stA g f 100000 x).u = u := ⟨(stA g f 100000 x).u.toNat, by omega⟩
      have hd : u = 100001 ∨ u ≤ 100000 ∧ isS (AA g) (AA f) u = true := by
        rcases hn2 with e | e
        · exact .inl (by omega)
        · by_cases hu2 : u = 100001
          · exact .inl hu2
          · exact .inr ⟨by omega, by rw [← hu]; exact e⟩
      have ih := least_strs hf hg n u hd (by omega)
      have hxT : isT (AA f) (AA g) x = true := by
        unfold isT isS
        have := hx2.2
        unfold isS at this
        rw [Bool.or_comm (fs (AA f) x), this]
        rfl
      generalize hS : stA g f 100000 x = S at *
      have hls' : ∀ z : Int, (x : Int) ≤ z → z < u → lsF (AA f) (AA g) z = !S.lt z := fun z a b => by rw [hls z a (by omega)]; simp
      -- what is taken at a place of the stretch
      have tkx : ∀ z : Int, (x : Int) ≤ z → z < u → tkH (AA f) (AA g) z = (secAt z (if S.lt z then S.l else S.r)).A := fun z a b => by
        obtain ⟨c1, c2, c3, c4, c5, c6⟩ := hcz z a (by omega)
        unfold tkH
        rw [hls' z a b]
        cases S.lt z with
        | true => rw [if_neg (by simp), if_pos rfl, secAt_A, c3, c5]; unfold vl; rw [c1]
        | false => rw [if_pos (by simp), if_neg (by simp), secAt_A, c4, c6]; unfold vl; rw [c2]
      have notT : ∀ z : Int, (x : Int) < z → z < u → S.lt z = S.lt (z - 1) → isT (AA f) (AA g) z = false := fun z a b e =>
        isT_false.2 ⟨(hgap z a (by omega)).2, (hgap z a (by omega)).1, by rw [hls' z (by omega) b, hls' (z - 1) (by omega) (by omega), e]⟩
      have before : ∀ z : Int, (x : Int) ≤ z → z < x + turnK S → S.lt z = S.lt x := fun z a b => by
        have := t2 (z - x).toNat (by omega)
        rw [hff, show (x : Int) + ((z - x).toNat : Nat) = z by omega] at this
        exact this
      have after : ∀ z : Int, x + turnK S ≤ z → z < u → S.lt z = S.lt (x + turnK S) := fun z a b => by
        have := t3 (by omega)
        rw [hff] at this
        exact ok.mono (x := x) (by omega) a this
      have e0 : secAt S.f (lead S) = secAt x (if S.lt x then S.l else S.r) := by unfold lead; rw [hff]
      rw [strs, hS, if_pos (by omega), List.flatMap_cons, List.map_append, hu, ← ih]
      by_cases htu : x + turnK S < u
      · have hne := t3 (by omega)
        rw [hff] at hne
        have hT : isT (AA f) (AA g) ((x + turnK S : Nat) : Int) = true := by
          unfold isT
          rw [hls' ((x + turnK S : Nat) : Int) (by omega) (by omega), hls' (((x + turnK S : Nat) : Int) - 1) (by omega) (by omega), before (((x + turnK S : Nat) : Int) - 1) (by omega) (by omega)]
          rw [show ((x + turnK S : Nat) : Int) = (x : Int) + turnK S by omega]
          cases h1 : S.lt (x + turnK S) <;> cases h2 : S.lt x <;> simp_all
        have hps := ps_two (P := isT (AA f) (AA g)) (x := x) (t := x + turnK S) (u := u) hxT (by omega) (by omega) hT fun y hy1 hy2 hy3 => notT y hy1 hy2 (by
          by_cases hlt : y < x + turnK S
          · rw [before y (by omega) hlt, before (y - 1) (by omega) (by omega)]
          · rw [after y (by omega) hy2, after (y - 1) (by omega) (by omega)])
        rw [hps, List.map_append, List.append_assoc]
        congr 1
        congr 1
        unfold leastSec
        rw [if_pos (by rw [hff]; omega), e0, List.map_cons, List.map_cons, List.map_cons, List.map_cons, tkx x (Int.le_refl _) (by omega), tkx ((x + turnK S : Nat) : Int) (by omega) (by omega)]
        congr 2
        unfold other
        rw [hff, show ((x + turnK S : Nat) : Int) = (x : Int) + turnK S by omega]
        cases h1 : S.lt (x + turnK S) <;> cases h2 : S.lt x <;> simp_all
      · have hps := ps_one (P := isT (AA f) (AA g)) (x := x) (u := u) hxT (by omega) fun y hy1 hy2 => notT y hy1 hy2 (by
          rw [before y (by omega) (by omega), before (y - 1) (by omega) (by omega)])
        rw [hps, List.map_append, List.append_assoc]
        congr 1
        congr 1
        unfold leastSec
        rw [if_neg (by rw [hff]; omega), e0, List.map_cons, List.map_cons, tkx x (Int.le_refl _) (by omega)]
        rfl

/-! ### Below -/
/-- The answer that a stretch gives. -/
def hit (s : ST) : Int := if s.lt s.f then s.f else s.f + turnK s
theorem hit_is {s : ST} (h : s.Ok) : s.f ≤ hit s ∧ hit s ≤ s.u ∧ (hit s < s.u → s.lt (hit s) = true) ∧ ∀ z, s.f ≤ z → z < hit s → s.lt z = false := by
  obtain ⟨t1, t2, t3, _, _⟩ := turn_is h
  have := h.fu
  unfold hit
  split
  · rename_i hl
    exact ⟨Int.le_refl _, by omega, fun _ => hl, fun z a b => by omega⟩
  · rename_i hl
    have hl' : s.lt s.f = false := by simpa using hl
    refine ⟨by omega, t1, fun hu => ?_, fun z a b => ?_⟩
    · have := t3 hu
      rw [hl'] at this
      simpa using this
    · have := t2 (z - s.f).toNat (by omega)
      rw [show s.f + ((z - s.f).toNat : Nat) = z by omega, hl'] at this
      exact this
theorem lss_st {l r : List RP} (hl : VR l) (hr : VR r) {hi x z : Int} (h0 : 0 ≤ x) (h1 : x ≤ hi) (h2 : hi ≤ 100000) (hz1 : x ≤ z) (hz2 : z < (stA l r hi x).u) : lss (AA l) (AA r) z = (stA l r hi x).lt z := by
  obtain ⟨_, _, e1, e2, _, _⟩ := stA_const hl hr h0 h1 h2 hz1 hz2
  unfold ST.lt lss
  rw [e1, e2]
/-- No stretch of a list of them gives an answer: then none of the places is below. -/
theorem bel_none {l r : List RP} (hl : VR l) (hr : VR r) {hi : Int} (h2 : hi ≤ 100000) : ∀ (n : Nat) (x : Int), 0 ≤ x → hi + 1 - x ≤ n → (∀ s, s ∈ strs l r hi n x → ¬ hit s < s.u) → ∀ z, x ≤ z → z ≤ hi → lss (AA l) (AA r) z = false
  | 0, x, _, hn, _, z, a, b => by omega
  | n + 1, x, h0, hn, hs, z, a, b => by
    have hx : x ≤ hi := by omega
    rw [strs, if_pos hx] at hs
    have ok := stA_ok hl hr h0 hx h2
    have hff : (stA l r hi x).f = x := rfl
    have hfu := ok.fu
    by_cases hzu : z < (stA l r hi x).u
    · rw [lss_st hl hr h0 hx h2 a hzu]
      have := hs _ List.mem_cons_self
      exact (hit_is ok).2.2.2 z (by omega) (by have := (hit_is ok).2.1; omega)
    · exact bel_none hl hr h2 n _ (by omega) (by omega) (fun s hs' => hs s (List.mem_cons_of_mem _ hs')) z (by omega) b
/-- A beginning of the stretches gives an answer with its last one alone: that is the first place that is below. -/
theorem bel_some {l r : List RP} (hl : VR l) (hr : VR r) {hi : Int} (h2 : hi ≤ 100000) : ∀ (n : Nat) (x : Int) (pre : List ST) (s : ST), 0 ≤ x → hi + 1 - x ≤ n → pre ++ [s] <+: strs l r hi n x → (∀ t, t ∈ pre → ¬ hit t < t.u) → hit s < s.u →
    x ≤ hit s ∧ hit s ≤ hi ∧ lss (AA l) (AA r) (hit s) = true ∧ ∀ z, x ≤ z → z < hit s → lss (AA l) (AA r) z = false
  | 0, x, pre, s, _, _, hp, _, _ => by
    have := hp.length_le
    simp [strs] at this
  | n + 1, x, pre, s, h0, hn, hp, hs, hh => by
    by_cases hx : x ≤ hi
    · rw [strs, if_pos hx] at hp
      have ok := stA_ok hl hr h0 hx h2
      have hff : (stA l r hi x).f = x := rfl
      have hfu := ok.fu
      have hui : (stA l r hi x).u ≤ hi + 1 := by unfold stA; simp only; omega
      cases pre with
      | nil =>
        rw [List.nil_append] at hp
        obtain ⟨q, hq⟩ := hp
        injection hq with hq1 _
        subst hq1
        obtain ⟨i1, i2, i3, i4⟩ := hit_is ok
        refine ⟨by omega, by omega, by rw [lss_st hl hr h0 hx h2 (by omega) hh]; exact i3 hh, fun z a b => ?_⟩
        rw [lss_st hl hr h0 hx h2 a (by omega)]
        exact i4 z (by omega) b
      | cons t pre =>
        rw [List.cons_append] at hp
        obtain ⟨hq1, hq2⟩ := List.cons_prefix_cons.1 hp
        subst hq1
        obtain ⟨i1, i2, i3, i4⟩ := bel_some hl hr h2 n _ pre s (by omega) (by omega) hq2 (fun t' ht => hs t' (List.mem_cons_of_mem _ ht)) hh
        have hno := hs _ List.mem_cons_self
        refine ⟨by omega, i2, i3, fun z a b => ?_⟩
        by_cases hzu : z < (stA l r hi x).u
        · rw [lss_st hl hr h0 hx h2 a hzu]
          exact (hit_is ok).2.2.2 z (by omega) (by have := (hit_is ok).2.1; omega)
        · exact i4 z (by omega) b
    · rw [strs, if_neg hx] at hp
      have := hp.length_le
      simp at this
end Go.Proofs.Ytmjdolgcgbiajaa
