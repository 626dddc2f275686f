/-
  Mathematics of layer 7: what joins, gaps and parts of a source do to its tokens. No program in it.
-/
import Derived.Test.YtoaeceeookknnaaDoorLMath
namespace Go.Proofs.YtoaeceeookknnaaDoor
namespace Lx
variable {V : Nat → Int × Int × Int}

theorem tw_len {p : UInt8 → Bool} : ∀ (w x : List UInt8), ((w ++ x).takeWhile p).length = w.length → w.all p = true ∧ ∀ c, x.head? = some c → p c = false
  | [], x, h => by
    refine ⟨rfl, fun c hc => ?_⟩
    cases x with
    | nil => simp at hc
    | cons d x =>
      simp only [List.head?_cons, Option.some.injEq] at hc
      subst hc
      simp only [List.nil_append, List.takeWhile_cons, List.length_nil] at h
      cases hp : p d with
      | false => rfl
      | true => rw [hp] at h; simp at h
  | d :: w, x, h => by
    rw [List.cons_append, List.takeWhile_cons] at h
    cases hp : p d with
    | false => rw [hp] at h; simp at h
    | true =>
      rw [hp] at h
      simp only [if_true, List.length_cons, Nat.add_right_cancel_iff] at h
      obtain ⟨h1, h2⟩ := tw_len w x h
      exact ⟨by rw [List.all_cons, hp, h1]; rfl, h2⟩
theorem tw_eq {p : UInt8 → Bool} : ∀ (w y : List UInt8), w.all p = true → (∀ c, y.head? = some c → p c = false) → (w ++ y).takeWhile p = w
  | [], y, _, h => by
    cases y with
    | nil => rfl
    | cons d y => rw [List.nil_append, List.takeWhile_cons, h d rfl]; rfl
  | d :: w, y, ha, h => by
    rw [List.all_cons, Bool.and_eq_true] at ha
    rw [List.cons_append, List.takeWhile_cons, ha.1, if_pos rfl, tw_eq w y ha.2 h]
theorem tw_pre {p : UInt8 → Bool} (l : List UInt8) : (l.takeWhile p).length ≤ l.length := (List.takeWhile_prefix p).length_le
theorem tw_take {p : UInt8 → Bool} (l : List UInt8) : l.take (l.takeWhile p).length = l.takeWhile p := (List.prefix_iff_eq_take.1 (List.takeWhile_prefix p)).symm

theorem nx_pos {l : List UInt8} {t : Tok} {n : Nat} (h : nx V l = .ok t n) : 1 ≤ n ∧ n ≤ l.length ∧ t.a = 0 := by
  cases l with
  | nil => simp [nx] at h
  | cons c l =>
    simp only [nx] at h
    split at h
    · rename_i hl
      split at h
      · cases h
      · injection h with h1 h2
        subst h1 h2
        refine ⟨?_, tw_pre _, rfl⟩
        rw [List.takeWhile_cons, (ltr_not c hl).2.2.2]; simp
    · split at h
      · rename_i hd
        split at h
        · split at h
          · injection h with h1 h2
            subst h1 h2
            refine ⟨?_, tw_pre _, rfl⟩
            rw [List.takeWhile_cons, (dgt_not c hd).2.2.2.1]; simp
          · cases h
        · cases h
      · split at h
        · cases h
        · injection h with h1 h2
          subst h1 h2
          exact ⟨by omega, sgn_le _, rfl⟩
/-- What may stand behind a token in the place of x. -/
def Nxt (x y : List UInt8) : Prop := y = [] ∨ (∃ c r, y = c :: r ∧ blk c = true) ∨ y.head? = x.head?
theorem nxt_p {p : UInt8 → Bool} {x y : List UInt8} (hp : ∀ c, blk c = true → p c = false) (h : Nxt x y) (hx : ∀ c, x.head? = some c → p c = false) : ∀ c, y.head? = some c → p c = false := by
  intro c hc
  rcases h with rfl | ⟨d, r, rfl, hd⟩ | h
  · simp at hc
  · simp only [List.head?_cons, Option.some.injEq] at hc; subst hc; exact hp _ hd
  · rw [h] at hc; exact hx c hc
theorem nx_next {w x y : List UInt8} {t : Tok} (h : nx V (w ++ x) = .ok t w.length) (hy : Nxt x y) : nx V (w ++ y) = .ok t w.length := by
  have hpos := (nx_pos h).1
  cases w with
  | nil => simp at hpos
  | cons c w =>
    clear hpos
    rw [List.cons_append] at h ⊢
    simp only [nx] at h ⊢
    split at h
    · rename_i hl
      rw [if_pos hl]
      split at h
      · cases h
      · rename_i h16
        injection h with h1 h2
        rw [← List.cons_append] at h1 h2 h16 ⊢
        obtain ⟨a1, a2⟩ := tw_len (c :: w) x h2
        have e1 := tw_eq (c :: w) x a1 a2
        have e2 := tw_eq (c :: w) y a1 (nxt_p (fun c hc => (blk_lin_wrd c hc).1) hy a2)
        rw [e1] at h1 h16
        rw [e2, if_neg h16, h1]
    · rename_i hl
      rw [if_neg hl]
      split at h
      · rename_i hd
        rw [if_pos hd]
        split at h
        · rename_i hf
          split at h
          · rename_i hv
            injection h with h1 h2
            rw [← List.cons_append] at h1 h2 hf hv ⊢
            obtain ⟨a1, a2⟩ := tw_len (c :: w) x h2
            have e1 := tw_eq (c :: w) x a1 a2
            have e2 := tw_eq (c :: w) y a1 (nxt_p (fun c hc => (blk_lin_wrd c hc).2.1) hy a2)
            rw [e1] at h1 hf hv
            rw [e2, if_pos hf, if_pos hv, h1]
          · cases h
        · cases h
      · rename_i hd
        rw [if_neg hd]
        split at h
        · cases h
        · rename_i h0
          injection h with h1 h2
          have hs : sgn (c :: (w ++ y)) = sgn (c :: (w ++ x)) := by
            have hle := sgn_le2 (c :: (w ++ x))
            rw [h2, List.length_cons] at hle
            cases w with
            | nil =>
              simp only [List.nil_append, List.length_cons, List.length_nil] at h2 ⊢
              have hq : sgn (c :: x) = 1 := by omega
              rw [hq]
              simp only [sgn] at hq ⊢
              by_cases c33 : c.toNat = 33
              · rw [if_pos c33] at hq; split at hq <;> omega
              · rw [if_neg c33] at hq ⊢
                by_cases c6 : c.toNat = 60 ∨ c.toNat = 62
                · rw [if_pos c6] at hq ⊢
                  have hx : x.head? ≠ some 61 := by intro e; rw [if_pos e] at hq; omega
                  rw [if_neg]
                  intro e
                  rcases hy with rfl | ⟨d, r, rfl, hd⟩ | hy
                  · simp at e
                  · simp only [List.head?_cons, Option.some.injEq] at e
                    have := (blk_lin_wrd d hd).2.2.2.2.1
                    rw [e] at this; exact this rfl
                  · rw [hy] at e; exact hx e
                · rw [if_neg c6] at hq ⊢; exact hq
            | cons d w =>
              have : w = [] := by cases w with
                | nil => rfl
                | cons _ _ => simp at hle
              subst this
              simp [sgn]
          rw [hs, if_neg h0, h2]
          congr 1
          rw [h2] at h1
          rw [← h1]
          congr 1
          rw [← List.cons_append, ← List.cons_append, List.take_left, List.take_left]
theorem nx_split {l : List UInt8} {t : Tok} {n : Nat} (h : nx V l = .ok t n) : nx V (l.take n ++ l.drop n) = .ok t (l.take n).length := by
  rw [List.take_append_drop, List.length_take, Nat.min_eq_left (nx_pos h).2.1]; exact h
theorem nxt_app (x z : List UInt8) : Nxt x (x ++ 10 :: z) := by
  cases x with
  | nil => right; left; exact ⟨10, z, rfl, by decide⟩
  | cons c x => right; right; rfl
theorem nxt_take (x : List UInt8) (m : Nat) : Nxt x (x.take m) := by
  cases m with
  | zero => left; rfl
  | succ m => cases x with
    | nil => left; rfl
    | cons c x => right; right; rfl
theorem nx_any {l y : List UInt8} {t : Tok} {n : Nat} (h : nx V l = .ok t n) (hy : Nxt (l.drop n) y) : nx V (l.take n ++ y) = .ok t n := by
  have := nx_next (nx_split h) hy
  rwa [List.length_take, Nat.min_eq_left (nx_pos h).2.1] at this
theorem nx_take {l : List UInt8} {t : Tok} {n m : Nat} (h : nx V l = .ok t n) (hm : n ≤ m) : nx V (l.take m) = .ok t n := by
  have e : l.take m = l.take n ++ (l.drop n).take (m - n) := by
    obtain ⟨k, rfl⟩ : ∃ k, m = n + k := ⟨m - n, by omega⟩
    rw [List.take_add]; congr 2; omega
  rw [e]
  exact nx_any h (nxt_take _ _)

/-! ### Reading on -/
def Res.mv (s : Nat) : Res → Res
  | .er e a => .er e (a + s)
  | .ok l => .ok (l.map (mov s))
theorem mov_mov (i j : Int) (t : Tok) : mov i (mov j t) = mov (j + i) t := by unfold mov; simp only [Int.add_assoc]
theorem lx_mv : ∀ (f i s : Nat) (l : List UInt8), lx V f (i + s) l = (lx V f i l).mv s
  | 0, i, s, l => by
    simp only [lx]; split
    · rfl
    · simp only [Res.mv]; congr 1; omega
  | f + 1, i, s, l => by
    simp only [lx]; split
    · rfl
    · cases hn : nx V (l.drop (gp false l)) with
      | er e => simp only [Res.mv]; congr 1; omega
      | ok t n =>
        simp only []
        rw [show i + s + gp false l + n = i + gp false l + n + s by omega, lx_mv f (i + gp false l + n) s]
        cases lx V f (i + gp false l + n) (l.drop (gp false l + n)) with
        | er e a => rfl
        | ok m =>
          simp only [Res.app, Res.mv, List.map_append, List.map_cons, List.map_nil, mov_mov]
          congr 3
          unfold mov; simp only [Tok.mk.injEq, true_and, and_true]; omega
/-- The ways in which reading on goes well. -/
theorem lx_ok {f i : Nat} {l : List UInt8} {ts : List Tok} (h : lx V f i l = .ok ts) :
    (gp false l = l.length ∧ ts = []) ∨ ∃ f' t n us, f = f' + 1 ∧ gp false l < l.length ∧ nx V (l.drop (gp false l)) = .ok t n ∧ lx V f' (i + gp false l + n) (l.drop (gp false l + n)) = .ok us ∧ ts = mov (i + gp false l : Nat) t :: us := by
  have hle := gp_le l false
  cases f with
  | zero =>
    simp only [lx] at h
    split at h
    · rename_i e; injection h with h; exact Or.inl ⟨e, h.symm⟩
    · cases h
  | succ f =>
    simp only [lx] at h
    split at h
    · rename_i e; injection h with h; exact Or.inl ⟨e, h.symm⟩
    · rename_i e
      right
      cases hn : nx V (l.drop (gp false l)) with
      | er e => rw [hn] at h; cases h
      | ok t n =>
        rw [hn] at h
        simp only [] at h
        cases hr : lx V f (i + gp false l + n) (l.drop (gp false l + n)) with
        | er e a => rw [hr] at h; cases h
        | ok us =>
          rw [hr] at h
          simp only [Res.app, Res.ok.injEq] at h
          exact ⟨f, t, n, us, rfl, by omega, rfl, hr, h.symm⟩
theorem lx_end {f i : Nat} {l : List UInt8} (h : gp false l = l.length) : lx V f i l = .ok [] := by
  cases f <;> simp only [lx, if_pos h]
theorem lx_cons {f i n : Nat} {l : List UInt8} {t : Tok} (h : gp false l < l.length) (hn : nx V (l.drop (gp false l)) = .ok t n) : lx V (f + 1) i l = (lx V f (i + gp false l + n) (l.drop (gp false l + n))).app [mov (i + gp false l : Nat) t] := by
  simp only [lx, if_neg (show ¬ gp false l = l.length by omega), hn]
theorem app_app (a b : List Tok) (R : Res) : (R.app b).app a = R.app (a ++ b) := by cases R <;> simp [Res.app]
theorem app_nil (R : Res) : R.app [] = R := by cases R <;> simp [Res.app]
/-- Two sources with a line feed between them. -/
theorem lx_join : ∀ (f i : Nat) (l : List UInt8) (ts : List Tok) (m : List UInt8), lx V f i l = .ok ts → lx V f i (l ++ 10 :: m) = (lx V (f - ts.length) (i + l.length + 1) m).app ts := by
  intro f
  induction f with
  | zero =>
    intro i l ts m h
    rcases lx_ok h with ⟨hg, rfl⟩ | ⟨f', t, n, us, hf, _⟩
    · have hj := gp_join l false hg m
      have hl : (l ++ 10 :: m).length = l.length + 1 + m.length := by simp; omega
      rw [show (0 : Nat) - ([] : List Tok).length = 0 by rfl]
      simp only [lx, hj, hl, app_nil]
      by_cases e : gp false m = m.length
      · rw [if_pos (by omega), if_pos e]
      · rw [if_neg (by omega), if_neg e]; congr 1; omega
    · omega
  | succ f ih =>
    intro i l ts m h
    rcases lx_ok h with ⟨hg, rfl⟩ | ⟨f', t, n, us, hf, hg, hn, hr, rfl⟩
    · have hj := gp_join l false hg m
      have hl : (l ++ 10 :: m).length = l.length + 1 + m.length := by simp; omega
      have hd : ∀ k, (l ++ 10 :: m).drop (l.length + 1 + k) = m.drop k := by
        intro k
        rw [show l ++ 10 :: m = (l ++ [10]) ++ m by simp, show l.length + 1 + k = (l ++ [10]).length + k by simp, List.drop_append]
        simp [List.drop_eq_nil_of_le]
      simp only [lx, hj, hl, app_nil, List.length_nil, Nat.sub_zero, hd]
      by_cases e : gp false m = m.length
      · rw [if_pos (by omega), if_pos e]
      · rw [if_neg (by omega), if_neg e]
        cases nx V (m.drop (gp false m)) with
        | er e => simp only []; congr 1; omega
        | ok t n =>
          simp only []
          rw [show l.length + 1 + gp false m + n = l.length + 1 + (gp false m + n) by omega, hd, show i + (l.length + 1 + gp false m) + n = i + l.length + 1 + gp false m + n by omega, show i + (l.length + 1 + gp false m) = i + l.length + 1 + gp false m by omega]
    · obtain rfl : f = f' := by omega
      obtain ⟨n1, n2, n3⟩ := nx_pos hn
      rw [List.length_drop] at n2
      have e1 : gp false (l ++ 10 :: m) = gp false l := by
        have := gp_short l [] (10 :: m) false (by rw [List.append_nil]; exact hg)
        rwa [List.append_nil] at this
      have e2 : (l ++ 10 :: m).drop (gp false l) = l.drop (gp false l) ++ 10 :: m := List.drop_append_of_le_length (by omega)
      have e3 : (l ++ 10 :: m).drop (gp false l + n) = l.drop (gp false l + n) ++ 10 :: m := List.drop_append_of_le_length (by omega)
      have hn' : nx V (l.drop (gp false l) ++ 10 :: m) = .ok t n := by
        have := nx_any hn (nxt_app _ m)
        rwa [← List.append_assoc, List.take_append_drop] at this
      have := lx_cons (V := V) (f := f) (i := i) (l := l ++ 10 :: m) (t := t) (n := n) (by rw [e1, List.length_append]; omega) (by rw [e1, e2]; exact hn')
      rw [this, e1, e3, ih _ _ _ m hr, app_app, List.length_drop]
      congr 2
      · simp
      · omega
theorem lx_fuel : ∀ (f i : Nat) (l : List UInt8) (ts : List Tok), lx V f i l = .ok ts → ts.length ≤ f ∧ (∀ f', ts.length ≤ f' → lx V f' i l = .ok ts) ∧ (∀ f', f' < ts.length → ∃ a, lx V f' i l = .er 2 a) := by
  intro f
  induction f with
  | zero =>
    intro i l ts h
    rcases lx_ok h with ⟨hg, rfl⟩ | ⟨f', t, n, us, hf, _⟩
    · exact ⟨by simp, fun f' _ => lx_end hg, fun f' h => by simp at h⟩
    · omega
  | succ f ih =>
    intro i l ts h
    rcases lx_ok h with ⟨hg, rfl⟩ | ⟨f', t, n, us, hf, hg, hn, hr, rfl⟩
    · exact ⟨by simp, fun f' _ => lx_end hg, fun f' h => by simp at h⟩
    · obtain rfl : f = f' := by omega
      obtain ⟨a1, a2, a3⟩ := ih _ _ _ hr
      refine ⟨by simp; omega, fun f' h' => ?_, fun f' h' => ?_⟩
      · obtain ⟨k, rfl⟩ : ∃ k, f' = k + 1 := ⟨f' - 1, by simp at h'; omega⟩
        rw [lx_cons hg hn, a2 k (by simp at h'; omega)]; rfl
      · cases f' with
        | zero => exact ⟨_, by simp only [lx]; rw [if_neg (by omega)]⟩
        | succ k =>
          obtain ⟨a, ha⟩ := a3 k (by simp at h'; omega)
          exact ⟨a, by rw [lx_cons hg hn, ha]; rfl⟩
/-- The part ahead of an error has none. -/
theorem lx_part : ∀ (f i : Nat) (l : List UInt8) (e : Int) (a : Nat), lx V f i l = .er e a → i ≤ a ∧ a < i + l.length ∧ ∃ ts, lx V f i (l.take (a - i)) = .ok ts := by
  intro f
  induction f with
  | zero =>
    intro i l e a h
    have hle := gp_le l false
    simp only [lx] at h
    split at h
    · cases h
    · injection h with h1 h2
      subst h1 h2
      refine ⟨by omega, by omega, [], ?_⟩
      rw [show i + gp false l - i = gp false l by omega]
      exact lx_end (by rw [gp_take l false _ (Nat.le_refl _), List.length_take]; omega)
  | succ f ih =>
    intro i l e a h
    have hle := gp_le l false
    simp only [lx] at h
    split at h
    · cases h
    · rename_i hne
      cases hn : nx V (l.drop (gp false l)) with
      | er e' =>
        rw [hn] at h
        injection h with h1 h2
        subst h1 h2
        refine ⟨by omega, by omega, [], ?_⟩
        rw [show i + gp false l - i = gp false l by omega]
        exact lx_end (by rw [gp_take l false _ (Nat.le_refl _), List.length_take]; omega)
      | ok t n =>
        rw [hn] at h
        simp only [] at h
        obtain ⟨n1, n2, n3⟩ := nx_pos hn
        rw [List.length_drop] at n2
        cases hr : lx V f (i + gp false l + n) (l.drop (gp false l + n)) with
        | ok us => rw [hr] at h; cases h
        | er e' a' =>
          rw [hr] at h
          simp only [Res.app, Res.er.injEq] at h
          obtain ⟨rfl, rfl⟩ := h
          obtain ⟨b1, b2, ts, b3⟩ := ih _ _ _ _ hr
          rw [List.length_drop] at b2
          refine ⟨by omega, by omega, mov (i + gp false l : Nat) t :: ts, ?_⟩
          have e1 : gp false (l.take (a' - i)) = gp false l := by
            have hs := gp_short (l.take (a' - i)) (l.drop (a' - i)) [] false (by rw [List.take_append_drop, List.length_take]; omega)
            rwa [List.append_nil, List.take_append_drop] at hs
          have e2 : (l.take (a' - i)).drop (gp false l) = (l.drop (gp false l)).take (a' - i - gp false l) := List.drop_take
          have e3 : (l.take (a' - i)).drop (gp false l + n) = (l.drop (gp false l + n)).take (a' - (i + gp false l + n)) := by
            rw [List.drop_take]; congr 1; omega
          rw [lx_cons (t := t) (n := n) (by rw [e1, List.length_take]; omega) (by rw [e1, e2]; exact nx_take hn (by omega)), e1, e3, b3]
          rfl
theorem lx_at : ∀ (f i : Nat) (l : List UInt8) (ts : List Tok), lx V f i l = .ok ts → ∀ (j : Nat) (hj : j < ts.length), (i : Int) ≤ ts[j].a ∧ ts[j].a < i + l.length := by
  intro f
  induction f with
  | zero =>
    intro i l ts h j hj
    rcases lx_ok h with ⟨hg, rfl⟩ | ⟨f', t, n, us, hf, _⟩
    · simp at hj
    · omega
  | succ f ih =>
    intro i l ts h j hj
    rcases lx_ok h with ⟨hg, rfl⟩ | ⟨f', t, n, us, hf, hg, hn, hr, rfl⟩
    · simp at hj
    · obtain rfl : f = f' := by omega
      obtain ⟨n1, n2, n3⟩ := nx_pos hn
      rw [List.length_drop] at n2
      cases j with
      | zero => simp only [List.getElem_cons_zero, mov, n3]; omega
      | succ j =>
        have := ih _ _ _ hr j (by simpa using hj)
        rw [List.length_drop] at this
        simp only [List.getElem_cons_succ]; omega
/-- A gap that is put before a token. -/
theorem lx_gap : ∀ (f i : Nat) (l : List UInt8) (ts : List Tok) (g : List UInt8) (k : Nat) (hk : k < ts.length), lx V f i l = .ok ts → Shut g → (g = [] ∨ ∃ c r, g = c :: r ∧ blk c = true) →
    lx V f i (l.take (ts[k].a - i).toNat ++ g ++ l.drop (ts[k].a - i).toNat) = .ok (ts.take k ++ (ts.drop k).map (mov g.length)) := by
  intro f
  induction f with
  | zero =>
    intro i l ts g k hk h
    rcases lx_ok h with ⟨hg, rfl⟩ | ⟨f', t, n, us, hf, _⟩
    · simp at hk
    · omega
  | succ f ih =>
    intro i l ts g k hk h hS hb
    rcases lx_ok h with ⟨hg, rfl⟩ | ⟨f', t, n, us, hf, hg, hn, hr, rfl⟩
    · simp at hk
    · obtain rfl : f = f' := by omega
      obtain ⟨n1, n2, n3⟩ := nx_pos hn
      rw [List.length_drop] at n2
      obtain ⟨d1, d2⟩ := gp_drop l false hg
      cases k with
      | zero =>
        simp only [List.getElem_cons_zero, List.take_zero, List.nil_append, List.drop_zero]
        have ea : ((mov (i + gp false l : Nat) t).a - i).toNat = gp false l := by simp only [mov, n3]; omega
        rw [ea]
        have e1 : gp false (l.take (gp false l) ++ g ++ l.drop (gp false l)) = gp false l + g.length := by
          rw [List.append_assoc, d2, hS, d1]; omega
        have e2 : ∀ k, (l.take (gp false l) ++ g ++ l.drop (gp false l)).drop (gp false l + g.length + k) = l.drop (gp false l + k) := by
          intro k
          rw [List.drop_append, List.drop_append]
          simp only [List.length_append, List.length_take, Nat.min_eq_left (gp_le l false)]
          rw [List.drop_eq_nil_of_le (by rw [List.length_take]; omega), List.drop_eq_nil_of_le (by omega), List.drop_drop]
          simp only [List.nil_append]
          congr 1; omega
        have e3 := e2 0
        simp only [Nat.add_zero] at e3
        rw [lx_cons (t := t) (n := n) (by rw [e1]; simp; omega) (by rw [e1, e3]; exact hn), e1, e2, show i + (gp false l + g.length) + n = i + gp false l + n + g.length by omega, lx_mv, hr]
        simp only [Res.mv, Res.app, List.map_cons, List.cons_append, List.nil_append, mov_mov]
        congr 3
        omega
      | succ k =>
        have hk' : k < us.length := by simpa using hk
        have hat := lx_at _ _ _ _ hr k hk'
        rw [List.length_drop] at hat
        simp only [List.getElem_cons_succ, List.take_succ_cons, List.drop_succ_cons]
        have hi := ih _ _ _ g k hk' hr hS hb
        generalize us[k].a = A at hat hi ⊢
        obtain ⟨q, hq⟩ : ∃ q, q = (A - (i + gp false l + n : Nat)).toNat := ⟨_, rfl⟩
        have hA : (A - i).toNat = gp false l + n + q := by omega
        rw [← hq] at hi
        rw [hA]
        obtain ⟨l', hl'⟩ : ∃ l', l' = l.drop (gp false l + n) := ⟨_, rfl⟩
        rw [← hl'] at hi
        obtain ⟨X, hX⟩ : ∃ X, X = l'.take q ++ g ++ l'.drop q := ⟨_, rfl⟩
        have eL : l.take (gp false l + n + q) ++ g ++ l.drop (gp false l + n + q) = l.take (gp false l) ++ ((l.drop (gp false l)).take n ++ X) := by
          rw [hX, hl', List.drop_drop, List.take_add, List.take_add, List.append_assoc, List.append_assoc, List.append_assoc, List.append_assoc]
        rw [← hX] at hi
        rw [eL]
        have e0 : (l.drop (gp false l)).take n ++ l' = l.drop (gp false l) := by rw [hl', ← List.drop_drop, List.take_append_drop]
        have eg : gp false (l.take (gp false l) ++ ((l.drop (gp false l)).take n ++ X)) = gp false l := by
          rw [d2]
          have : gp false ((l.drop (gp false l)).take n ++ X) = gp false ((l.drop (gp false l)).take n ++ l') :=
            gp_short _ _ _ false (by rw [e0, d1, List.length_take, List.length_drop]; omega)
          rw [this, e0, d1]; rfl
        have ed : ∀ k, (l.take (gp false l) ++ ((l.drop (gp false l)).take n ++ X)).drop (gp false l + k) = ((l.drop (gp false l)).take n ++ X).drop k := by
          intro k
          rw [List.drop_append, List.drop_eq_nil_of_le (by rw [List.length_take]; omega), List.length_take, Nat.min_eq_left (gp_le l false), List.nil_append]
          congr 1; omega
        have ed0 := ed 0
        simp only [Nat.add_zero, List.drop_zero] at ed0
        have en : ((l.drop (gp false l)).take n ++ X).drop n = X := by
          have : ((l.drop (gp false l)).take n).length = n := by rw [List.length_take, List.length_drop]; omega
          rw [List.drop_append, List.drop_eq_nil_of_le (by omega), this]; simp
        have hnx : Nxt ((l.drop (gp false l)).drop n) X := by
          rw [List.drop_drop, ← hl', hX]
          cases q with
          | zero =>
            simp only [List.take_zero, List.nil_append, List.drop_zero]
            rcases hb with rfl | ⟨c, r, rfl, hc⟩
            · right; right; rfl
            · right; left; exact ⟨c, _, rfl, hc⟩
          | succ q =>
            cases l' with
            | nil =>
              simp only [List.take_nil, List.nil_append, List.drop_nil, List.append_nil]
              rcases hb with rfl | ⟨c, r, rfl, hc⟩
              · left; rfl
              · right; left; exact ⟨c, _, rfl, hc⟩
            | cons c l' => right; right; rfl
        rw [lx_cons (t := t) (n := n) (by rw [eg]; simp only [List.length_append, List.length_take, List.length_drop]; omega) (by rw [eg, ed0]; exact nx_any hn hnx), eg, ed, en, hi]
        rfl
end Lx
end Go.Proofs.YtoaeceeookknnaaDoor
