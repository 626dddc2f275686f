/-
  Plain mathematics of reduced fractions: what 'reduce' gives for n divided by d, and that it is the one number with that value. No program, no model.
  Mathematics of layer 7: kinds of bytes, gaps, tokens, and the tokens of a source. No program in it.
  Mathematics of layer 7: what joins, gaps and parts of a source do to its tokens. No program in it.
  Mathematics of the parser: expressions as trees, the grammar as a function on tokens; no program in it.
  Mathematics of the parser: reading needs no more steps than a number that the tokens give; what reading is, as an equation (rd_eq); what is left is an end of what was there.
  Mathematics of the parser: what is behind a text changes nothing, if it can't continue it (rd_app); the places of tokens change nothing (rd_map).
  Mathematics of the parser: sizes and places of expressions; facts, rules and whole by-laws as functions on tokens.
  Mathematics of the parser: declarations are read locally, too; places of tokens change nothing.
  Mathematics of the parser: whole by-laws: errors in order, concatenation, recovery.
  Mathematics of the parser: expressions but for places; what rows of operators, brackets and the other forms are read as.
  Mathematics of the parser: texts whose tokens do not depend on what is behind them.
  Mathematics of the parser: what the texts of the laws on brackets and on order are read as.
  Mathematics of the parser: the pairs of texts of the laws on brackets and on order are read as the same expression.
  Mathematics of the parser: the sources of the tokens of a source; other gaps between them; places in order.
-/
namespace Go.Proofs.YtedbpjcglnkjmaaGreatDoor
namespace Q

/-- What is in lowest terms and within the limits. -/
def Val (n d : Int) : Prop := -1000000000 ≤ n ∧ n ≤ 1000000000 ∧ 1 ≤ d ∧ d ≤ 1000000000 ∧ Nat.gcd n.natAbs d.natAbs = 1

/-- n divided by d in lowest terms, if it lies within the limits. -/
def red (n d : Int) : Option (Int × Int) :=
  if n.natAbs / Nat.gcd n.natAbs d.natAbs > 1000000000 ∨ d.natAbs / Nat.gcd n.natAbs d.natAbs > 1000000000 then none
  else if n < 0 ↔ d < 0 then some (((n.natAbs / Nat.gcd n.natAbs d.natAbs : Nat) : Int), ((d.natAbs / Nat.gcd n.natAbs d.natAbs : Nat) : Int))
  else some (-((n.natAbs / Nat.gcd n.natAbs d.natAbs : Nat) : Int), ((d.natAbs / Nat.gcd n.natAbs d.natAbs : Nat) : Int))

theorem parts (n d : Int) (hd : d ≠ 0) : ∃ g x y : Nat, 0 < g ∧ g = Nat.gcd n.natAbs d.natAbs ∧ n.natAbs = x * g ∧ d.natAbs = y * g ∧ Nat.gcd x y = 1 ∧ 0 < y ∧
    n.natAbs / Nat.gcd n.natAbs d.natAbs = x ∧ d.natAbs / Nat.gcd n.natAbs d.natAbs = y := by
  have hg : 0 < Nat.gcd n.natAbs d.natAbs := Nat.gcd_pos_of_pos_right _ (by omega)
  obtain ⟨x, hx⟩ := Nat.gcd_dvd_left n.natAbs d.natAbs
  obtain ⟨y, hy⟩ := Nat.gcd_dvd_right n.natAbs d.natAbs
  have ex : n.natAbs / Nat.gcd n.natAbs d.natAbs = x := Nat.div_eq_of_eq_mul_right hg hx
  have ey : d.natAbs / Nat.gcd n.natAbs d.natAbs = y := Nat.div_eq_of_eq_mul_right hg hy
  refine ⟨_, x, y, hg, rfl, by rw [Nat.mul_comm]; exact hx, by rw [Nat.mul_comm]; exact hy, ?_, ?_, ex, ey⟩
  · have h := Nat.gcd_mul_left (Nat.gcd n.natAbs d.natAbs) x y
    rw [← hx, ← hy] at h
    have h1 : Nat.gcd n.natAbs d.natAbs * Nat.gcd x y = Nat.gcd n.natAbs d.natAbs * 1 := by rw [← h, Nat.mul_one]
    exact Nat.eq_of_mul_eq_mul_left hg h1
  · rcases Nat.eq_zero_or_pos y with h | h
    · rw [h] at hy; omega
    · exact h

theorem red_val {n d p q : Int} (hd : d ≠ 0) (h : red n d = some (p, q)) : Val p q ∧ n * q = p * d := by
  obtain ⟨g, x, y, hg, _, hx, hy, hxy, hy0, ex, ey⟩ := parts n d hd
  unfold red at h
  rw [ex, ey] at h
  split at h
  · cases h
  · rename_i hle
    have hn : n = x * g ∨ n = -((x : Int) * g) := by
      have : ((x * g : Nat) : Int) = (x : Int) * g := Int.natCast_mul x g
      omega
    have hd' : d = y * g ∨ d = -((y : Int) * g) := by
      have : ((y * g : Nat) : Int) = (y : Int) * g := Int.natCast_mul y g
      omega
    have hgz : (0 : Int) < g := by omega
    have hyz : (0 : Int) < y := by omega
    have hxz : (0 : Int) ≤ x := by omega
    have hyg : (0 : Int) < (y : Int) * g := Int.mul_pos hyz hgz
    have hxg : (0 : Int) ≤ (x : Int) * g := Int.mul_nonneg hxz (by omega)
    split at h
    · rename_i hs
      obtain ⟨rfl, rfl⟩ : (x : Int) = p ∧ (y : Int) = q := by simpa using h
      refine ⟨⟨by omega, by omega, by omega, by omega, by simpa using hxy⟩, ?_⟩
      rcases hn with hn | hn <;> rcases hd' with hd' | hd'
      · rw [hn, hd']; grind
      · exfalso; have h1 : ¬ n < 0 := by omega
        have h2 : d < 0 := by omega
        exact h1 (hs.2 h2)
      · by_cases hx0 : (x : Int) = 0
        · rw [hn, hx0]; simp
        · exfalso
          have : (0 : Int) < (x : Int) * g := Int.mul_pos (by omega) hgz
          have h1 : n < 0 := by omega
          have h2 : ¬ d < 0 := by omega
          exact h2 (hs.1 h1)
      · rw [hn, hd']; grind
    · rename_i hs
      obtain ⟨rfl, rfl⟩ : -(x : Int) = p ∧ (y : Int) = q := by simpa using h
      refine ⟨⟨by omega, by omega, by omega, by omega, by simpa using hxy⟩, ?_⟩
      rcases hn with hn | hn <;> rcases hd' with hd' | hd'
      · exfalso; exact hs ⟨fun _ => by omega, fun _ => by omega⟩
      · rw [hn, hd']; grind
      · rw [hn, hd']; grind
      · by_cases hx0 : (x : Int) = 0
        · rw [hn, hx0]; simp
        · exfalso
          have : (0 : Int) < (x : Int) * g := Int.mul_pos (by omega) hgz
          exact hs ⟨fun _ => by omega, fun _ => by omega⟩

theorem red_of {n d p q : Int} (hd : d ≠ 0) (hv : Val p q) (h : n * q = p * d) : red n d = some (p, q) := by
  obtain ⟨v1, v2, v3, v4, v5⟩ := hv
  have e : n.natAbs * q.natAbs = p.natAbs * d.natAbs := by rw [← Int.natAbs_mul, ← Int.natAbs_mul, h]
  have hq : q.natAbs ∣ d.natAbs := by
    have h1 : q.natAbs ∣ p.natAbs * d.natAbs := ⟨n.natAbs, by rw [← e, Nat.mul_comm]⟩
    exact Nat.Coprime.dvd_of_dvd_mul_left (by rw [Nat.Coprime, Nat.gcd_comm]; exact v5) h1
  obtain ⟨k, hk⟩ := hq
  have hk0 : 0 < k := by
    rcases Nat.eq_zero_or_pos k with h | h
    · rw [h] at hk; omega
    · exact h
  have hn : n.natAbs = p.natAbs * k := by
    have : n.natAbs * q.natAbs = (p.natAbs * k) * q.natAbs := by rw [e, hk]; grind
    exact Nat.eq_of_mul_eq_mul_right (by omega) this
  have hg : Nat.gcd n.natAbs d.natAbs = k := by
    rw [hn, hk, Nat.gcd_mul_right, v5, Nat.one_mul]
  have ex : n.natAbs / Nat.gcd n.natAbs d.natAbs = p.natAbs := by rw [hg, hn]; exact Nat.mul_div_cancel _ hk0
  have ey : d.natAbs / Nat.gcd n.natAbs d.natAbs = q.natAbs := by rw [hg, hk]; exact Nat.mul_div_cancel _ hk0
  unfold red
  rw [ex, ey, if_neg (by omega)]
  have hqz : (q.natAbs : Int) = q := by omega
  have hq0 : 0 < q := by omega
  rcases Int.lt_trichotomy p 0 with hp | hp | hp
  · have hs : ¬ (n < 0 ↔ d < 0) := by
      intro hs
      rcases Int.lt_trichotomy d 0 with h1 | h1 | h1
      · have a := Int.mul_pos_of_neg_of_neg hp h1
        have b := Int.mul_neg_of_neg_of_pos (hs.2 h1) hq0
        omega
      · exact hd h1
      · have a := Int.mul_neg_of_neg_of_pos hp h1
        have h2 : ¬ n < 0 := fun x => by have := hs.1 x; omega
        have b := Int.mul_nonneg (by omega : 0 ≤ n) (by omega : 0 ≤ q)
        omega
    rw [if_neg hs]
    simp only [Option.some.injEq, Prod.mk.injEq]; omega
  · subst hp
    split <;> (simp only [Option.some.injEq, Prod.mk.injEq]; omega)
  · have hs : n < 0 ↔ d < 0 := by
      rcases Int.lt_trichotomy d 0 with h1 | h1 | h1
      · refine ⟨fun _ => h1, fun _ => ?_⟩
        have a := Int.mul_neg_of_pos_of_neg hp h1
        rcases Int.lt_or_le n 0 with h2 | h2
        · exact h2
        · have b := Int.mul_nonneg h2 (by omega : 0 ≤ q); omega
      · exact absurd h1 hd
      · refine ⟨fun h2 => ?_, fun h2 => by omega⟩
        have a := Int.mul_pos hp h1
        have b := Int.mul_neg_of_neg_of_pos h2 hq0
        omega
    rw [if_pos hs]
    simp only [Option.some.injEq, Prod.mk.injEq]; omega

/-- Two numbers in lowest terms with one value are one. -/
theorem val_one {p q r s : Int} (h1 : Val p q) (h2 : Val r s) (h : p * s = r * q) : p = r ∧ q = s := by
  have a := red_of (n := p) (d := q) (by have := h1.2.2.1; omega) h1 rfl
  have b := red_of (n := p) (d := q) (by have := h1.2.2.1; omega) h2 h
  rw [a] at b
  simpa using b

/-- What is multiplied above and below has the same reduced form. -/
theorem red_mul {n d k : Int} (hd : d ≠ 0) (hk : k ≠ 0) : red (k * n) (k * d) = red n d := by
  have hkd : k * d ≠ 0 := Int.mul_ne_zero hk hd
  cases h : red n d with
  | some r =>
    obtain ⟨p, q⟩ := r
    obtain ⟨hv, e⟩ := red_val hd h
    exact red_of hkd hv (by grind)
  | none =>
    cases h' : red (k * n) (k * d) with
    | none => rfl
    | some r =>
      obtain ⟨p, q⟩ := r
      obtain ⟨hv, e⟩ := red_val hkd h'
      have : n * q = p * d := Int.eq_of_mul_eq_mul_left hk (by grind)
      rw [red_of hd hv this] at h; cases h

/-! The sums of three numbers. -/
theorem sub_add {an ad bn bd p q : Int} (ha : Val an ad) (hb : Val bn bd) (h : red (an * bd + bn * ad) (ad * bd) = some (p, q)) : red (p * bd - bn * q) (q * bd) = some (an, ad) := by
  have h1 := ha.2.2.1
  have h2 := hb.2.2.1
  obtain ⟨hv, e⟩ := red_val (Int.mul_ne_zero (by omega) (by omega)) h
  have h3 := hv.2.2.1
  exact red_of (Int.mul_ne_zero (by omega) (by omega)) ha (by grind)

theorem add_assoc {an ad bn bd cn cd p q r s t u v x : Int} (ha : Val an ad) (hb : Val bn bd) (hc : Val cn cd)
    (h1 : red (an * bd + bn * ad) (ad * bd) = some (p, q)) (h2 : red (bn * cd + cn * bd) (bd * cd) = some (r, s))
    (h3 : red (p * cd + cn * q) (q * cd) = some (t, u)) (h4 : red (an * s + r * ad) (ad * s) = some (v, x)) : t = v ∧ u = x := by
  have a0 := ha.2.2.1
  have b0 := hb.2.2.1
  have c0 := hc.2.2.1
  obtain ⟨v1, e1⟩ := red_val (Int.mul_ne_zero (by omega) (by omega)) h1
  have q0 := v1.2.2.1
  obtain ⟨v2, e2⟩ := red_val (Int.mul_ne_zero (by omega) (by omega)) h2
  have s0 := v2.2.2.1
  obtain ⟨v3, e3⟩ := red_val (Int.mul_ne_zero (by omega) (by omega)) h3
  have u0 := v3.2.2.1
  obtain ⟨v4, e4⟩ := red_val (Int.mul_ne_zero (by omega) (by omega)) h4
  have x0 := v4.2.2.1
  refine val_one v3 v4 ?_
  have k1 : t * (ad * bd * cd) = (an * bd * cd + bn * ad * cd + cn * ad * bd) * u := Int.eq_of_mul_eq_mul_left (a := q) (by omega) (by grind)
  have k2 : v * (ad * bd * cd) = (an * bd * cd + bn * ad * cd + cn * ad * bd) * x := Int.eq_of_mul_eq_mul_left (a := s) (by omega) (by grind)
  have hD : ad * bd * cd ≠ 0 := Int.mul_ne_zero (Int.mul_ne_zero (by omega) (by omega)) (by omega)
  exact Int.eq_of_mul_eq_mul_left hD (by grind)
end Q
end Go.Proofs.YtedbpjcglnkjmaaGreatDoor
namespace Go.Proofs.YtedbpjcglnkjmaaGreatDoor
namespace Lx

/-! ### Kinds of bytes -/
def ltr (c : UInt8) : Bool := decide (97 ≤ c.toNat) && decide (c.toNat ≤ 122)
def dgt (c : UInt8) : Bool := decide (48 ≤ c.toNat) && decide (c.toNat ≤ 57)
def wrd (c : UInt8) : Bool := ltr c || dgt c || decide (c.toNat = 95)
def nmb (c : UInt8) : Bool := wrd c || decide (c.toNat = 46)
def lin (c : UInt8) : Bool := decide (c.toNat ≠ 10)
def blk (c : UInt8) : Bool := decide (c.toNat = 32) || decide (c.toNat = 9) || decide (c.toNat = 10) || decide (c.toNat = 13)
theorem all_bytes {p : UInt8 → Prop} (h : ∀ k : Fin 256, p (UInt8.ofNat k.val)) (c : UInt8) : p c := by
  have := h ⟨c.toNat, c.toNat_lt⟩
  simpa using this
theorem blk_lin_wrd : ∀ c : UInt8, blk c = true → wrd c = false ∧ nmb c = false ∧ ltr c = false ∧ dgt c = false ∧ c.toNat ≠ 61 ∧ c.toNat ≠ 35 :=
  all_bytes (by decide +kernel)
theorem ltr_not : ∀ c : UInt8, ltr c = true → blk c = false ∧ c.toNat ≠ 35 ∧ dgt c = false ∧ wrd c = true := all_bytes (by decide +kernel)
theorem dgt_not : ∀ c : UInt8, dgt c = true → blk c = false ∧ c.toNat ≠ 35 ∧ ltr c = false ∧ nmb c = true ∧ c.toNat ≠ 46 := all_bytes (by decide +kernel)

/-! ### Gaps -/
/-- The length of the gap with which bytes begin; the first argument: within a comment. -/
def gp : Bool → List UInt8 → Nat
  | _, [] => 0
  | true, c :: l => if c.toNat = 10 then 1 + gp false l else 1 + gp true l
  | false, c :: l => if c.toNat = 35 then 1 + gp true l else if blk c = true then 1 + gp false l else 0
theorem gp_le : ∀ (l : List UInt8) (b : Bool), gp b l ≤ l.length
  | [], b => by cases b <;> simp [gp]
  | c :: l, true => by
    have h1 := gp_le l false; have h2 := gp_le l true
    simp only [gp, List.length_cons]; split <;> omega
  | c :: l, false => by
    have h1 := gp_le l false; have h2 := gp_le l true
    simp only [gp, List.length_cons]; split
    · omega
    · split <;> omega
theorem gp_take : ∀ (l : List UInt8) (b : Bool) (k : Nat), k ≤ gp b l → gp b (l.take k) = k
  | [], b, k, h => by cases b <;> simp [gp] at h ⊢ <;> omega
  | c :: l, b, 0, h => by cases b <;> simp [gp]
  | c :: l, true, k + 1, h => by
    simp only [gp, List.take_succ_cons] at h ⊢
    split at h
    · rename_i e; rw [if_pos e, gp_take l false k (by omega)]; omega
    · rename_i e; rw [if_neg e, gp_take l true k (by omega)]; omega
  | c :: l, false, k + 1, h => by
    simp only [gp, List.take_succ_cons] at h ⊢
    split at h
    · rename_i e; rw [if_pos e, gp_take l true k (by omega)]; omega
    · rename_i e
      rw [if_neg e]
      split at h
      · rename_i e2; rw [if_pos e2, gp_take l false k (by omega)]; omega
      · omega
/-- Behind a gap that ends before something, what stands there is in no gap. -/
theorem gp_drop : ∀ (l : List UInt8) (b : Bool), gp b l < l.length → gp false (l.drop (gp b l)) = 0 ∧ ∀ x, gp b (l.take (gp b l) ++ x) = gp b l + gp false x
  | [], b, h => by simp at h
  | c :: l, true, h => by
    simp only [gp, List.length_cons] at h ⊢
    split at h
    · rename_i e
      obtain ⟨h1, h2⟩ := gp_drop l false (by omega)
      rw [if_pos e, Nat.add_comm 1, List.drop_succ_cons, List.take_succ_cons]
      refine ⟨h1, fun x => ?_⟩
      rw [List.cons_append, gp, if_pos e, h2]; omega
    · rename_i e
      obtain ⟨h1, h2⟩ := gp_drop l true (by omega)
      rw [if_neg e, Nat.add_comm 1, List.drop_succ_cons, List.take_succ_cons]
      refine ⟨h1, fun x => ?_⟩
      rw [List.cons_append, gp, if_neg e, h2]; omega
  | c :: l, false, h => by
    simp only [gp, List.length_cons] at h ⊢
    split at h
    · rename_i e
      obtain ⟨h1, h2⟩ := gp_drop l true (by omega)
      rw [if_pos e, Nat.add_comm 1, List.drop_succ_cons, List.take_succ_cons]
      refine ⟨h1, fun x => ?_⟩
      rw [List.cons_append, gp, if_pos e, h2]; omega
    · rename_i e
      rw [if_neg e]
      split at h
      · rename_i e2
        obtain ⟨h1, h2⟩ := gp_drop l false (by omega)
        rw [if_pos e2, Nat.add_comm 1, List.drop_succ_cons, List.take_succ_cons]
        refine ⟨h1, fun x => ?_⟩
        rw [List.cons_append, gp, if_neg e, if_pos e2, h2]; omega
      · rename_i e2
        rw [if_neg e2]
        refine ⟨?_, fun x => ?_⟩
        · simp only [List.drop_zero, gp]; rw [if_neg e, if_neg e2]
        · simp
/-- A line feed ends every gap. -/
theorem gp_join : ∀ (l : List UInt8) (b : Bool), gp b l = l.length → ∀ x, gp b (l ++ 10 :: x) = l.length + 1 + gp false x
  | [], b, _, x => by
    cases b
    · simp only [List.nil_append, gp]; rw [if_neg (by decide), if_pos (by decide)]; simp
    · simp only [List.nil_append, gp]; rw [if_pos (by decide)]; simp
  | c :: l, true, h, x => by
    simp only [gp, List.length_cons, List.cons_append] at h ⊢
    split at h
    · rename_i e; rw [if_pos e, gp_join l false (by omega)]; omega
    · rename_i e; rw [if_neg e, gp_join l true (by omega)]; omega
  | c :: l, false, h, x => by
    simp only [gp, List.length_cons, List.cons_append] at h ⊢
    split at h
    · rename_i e; rw [if_pos e, gp_join l true (by omega)]; omega
    · rename_i e
      rw [if_neg e]
      split at h
      · rename_i e2; rw [if_pos e2, gp_join l false (by omega)]; omega
      · omega
/-- What comes ahead of something that is in no gap, is the same whatever comes behind. -/
theorem gp_short : ∀ (l x y : List UInt8) (b : Bool), gp b (l ++ x) < l.length → gp b (l ++ y) = gp b (l ++ x)
  | [], _, _, _, h => by simp at h
  | c :: l, x, y, true, h => by
    simp only [gp, List.length_cons, List.cons_append] at h ⊢
    split at h
    · rename_i e; rw [if_pos e, if_pos e, gp_short l x y false (by omega)]
    · rename_i e; rw [if_neg e, if_neg e, gp_short l x y true (by omega)]
  | c :: l, x, y, false, h => by
    simp only [gp, List.length_cons, List.cons_append] at h ⊢
    split at h
    · rename_i e; rw [if_pos e, if_pos e, gp_short l x y true (by omega)]
    · rename_i e
      rw [if_neg e, if_neg e]
      split at h
      · rename_i e2; rw [if_pos e2, if_pos e2, gp_short l x y false (by omega)]
      · rename_i e2; rw [if_neg e2, if_neg e2]
/-- A gap that ends, whatever comes behind it. -/
def Shut (g : List UInt8) : Prop := ∀ x, gp false (g ++ x) = g.length + gp false x

/-! ### Signs -/
def isS1 (c : UInt8) : Bool := [123, 125, 40, 41, 59, 44, 58, 43, 45, 42, 47, 61].contains c.toNat
/-- The length of the sign with which bytes begin. -/
def sgn : List UInt8 → Nat
  | [] => 0
  | c :: l =>
    if c.toNat = 33 then (if l.head? = some 61 then 2 else 0)
    else if c.toNat = 60 ∨ c.toNat = 62 then (if l.head? = some 61 then 2 else 1)
    else if isS1 c = true then 1 else 0
theorem sgn_le (l : List UInt8) : sgn l ≤ l.length := by
  cases l with
  | nil => simp [sgn]
  | cons c l =>
    have h : l.head? = some 61 → 1 ≤ l.length := by
      intro h; cases l with
      | nil => simp at h
      | cons _ _ => simp
    simp only [sgn, List.length_cons]
    split
    · split
      · have := h (by assumption); omega
      · omega
    · split
      · split
        · have := h (by assumption); omega
        · omega
      · split <;> omega
theorem sgn_le2 (l : List UInt8) : sgn l ≤ 2 := by
  cases l with
  | nil => simp [sgn]
  | cons c l => simp only [sgn]; repeat' split
                all_goals omega
theorem isS1_not : ∀ c : UInt8, isS1 c = true → blk c = false ∧ c.toNat ≠ 35 ∧ ltr c = false ∧ dgt c = false := all_bytes (by decide +kernel)

/-! ### Numbers -/
/-- The value of decimal digits. -/
def valD (l : List UInt8) : Nat := l.foldl (fun a c => a * 10 + (c.toNat - 48)) 0
def allD (l : List UInt8) : Bool := l.all dgt
/-- Digits, at least one and at most k of them. -/
def digs (l : List UInt8) (k : Nat) : Bool := decide (l ≠ []) && decide (l.length ≤ k) && allD l
/-- The part before the first point, and what comes behind it. -/
def whole (l : List UInt8) : List UInt8 := l.takeWhile (fun c => decide (c.toNat ≠ 46))
def behind (l : List UInt8) : List UInt8 := l.dropWhile (fun c => decide (c.toNat ≠ 46))
/-- Is it a number's form? -/
def frm (l : List UInt8) : Bool := digs (whole l) 9 && (decide (behind l = []) || digs (behind l).tail 2)
/-- The hundredths of a number that has the form. -/
def hun (l : List UInt8) : Nat := valD (whole l ++ ((behind l).tail ++ [48, 48]).take 2)

/-! ### Tokens -/
structure Tok where
  k : Int
  a : Int
  t : List UInt8
  n : Int
  d : Int
/-- What a source begins with: an error, or a token (at 0) and its length. -/
inductive Nx where
  | er (e : Int)
  | ok (t : Tok) (n : Nat)
/-- The token with which bytes begin that are in no gap; V: what a number of hundredths is (numerator, denominator, error). -/
def nx (V : Nat → Int × Int × Int) : List UInt8 → Nx
  | [] => .er 0
  | c :: l =>
    if ltr c = true then
      (if 16 < ((c :: l).takeWhile wrd).length then .er 2 else .ok ⟨1, 0, (c :: l).takeWhile wrd, 0, 0⟩ ((c :: l).takeWhile wrd).length)
    else if dgt c = true then
      (if frm ((c :: l).takeWhile nmb) = true then
        (if (V (hun ((c :: l).takeWhile nmb))).2.2 = 0 then .ok ⟨2, 0, [], (V (hun ((c :: l).takeWhile nmb))).1, (V (hun ((c :: l).takeWhile nmb))).2.1⟩ ((c :: l).takeWhile nmb).length else .er 3)
        else .er 8)
    else if sgn (c :: l) = 0 then .er 10 else .ok ⟨3, 0, (c :: l).take (sgn (c :: l)), 0, 0⟩ (sgn (c :: l))

def mov (i : Int) (t : Tok) : Tok := { t with a := t.a + i }
inductive Res where
  | er (e : Int) (a : Nat)
  | ok (l : List Tok)
def Res.app (l : List Tok) : Res → Res
  | .er e a => .er e a
  | .ok m => .ok (l ++ m)
/-- Reads on: f tokens may still come, i is the offset. -/
def lx (V : Nat → Int × Int × Int) : Nat → Nat → List UInt8 → Res
  | 0, i, l => if gp false l = l.length then .ok [] else .er 2 (i + gp false l)
  | f + 1, i, l =>
    if gp false l = l.length then .ok [] else
    match nx V (l.drop (gp false l)) with
    | .er e => .er e (i + gp false l)
    | .ok t n => (lx V f (i + gp false l + n) (l.drop (gp false l + n))).app [mov (i + gp false l : Nat) t]
/-- What Lex returns. -/
def lex (V : Nat → Int × Int × Int) (l : List UInt8) : Res := if 8000 < l.length then .er 2 0 else lx V 2000 0 l
end Lx
end Go.Proofs.YtedbpjcglnkjmaaGreatDoor
namespace Go.Proofs.YtedbpjcglnkjmaaGreatDoor
namespace Lx
variable {V : Nat → Int × Int × Int}

theorem tw_len {p : UInt8 → Bool} : ∀ (w x : List UInt8), ((w ++ x).takeWhile p).length = w.length → w.all p = true ∧ ∀ c, x.head? = some c → p c = false
  | [], x, h => by
    refine ⟨rfl, fun c hc => ?_⟩
    cases x with
    | nil => simp at hc
    | cons d x =>
      simp only [List.head?_cons, Option.some.injEq] at hc
      subst hc
      simp only [List.nil_append, List.takeWhile_cons, List.length_nil] at h
      cases hp : p d with
      | false => rfl
      | true => rw [hp] at h; simp at h
  | d :: w, x, h => by
    rw [List.cons_append, List.takeWhile_cons] at h
    cases hp : p d with
    | false => rw [hp] at h; simp at h
    | true =>
      rw [hp] at h
      simp only [if_true, List.length_cons, Nat.add_right_cancel_iff] at h
      obtain ⟨h1, h2⟩ := tw_len w x h
      exact ⟨by rw [List.all_cons, hp, h1]; rfl, h2⟩
theorem tw_eq {p : UInt8 → Bool} : ∀ (w y : List UInt8), w.all p = true → (∀ c, y.head? = some c → p c = false) → (w ++ y).takeWhile p = w
  | [], y, _, h => by
    cases y with
    | nil => rfl
    | cons d y => rw [List.nil_append, List.takeWhile_cons, h d rfl]; rfl
  | d :: w, y, ha, h => by
    rw [List.all_cons, Bool.and_eq_true] at ha
    rw [List.cons_append, List.takeWhile_cons, ha.1, if_pos rfl, tw_eq w y ha.2 h]
theorem tw_pre {p : UInt8 → Bool} (l : List UInt8) : (l.takeWhile p).length ≤ l.length := (List.takeWhile_prefix p).length_le
theorem tw_take {p : UInt8 → Bool} (l : List UInt8) : l.take (l.takeWhile p).length = l.takeWhile p := (List.prefix_iff_eq_take.1 (List.takeWhile_prefix p)).symm

theorem nx_pos {l : List UInt8} {t : Tok} {n : Nat} (h : nx V l = .ok t n) : 1 ≤ n ∧ n ≤ l.length ∧ t.a = 0 := by
  cases l with
  | nil => simp [nx] at h
  | cons c l =>
    simp only [nx] at h
    split at h
    · rename_i hl
      split at h
      · cases h
      · injection h with h1 h2
        subst h1 h2
        refine ⟨?_, tw_pre _, rfl⟩
        rw [List.takeWhile_cons, (ltr_not c hl).2.2.2]; simp
    · split at h
      · rename_i hd
        split at h
        · split at h
          · injection h with h1 h2
            subst h1 h2
            refine ⟨?_, tw_pre _, rfl⟩
            rw [List.takeWhile_cons, (dgt_not c hd).2.2.2.1]; simp
          · cases h
        · cases h
      · split at h
        · cases h
        · injection h with h1 h2
          subst h1 h2
          exact ⟨by omega, sgn_le _, rfl⟩
/-- What may stand behind a token in the place of x. -/
def Nxt (x y : List UInt8) : Prop := y = [] ∨ (∃ c r, y = c :: r ∧ blk c = true) ∨ y.head? = x.head?
theorem nxt_p {p : UInt8 → Bool} {x y : List UInt8} (hp : ∀ c, blk c = true → p c = false) (h : Nxt x y) (hx : ∀ c, x.head? = some c → p c = false) : ∀ c, y.head? = some c → p c = false := by
  intro c hc
  rcases h with rfl | ⟨d, r, rfl, hd⟩ | h
  · simp at hc
  · simp only [List.head?_cons, Option.some.injEq] at hc; subst hc; exact hp _ hd
  · rw [h] at hc; exact hx c hc
theorem nx_next {w x y : List UInt8} {t : Tok} (h : nx V (w ++ x) = .ok t w.length) (hy : Nxt x y) : nx V (w ++ y) = .ok t w.length := by
  have hpos := (nx_pos h).1
  cases w with
  | nil => simp at hpos
  | cons c w =>
    clear hpos
    rw [List.cons_append] at h ⊢
    simp only [nx] at h ⊢
    split at h
    · rename_i hl
      rw [if_pos hl]
      split at h
      · cases h
      · rename_i h16
        injection h with h1 h2
        rw [← List.cons_append] at h1 h2 h16 ⊢
        obtain ⟨a1, a2⟩ := tw_len (c :: w) x h2
        have e1 := tw_eq (c :: w) x a1 a2
        have e2 := tw_eq (c :: w) y a1 (nxt_p (fun c hc => (blk_lin_wrd c hc).1) hy a2)
        rw [e1] at h1 h16
        rw [e2, if_neg h16, h1]
    · rename_i hl
      rw [if_neg hl]
      split at h
      · rename_i hd
        rw [if_pos hd]
        split at h
        · rename_i hf
          split at h
          · rename_i hv
            injection h with h1 h2
            rw [← List.cons_append] at h1 h2 hf hv ⊢
            obtain ⟨a1, a2⟩ := tw_len (c :: w) x h2
            have e1 := tw_eq (c :: w) x a1 a2
            have e2 := tw_eq (c :: w) y a1 (nxt_p (fun c hc => (blk_lin_wrd c hc).2.1) hy a2)
            rw [e1] at h1 hf hv
            rw [e2, if_pos hf, if_pos hv, h1]
          · cases h
        · cases h
      · rename_i hd
        rw [if_neg hd]
        split at h
        · cases h
        · rename_i h0
          injection h with h1 h2
          have hs : sgn (c :: (w ++ y)) = sgn (c :: (w ++ x)) := by
            have hle := sgn_le2 (c :: (w ++ x))
            rw [h2, List.length_cons] at hle
            cases w with
            | nil =>
              simp only [List.nil_append, List.length_cons, List.length_nil] at h2 ⊢
              have hq : sgn (c :: x) = 1 := by omega
              rw [hq]
              simp only [sgn] at hq ⊢
              by_cases c33 : c.toNat = 33
              · rw [if_pos c33] at hq; split at hq <;> omega
              · rw [if_neg c33] at hq ⊢
                by_cases c6 : c.toNat = 60 ∨ c.toNat = 62
                · rw [if_pos c6] at hq ⊢
                  have hx : x.head? ≠ some 61 := by intro e; rw [if_pos e] at hq; omega
                  rw [if_neg]
                  intro e
                  rcases hy with rfl | ⟨d, r, rfl, hd⟩ | hy
                  · simp at e
                  · simp only [List.head?_cons, Option.some.injEq] at e
                    have := (blk_lin_wrd d hd).2.2.2.2.1
                    rw [e] at this; exact this rfl
                  · rw [hy] at e; exact hx e
                · rw [if_neg c6] at hq ⊢; exact hq
            | cons d w =>
              have : w = [] := by cases w with
                | nil => rfl
                | cons _ _ => simp at hle
              subst this
              simp [sgn]
          rw [hs, if_neg h0, h2]
          congr 1
          rw [h2] at h1
          rw [← h1]
          congr 1
          rw [← List.cons_append, ← List.cons_append, List.take_left, List.take_left]
theorem nx_split {l : List UInt8} {t : Tok} {n : Nat} (h : nx V l = .ok t n) : nx V (l.take n ++ l.drop n) = .ok t (l.take n).length := by
  rw [List.take_append_drop, List.length_take, Nat.min_eq_left (nx_pos h).2.1]; exact h
theorem nxt_app (x z : List UInt8) : Nxt x (x ++ 10 :: z) := by
  cases x with
  | nil => right; left; exact ⟨10, z, rfl, by decide⟩
  | cons c x => right; right; rfl
theorem nxt_take (x : List UInt8) (m : Nat) : Nxt x (x.take m) := by
  cases m with
  | zero => left; rfl
  | succ m => cases x with
    | nil => left; rfl
    | cons c x => right; right; rfl
theorem nx_any {l y : List UInt8} {t : Tok} {n : Nat} (h : nx V l = .ok t n) (hy : Nxt (l.drop n) y) : nx V (l.take n ++ y) = .ok t n := by
  have := nx_next (nx_split h) hy
  rwa [List.length_take, Nat.min_eq_left (nx_pos h).2.1] at this
theorem nx_take {l : List UInt8} {t : Tok} {n m : Nat} (h : nx V l = .ok t n) (hm : n ≤ m) : nx V (l.take m) = .ok t n := by
  have e : l.take m = l.take n ++ (l.drop n).take (m - n) := by
    obtain ⟨k, rfl⟩ : ∃ k, m = n + k := ⟨m - n, by omega⟩
    rw [List.take_add]; congr 2; omega
  rw [e]
  exact nx_any h (nxt_take _ _)

/-! ### Reading on -/
def Res.mv (s : Nat) : Res → Res
  | .er e a => .er e (a + s)
  | .ok l => .ok (l.map (mov s))
theorem mov_mov (i j : Int) (t : Tok) : mov i (mov j t) = mov (j + i) t := by unfold mov; simp only [Int.add_assoc]
theorem lx_mv : ∀ (f i s : Nat) (l : List UInt8), lx V f (i + s) l = (lx V f i l).mv s
  | 0, i, s, l => by
    simp only [lx]; split
    · rfl
    · simp only [Res.mv]; congr 1; omega
  | f + 1, i, s, l => by
    simp only [lx]; split
    · rfl
    · cases hn : nx V (l.drop (gp false l)) with
      | er e => simp only [Res.mv]; congr 1; omega
      | ok t n =>
        simp only []
        rw [show i + s + gp false l + n = i + gp false l + n + s by omega, lx_mv f (i + gp false l + n) s]
        cases lx V f (i + gp false l + n) (l.drop (gp false l + n)) with
        | er e a => rfl
        | ok m =>
          simp only [Res.app, Res.mv, List.map_append, List.map_cons, List.map_nil, mov_mov]
          congr 3
          unfold mov; simp only [Tok.mk.injEq, true_and, and_true]; omega
/-- The ways in which reading on goes well. -/
theorem lx_ok {f i : Nat} {l : List UInt8} {ts : List Tok} (h : lx V f i l = .ok ts) :
    (gp false l = l.length ∧ ts = []) ∨ ∃ f' t n us, f = f' + 1 ∧ gp false l < l.length ∧ nx V (l.drop (gp false l)) = .ok t n ∧ lx V f' (i + gp false l + n) (l.drop (gp false l + n)) = .ok us ∧ ts = mov (i + gp false l : Nat) t :: us := by
  have hle := gp_le l false
  cases f with
  | zero =>
    simp only [lx] at h
    split at h
    · rename_i e; injection h with h; exact Or.inl ⟨e, h.symm⟩
    · cases h
  | succ f =>
    simp only [lx] at h
    split at h
    · rename_i e; injection h with h; exact Or.inl ⟨e, h.symm⟩
    · rename_i e
      right
      cases hn : nx V (l.drop (gp false l)) with
      | er e => rw [hn] at h; cases h
      | ok t n =>
        rw [hn] at h
        simp only [] at h
        cases hr : lx V f (i + gp false l + n) (l.drop (gp false l + n)) with
        | er e a => rw [hr] at h; cases h
        | ok us =>
          rw [hr] at h
          simp only [Res.app, Res.ok.injEq] at h
          exact ⟨f, t, n, us, rfl, by omega, rfl, hr, h.symm⟩
theorem lx_end {f i : Nat} {l : List UInt8} (h : gp false l = l.length) : lx V f i l = .ok [] := by
  cases f <;> simp only [lx, if_pos h]
theorem lx_cons {f i n : Nat} {l : List UInt8} {t : Tok} (h : gp false l < l.length) (hn : nx V (l.drop (gp false l)) = .ok t n) : lx V (f + 1) i l = (lx V f (i + gp false l + n) (l.drop (gp false l + n))).app [mov (i + gp false l : Nat) t] := by
  simp only [lx, if_neg (show ¬ gp false l = l.length by omega), hn]
theorem app_app (a b : List Tok) (R : Res) : (R.app b).app a = R.app (a ++ b) := by cases R <;> simp [Res.app]
theorem app_nil (R : Res) : R.app [] = R := by cases R <;> simp [Res.app]
/-- Two sources with a line feed between them. -/
theorem lx_join : ∀ (f i : Nat) (l : List UInt8) (ts : List Tok) (m : List UInt8), lx V f i l = .ok ts → lx V f i (l ++ 10 :: m) = (lx V (f - ts.length) (i + l.length + 1) m).app ts := by
  intro f
  induction f with
  | zero =>
    intro i l ts m h
    rcases lx_ok h with ⟨hg, rfl⟩ | ⟨f', t, n, us, hf, _⟩
    · have hj := gp_join l false hg m
      have hl : (l ++ 10 :: m).length = l.length + 1 + m.length := by simp; omega
      rw [show (0 : Nat) - ([] : List Tok).length = 0 by rfl]
      simp only [lx, hj, hl, app_nil]
      by_cases e : gp false m = m.length
      · rw [if_pos (by omega), if_pos e]
      · rw [if_neg (by omega), if_neg e]; congr 1; omega
    · omega
  | succ f ih =>
    intro i l ts m h
    rcases lx_ok h with ⟨hg, rfl⟩ | ⟨f', t, n, us, hf, hg, hn, hr, rfl⟩
    · have hj := gp_join l false hg m
      have hl : (l ++ 10 :: m).length = l.length + 1 + m.length := by simp; omega
      have hd : ∀ k, (l ++ 10 :: m).drop (l.length + 1 + k) = m.drop k := by
        intro k
        rw [show l ++ 10 :: m = (l ++ [10]) ++ m by simp, show l.length + 1 + k = (l ++ [10]).length + k by simp, List.drop_append]
        simp [List.drop_eq_nil_of_le]
      simp only [lx, hj, hl, app_nil, List.length_nil, Nat.sub_zero, hd]
      by_cases e : gp false m = m.length
      · rw [if_pos (by omega), if_pos e]
      · rw [if_neg (by omega), if_neg e]
        cases nx V (m.drop (gp false m)) with
        | er e => simp only []; congr 1; omega
        | ok t n =>
          simp only []
          rw [show l.length + 1 + gp false m + n = l.length + 1 + (gp false m + n) by omega, hd, show i + (l.length + 1 + gp false m) + n = i + l.length + 1 + gp false m + n by omega, show i + (l.length + 1 + gp false m) = i + l.length + 1 + gp false m by omega]
    · obtain rfl : f = f' := by omega
      obtain ⟨n1, n2, n3⟩ := nx_pos hn
      rw [List.length_drop] at n2
      have e1 : gp false (l ++ 10 :: m) = gp false l := by
        have := gp_short l [] (10 :: m) false (by rw [List.append_nil]; exact hg)
        rwa [List.append_nil] at this
      have e2 : (l ++ 10 :: m).drop (gp false l) = l.drop (gp false l) ++ 10 :: m := List.drop_append_of_le_length (by omega)
      have e3 : (l ++ 10 :: m).drop (gp false l + n) = l.drop (gp false l + n) ++ 10 :: m := List.drop_append_of_le_length (by omega)
      have hn' : nx V (l.drop (gp false l) ++ 10 :: m) = .ok t n := by
        have := nx_any hn (nxt_app _ m)
        rwa [← List.append_assoc, List.take_append_drop] at this
      have := lx_cons (V := V) (f := f) (i := i) (l := l ++ 10 :: m) (t := t) (n := n) (by rw [e1, List.length_append]; omega) (by rw [e1, e2]; exact hn')
      rw [this, e1, e3, ih _ _ _ m hr, app_app, List.length_drop]
      congr 2
      · simp
      · omega
theorem lx_fuel : ∀ (f i : Nat) (l : List UInt8) (ts : List Tok), lx V f i l = .ok ts → ts.length ≤ f ∧ (∀ f', ts.length ≤ f' → lx V f' i l = .ok ts) ∧ (∀ f', f' < ts.length → ∃ a, lx V f' i l = .er 2 a) := by
  intro f
  induction f with
  | zero =>
    intro i l ts h
    rcases lx_ok h with ⟨hg, rfl⟩ | ⟨f', t, n, us, hf, _⟩
    · exact ⟨by simp, fun f' _ => lx_end hg, fun f' h => by simp at h⟩
    · omega
  | succ f ih =>
    intro i l ts h
    rcases lx_ok h with ⟨hg, rfl⟩ | ⟨f', t, n, us, hf, hg, hn, hr, rfl⟩
    · exact ⟨by simp, fun f' _ => lx_end hg, fun f' h => by simp at h⟩
    · obtain rfl : f = f' := by omega
      obtain ⟨a1, a2, a3⟩ := ih _ _ _ hr
      refine ⟨by simp; omega, fun f' h' => ?_, fun f' h' => ?_⟩
      · obtain ⟨k, rfl⟩ : ∃ k, f' = k + 1 := ⟨f' - 1, by simp at h'; omega⟩
        rw [lx_cons hg hn, a2 k (by simp at h'; omega)]; rfl
      · cases f' with
        | zero => exact ⟨_, by simp only [lx]; rw [if_neg (by omega)]⟩
        | succ k =>
          obtain ⟨a, ha⟩ := a3 k (by simp at h'; omega)
          exact ⟨a, by rw [lx_cons hg hn, ha]; rfl⟩
/-- The part ahead of an error has none. -/
theorem lx_part : ∀ (f i : Nat) (l : List UInt8) (e : Int) (a : Nat), lx V f i l = .er e a → i ≤ a ∧ a < i + l.length ∧ ∃ ts, lx V f i (l.take (a - i)) = .ok ts := by
  intro f
  induction f with
  | zero =>
    intro i l e a h
    have hle := gp_le l false
    simp only [lx] at h
    split at h
    · cases h
    · injection h with h1 h2
      subst h1 h2
      refine ⟨by omega, by omega, [], ?_⟩
      rw [show i + gp false l - i = gp false l by omega]
      exact lx_end (by rw [gp_take l false _ (Nat.le_refl _), List.length_take]; omega)
  | succ f ih =>
    intro i l e a h
    have hle := gp_le l false
    simp only [lx] at h
    split at h
    · cases h
    · rename_i hne
      cases hn : nx V (l.drop (gp false l)) with
      | er e' =>
        rw [hn] at h
        injection h with h1 h2
        subst h1 h2
        refine ⟨by omega, by omega, [], ?_⟩
        rw [show i + gp false l - i = gp false l by omega]
        exact lx_end (by rw [gp_take l false _ (Nat.le_refl _), List.length_take]; omega)
      | ok t n =>
        rw [hn] at h
        simp only [] at h
        obtain ⟨n1, n2, n3⟩ := nx_pos hn
        rw [List.length_drop] at n2
        cases hr : lx V f (i + gp false l + n) (l.drop (gp false l + n)) with
        | ok us => rw [hr] at h; cases h
        | er e' a' =>
          rw [hr] at h
          simp only [Res.app, Res.er.injEq] at h
          obtain ⟨rfl, rfl⟩ := h
          obtain ⟨b1, b2, ts, b3⟩ := ih _ _ _ _ hr
          rw [List.length_drop] at b2
          refine ⟨by omega, by omega, mov (i + gp false l : Nat) t :: ts, ?_⟩
          have e1 : gp false (l.take (a' - i)) = gp false l := by
            have hs := gp_short (l.take (a' - i)) (l.drop (a' - i)) [] false (by rw [List.take_append_drop, List.length_take]; omega)
            rwa [List.append_nil, List.take_append_drop] at hs
          have e2 : (l.take (a' - i)).drop (gp false l) = (l.drop (gp false l)).take (a' - i - gp false l) := List.drop_take
          have e3 : (l.take (a' - i)).drop (gp false l + n) = (l.drop (gp false l + n)).take (a' - (i + gp false l + n)) := by
            rw [List.drop_take]; congr 1; omega
          rw [lx_cons (t := t) (n := n) (by rw [e1, List.length_take]; omega) (by rw [e1, e2]; exact nx_take hn (by omega)), e1, e3, b3]
          rfl
theorem lx_at : ∀ (f i : Nat) (l : List UInt8) (ts : List Tok), lx V f i l = .ok ts → ∀ (j : Nat) (hj : j < ts.length), (i : Int) ≤ ts[j].a ∧ ts[j].a < i + l.length := by
  intro f
  induction f with
  | zero =>
    intro i l ts h j hj
    rcases lx_ok h with ⟨hg, rfl⟩ | ⟨f', t, n, us, hf, _⟩
    · simp at hj
    · omega
  | succ f ih =>
    intro i l ts h j hj
    rcases lx_ok h with ⟨hg, rfl⟩ | ⟨f', t, n, us, hf, hg, hn, hr, rfl⟩
    · simp at hj
    · obtain rfl : f = f' := by omega
      obtain ⟨n1, n2, n3⟩ := nx_pos hn
      rw [List.length_drop] at n2
      cases j with
      | zero => simp only [List.getElem_cons_zero, mov, n3]; omega
      | succ j =>
        have := ih _ _ _ hr j (by simpa using hj)
        rw [List.length_drop] at this
        simp only [List.getElem_cons_succ]; omega
/-- A gap that is put before a token. -/
theorem lx_gap : ∀ (f i : Nat) (l : List UInt8) (ts : List Tok) (g : List UInt8) (k : Nat) (hk : k < ts.length), lx V f i l = .ok ts → Shut g → (g = [] ∨ ∃ c r, g = c :: r ∧ blk c = true) →
    lx V f i (l.take (ts[k].a - i).toNat ++ g ++ l.drop (ts[k].a - i).toNat) = .ok (ts.take k ++ (ts.drop k).map (mov g.length)) := by
  intro f
  induction f with
  | zero =>
    intro i l ts g k hk h
    rcases lx_ok h with ⟨hg, rfl⟩ | ⟨f', t, n, us, hf, _⟩
    · simp at hk
    · omega
  | succ f ih =>
    intro i l ts g k hk h hS hb
    rcases lx_ok h with ⟨hg, rfl⟩ | ⟨f', t, n, us, hf, hg, hn, hr, rfl⟩
    · simp at hk
    · obtain rfl : f = f' := by omega
      obtain ⟨n1, n2, n3⟩ := nx_pos hn
      rw [List.length_drop] at n2
      obtain ⟨d1, d2⟩ := gp_drop l false hg
      cases k with
      | zero =>
        simp only [List.getElem_cons_zero, List.take_zero, List.nil_append, List.drop_zero]
        have ea : ((mov (i + gp false l : Nat) t).a - i).toNat = gp false l := by simp only [mov, n3]; omega
        rw [ea]
        have e1 : gp false (l.take (gp false l) ++ g ++ l.drop (gp false l)) = gp false l + g.length := by
          rw [List.append_assoc, d2, hS, d1]; omega
        have e2 : ∀ k, (l.take (gp false l) ++ g ++ l.drop (gp false l)).drop (gp false l + g.length + k) = l.drop (gp false l + k) := by
          intro k
          rw [List.drop_append, List.drop_append]
          simp only [List.length_append, List.length_take, Nat.min_eq_left (gp_le l false)]
          rw [List.drop_eq_nil_of_le (by rw [List.length_take]; omega), List.drop_eq_nil_of_le (by omega), List.drop_drop]
          simp only [List.nil_append]
          congr 1; omega
        have e3 := e2 0
        simp only [Nat.add_zero] at e3
        rw [lx_cons (t := t) (n := n) (by rw [e1]; simp; omega) (by rw [e1, e3]; exact hn), e1, e2, show i + (gp false l + g.length) + n = i + gp false l + n + g.length by omega, lx_mv, hr]
        simp only [Res.mv, Res.app, List.map_cons, List.cons_append, List.nil_append, mov_mov]
        congr 3
        omega
      | succ k =>
        have hk' : k < us.length := by simpa using hk
        have hat := lx_at _ _ _ _ hr k hk'
        rw [List.length_drop] at hat
        simp only [List.getElem_cons_succ, List.take_succ_cons, List.drop_succ_cons]
        have hi := ih _ _ _ g k hk' hr hS hb
        generalize us[k].a = A at hat hi ⊢
        obtain ⟨q, hq⟩ : ∃ q, q = (A - (i + gp false l + n : Nat)).toNat := ⟨_, rfl⟩
        have hA : (A - i).toNat = gp false l + n + q := by omega
        rw [← hq] at hi
        rw [hA]
        obtain ⟨l', hl'⟩ : ∃ l', l' = l.drop (gp false l + n) := ⟨_, rfl⟩
        rw [← hl'] at hi
        obtain ⟨X, hX⟩ : ∃ X, X = l'.take q ++ g ++ l'.drop q := ⟨_, rfl⟩
        have eL : l.take (gp false l + n + q) ++ g ++ l.drop (gp false l + n + q) = l.take (gp false l) ++ ((l.drop (gp false l)).take n ++ X) := by
          rw [hX, hl', List.drop_drop, List.take_add, List.take_add, List.append_assoc, List.append_assoc, List.append_assoc, List.append_assoc]
        rw [← hX] at hi
        rw [eL]
        have e0 : (l.drop (gp false l)).take n ++ l' = l.drop (gp false l) := by rw [hl', ← List.drop_drop, List.take_append_drop]
        have eg : gp false (l.take (gp false l) ++ ((l.drop (gp false l)).take n ++ X)) = gp false l := by
          rw [d2]
          have : gp false ((l.drop (gp false l)).take n ++ X) = gp false ((l.drop (gp false l)).take n ++ l') :=
            gp_short _ _ _ false (by rw [e0, d1, List.length_take, List.length_drop]; omega)
          rw [this, e0, d1]; rfl
        have ed : ∀ k, (l.take (gp false l) ++ ((l.drop (gp false l)).take n ++ X)).drop (gp false l + k) = ((l.drop (gp false l)).take n ++ X).drop k := by
          intro k
          rw [List.drop_append, List.drop_eq_nil_of_le (by rw [List.length_take]; omega), List.length_take, Nat.min_eq_left (gp_le l false), List.nil_append]
          congr 1; omega
        have ed0 := ed 0
        simp only [Nat.add_zero, List.drop_zero] at ed0
        have en : ((l.drop (gp false l)).take n ++ X).drop n = X := by
          have : ((l.drop (gp false l)).take n).length = n := by rw [List.length_take, List.length_drop]; omega
          rw [List.drop_append, List.drop_eq_nil_of_le (by omega), this]; simp
        have hnx : Nxt ((l.drop (gp false l)).drop n) X := by
          rw [List.drop_drop, ← hl', hX]
          cases q with
          | zero =>
            simp only [List.take_zero, List.nil_append, List.drop_zero]
            rcases hb with rfl | ⟨c, r, rfl, hc⟩
            · right; right; rfl
            · right; left; exact ⟨c, _, rfl, hc⟩
          | succ q =>
            cases l' with
            | nil =>
              simp only [List.take_nil, List.nil_append, List.drop_nil, List.append_nil]
              rcases hb with rfl | ⟨c, r, rfl, hc⟩
              · left; rfl
              · right; left; exact ⟨c, _, rfl, hc⟩
            | cons c l' => right; right; rfl
        rw [lx_cons (t := t) (n := n) (by rw [eg]; simp only [List.length_append, List.length_take, List.length_drop]; omega) (by rw [eg, ed0]; exact nx_any hn hnx), eg, ed, en, hi]
        rfl
end Lx
end Go.Proofs.YtedbpjcglnkjmaaGreatDoor
namespace Go.Proofs.YtedbpjcglnkjmaaGreatDoor
namespace Pa
open Lx

def kAbout : List UInt8 := [97, 98, 111, 117, 116]
def kAnd : List UInt8 := [97, 110, 100]
def kArea : List UInt8 := [97, 114, 101, 97]
def kDays : List UInt8 := [100, 97, 121, 115]
def kElse : List UInt8 := [101, 108, 115, 101]
def kFlag : List UInt8 := [102, 108, 97, 103]
def kFrom : List UInt8 := [102, 114, 111, 109]
def kGive : List UInt8 := [103, 105, 118, 101]
def kIf : List UInt8 := [105, 102]
def kKnown : List UInt8 := [107, 110, 111, 119, 110]
def kMax : List UInt8 := [109, 97, 120]
def kMin : List UInt8 := [109, 105, 110]
def kMoney : List UInt8 := [109, 111, 110, 101, 121]
def kNot : List UInt8 := [110, 111, 116]
def kNumber : List UInt8 := [110, 117, 109, 98, 101, 114]
def kOr : List UInt8 := [111, 114]
def kThen : List UInt8 := [116, 104, 101, 110]
def kTo : List UInt8 := [116, 111]
def kTrue : List UInt8 := [116, 114, 117, 101]
def kUntil : List UInt8 := [117, 110, 116, 105, 108]
def kWhen : List UInt8 := [119, 104, 101, 110]
def kFact : List UInt8 := [102, 97, 99, 116]
def sLp : List UInt8 := [40]
def sRp : List UInt8 := [41]
def sCm : List UInt8 := [44]
def sSc : List UInt8 := [59]
def sCo : List UInt8 := [58]
def sEq : List UInt8 := [61]
def sNe : List UInt8 := [33, 61]
def sLt : List UInt8 := [60]
def sLe : List UInt8 := [60, 61]
def sGt : List UInt8 := [62]
def sGe : List UInt8 := [62, 61]
def sAdd : List UInt8 := [43]
def sSub : List UInt8 := [45]
def sMul : List UInt8 := [42]
def sDiv : List UInt8 := [47]
/-- The reserved words; the kinds of rules; the units; each in the order of the document. -/
def reserved : List (List UInt8) := [kAbout, kAnd, kArea, kDays, kElse, kFlag, kFrom, kGive, kIf, kKnown, kMax, kMin, kMoney, kNot, kNumber, kOr, kThen, kTo, kTrue, kUntil, kWhen]
def kinds : List (List UInt8) := [[99, 104, 97, 114, 103, 101], [114, 105, 103, 104, 116], [100, 117, 116, 121], [98, 97, 110], [114, 111, 111, 109, 115], [118, 111, 116, 101], [110, 111, 116, 105, 99, 101]]
def units : List (List UInt8) := [kFlag, kNumber, kMoney, kArea, kDays]

/-- An expression: operator, place (how many tokens there are from its first one on), name, number, unit (its index), operands. -/
inductive Tree where
  | mk (op : Int) (pl : Nat) (name : List UInt8) (n d : Int) (u : Nat) (kids : List Tree)
/-- What reading gives: a value and the tokens that are left, or an error, its place, and how many tokens are left. -/
inductive Out (α : Type) where
  | ok (x : α) (r : List Tok)
  | er (e : Int) (k m : Nat)
def Out.bind {α β : Type} (x : Out α) (f : α → List Tok → Out β) : Out β := match x with
  | .ok a r => f a r
  | .er e k m => .er e k m
@[simp] theorem bind_ok {α β : Type} (a : α) (r : List Tok) (f : α → List Tok → Out β) : (Out.ok a r).bind f = f a r := rfl
@[simp] theorem bind_er {α β : Type} (e : Int) (k m : Nat) (f : α → List Tok → Out β) : (Out.er e k m : Out α).bind f = .er e k m := rfl

/-- Is the token this word or sign, a number, a name? -/
def isT (s : List UInt8) (t : Tok) : Bool := decide (t.k ≠ 2) && t.t == s
def isW (s : List UInt8) (ts : List Tok) : Bool := match ts with | t :: _ => isT s t | [] => false
def isN (ts : List Tok) : Bool := match ts with | t :: _ => decide (t.k = 2) | [] => false
def isA (ts : List Tok) : Bool := match ts with | t :: _ => decide (t.k = 1) && !(reserved.contains t.t) && !(t.t == sSc) | [] => false
def bad {α : Type} (ts : List Tok) : Out α := .er 10 ts.length ts.length
def need (s : List UInt8) (ts : List Tok) : Out Unit := if isW s ts then .ok () ts.tail else bad ts
/-- The index of the next token among some words. -/
def whichI : List (List UInt8) → List Tok → Nat → Option Nat
  | [], _, _ => none
  | s :: l, ts, i => if isW s ts then some i else whichI l ts (i + 1)
def which (l : List (List UInt8)) (ts : List Tok) : Option Nat := whichI l ts 0
/-- The signs of a level of the grammar (0 or, 1 and, 3 comparison, 4 sum, 5 term), and their operators. -/
def signs : Nat → List (List UInt8)
  | 0 => [kOr]
  | 1 => [kAnd]
  | 3 => [sEq, sNe, sLt, sLe, sGt, sGe]
  | 4 => [sAdd, sSub]
  | _ => [sMul, sDiv]
def ops : Nat → List Int
  | 0 => [14]
  | 1 => [13]
  | 3 => [9, 10, 11, 12, 11, 12]
  | 4 => [3, 4]
  | _ => [5, 6]

inductive Job where
  | ex
  | row (l : Nat)
  | loop (l pl : Nat) (n : Tree)
variable (M : Int → Int → Int × Int × Int)
/-- A factor; ex: how an expression is read. -/
def factor (ex : List Tok → Out Tree) (ts : List Tok) : Out Tree :=
  match ts with
  | [] => bad []
  | t :: r =>
    if t.k = 2 then
      (match which units r with
      | none => .ok (.mk 1 (r.length + 1) [] t.n t.d 1 []) r
      | some u => if u = 2 then (if (M t.n t.d).2.2 = 0 then .ok (.mk 1 (r.length + 1) [] (M t.n t.d).1 (M t.n t.d).2.1 2 []) r.tail else .er 3 (r.length + 1) (r.length - 1))
        else .ok (.mk 1 (r.length + 1) [] t.n t.d u []) r.tail)
    else if isA (t :: r) then .ok (.mk 2 (r.length + 1) t.t 0 0 1 []) r
    else if isT kTrue t then .ok (.mk 17 (r.length + 1) [] 0 0 1 []) r
    else if isT sLp t then (ex r).bind fun n r => (need sRp r).bind fun _ r => .ok n r
    else match which [kMin, kMax] (t :: r) with
      | none => bad (t :: r)
      | some o => (need sLp r).bind fun _ r1 => (ex r1).bind fun a r2 => (need sCm r2).bind fun _ r3 => (ex r3).bind fun b r4 => (need sRp r4).bind fun _ r5 => .ok (.mk (7 + o) (r.length + 1) [] 0 0 1 [a, b]) r5
/-- One step of the grammar; rec: how the parts are read. -/
def step (rec : Job → List Tok → Out Tree) : Job → List Tok → Out Tree
  | .ex, ts => if isW kIf ts then
      (rec .ex ts.tail).bind fun a r1 => (need kThen r1).bind fun _ r2 => (rec .ex r2).bind fun b r3 => (need kElse r3).bind fun _ r4 => (rec .ex r4).bind fun c r5 => .ok (.mk 16 ts.length [] 0 0 1 [a, b, c]) r5
    else rec (.row 0) ts
  | .row l, ts =>
    if 6 ≤ l then factor M (rec .ex) ts
    else if l = 2 then (if isW kNot ts then (rec (.row 2) ts.tail).bind fun n r => .ok (.mk 15 ts.length [] 0 0 1 [n]) r else rec (.row 3) ts)
    else (rec (.row (l + 1)) ts).bind fun n r => rec (.loop l ts.length n) r
  | .loop l pl n, ts => match which (signs l) ts with
    | none => .ok n ts
    | some i => (rec (.row (l + 1)) ts.tail).bind fun m r =>
      if l = 3 then .ok (.mk ((ops l).getD i 0) pl [] 0 0 1 (if 3 < i then [m, n] else [n, m])) r
      else rec (.loop l pl (.mk ((ops l).getD i 0) pl [] 0 0 1 [n, m])) r
def run : Nat → Job → List Tok → Out Tree
  | 0 => fun _ _ => .er 0 0 0
  | f + 1 => step M (run f)
end Pa
end Go.Proofs.YtedbpjcglnkjmaaGreatDoor
namespace Go.Proofs.YtedbpjcglnkjmaaGreatDoor
namespace Pa
open Lx

section
variable {α β : Type}
/-- No steps were left, or the same. -/
def Out.le (x y : Out α) : Prop := (∃ k m, x = .er 0 k m) ∨ x = y
theorem le_rfl' (x : Out α) : x.le x := .inr rfl
theorem le_tr {x y z : Out α} (h : x.le y) (k : y.le z) : x.le z := by
  rcases h with ⟨a, b, h⟩ | rfl
  · exact .inl ⟨a, b, h⟩
  · exact k
theorem le_bind {x y : Out α} {f g : α → List Tok → Out β} (hx : x.le y) (hf : ∀ a r, (f a r).le (g a r)) : (x.bind f).le (y.bind g) := by
  rcases hx with ⟨k, m, rfl⟩ | rfl
  · exact .inl ⟨k, m, rfl⟩
  · cases x with
    | ok a r => exact hf a r
    | er e k m => exact le_rfl' _
/-- No semicolon among them. -/
def Free (ts : List Tok) : Prop := ∀ t ∈ ts, isT sSc t = false
theorem free_nil : Free [] := fun t h => by cases h
theorem free_app {a b : List Tok} (h : Free a) (k : Free b) : Free (a ++ b) := fun t ht => by
  rw [List.mem_append] at ht
  exact ht.elim (h t) (k t)
/-- What is left is an end of what was there, shorter if s, and no semicolon was read; an error is one, and lies in it. -/
def Good (ts : List Tok) (s : Bool) : Out α → Prop
  | .ok _ r => ∃ pre, ts = pre ++ r ∧ (s = true → pre ≠ []) ∧ Free pre
  | .er e k m => (e = 2 ∨ e = 3 ∨ e = 10) ∧ k ≤ ts.length ∧ m ≤ k ∧ ∃ pre q, ts = pre ++ q ∧ q.length = m ∧ Free pre
theorem Good.len {ts r : List Tok} {s : Bool} {a : α} (h : Good ts s (.ok a r)) : r.length ≤ ts.length ∧ (s = true → r.length < ts.length) := by
  obtain ⟨pre, rfl, hp, -⟩ := h
  refine ⟨by simp, fun e => ?_⟩
  have := hp e
  cases pre with
  | nil => exact absurd rfl this
  | cons x y => simp; omega
theorem good_bind' {ts : List Tok} {s s' : Bool} {x : Out α} {f : α → List Tok → Out β} (hx : Good ts s x) (hf : ∀ a r, x = .ok a r → r.length ≤ ts.length → (s = true → r.length < ts.length) → Good r s' (f a r)) : Good ts (s || s') (x.bind f) := by
  cases x with
  | er e k m => exact hx
  | ok a r =>
    have h := hf a r rfl hx.len.1 hx.len.2
    obtain ⟨pre, rfl, hp, fp⟩ := hx
    show Good _ _ (f a r)
    generalize f a r = o at *
    cases o with
    | er e k m =>
      obtain ⟨h1, h2, h3, p2, q, rfl, hq, fq⟩ := h
      exact ⟨h1, by rw [List.length_append]; omega, h3, pre ++ p2, q, by simp, hq, free_app fp fq⟩
    | ok b r2 =>
      obtain ⟨q, rfl, hq, fq⟩ := h
      refine ⟨pre ++ q, by simp, fun e => ?_, free_app fp fq⟩
      rw [Bool.or_eq_true] at e
      rcases e with e | e
      · intro h; exact hp e (List.append_eq_nil_iff.1 h).1
      · intro h; exact hq e (List.append_eq_nil_iff.1 h).2
theorem good_bind {ts : List Tok} {s s' : Bool} {x : Out α} {f : α → List Tok → Out β} (hx : Good ts s x) (hf : ∀ a r, r.length ≤ ts.length → (s = true → r.length < ts.length) → Good r s' (f a r)) : Good ts (s || s') (x.bind f) := good_bind' hx fun a r _ => hf a r
theorem free_cons {t : Tok} {r : List Tok} (h : isT sSc t = false) (k : Free r) : Free (t :: r) := fun x hx => by
  rw [List.mem_cons] at hx
  rcases hx with rfl | hx
  · exact h
  · exact k x hx
theorem good_cons {t : Tok} {r : List Tok} {s : Bool} {o : Out α} (ht : isT sSc t = false) (h : Good r s o) : Good (t :: r) true o := by
  cases o with
  | er e k m =>
    obtain ⟨h1, h2, h3, p2, q, rfl, hq, fq⟩ := h
    exact ⟨h1, by simp at h2 ⊢; omega, h3, t :: p2, q, rfl, hq, free_cons ht fq⟩
  | ok b r2 =>
    obtain ⟨q, rfl, hq, fq⟩ := h
    exact ⟨t :: q, rfl, fun _ => by simp, free_cons ht fq⟩
theorem good_weak {ts : List Tok} {s s' : Bool} {o : Out α} (h : Good ts s o) (k : s' = true → s = true) : Good ts s' o := by
  cases o with
  | er e k m => exact h
  | ok b r2 => obtain ⟨q, rfl, hq, fq⟩ := h; exact ⟨q, rfl, fun e => hq (k e), fq⟩
theorem good_ret (a : α) (r : List Tok) : Good r false (.ok a r) := ⟨[], rfl, by simp, free_nil⟩
theorem good_bad (ts : List Tok) (s : Bool) : Good ts s (bad ts : Out α) := ⟨.inr (.inr rfl), Nat.le_refl _, Nat.le_refl _, [], ts, rfl, rfl, free_nil⟩
/-- Another word or sign is no semicolon. -/
theorem isT_ne {s : List UInt8} {t : Tok} (h : isT s t = true) (hs : s ≠ sSc) : isT sSc t = false := by
  unfold isT at h ⊢
  rw [Bool.and_eq_true, beq_iff_eq] at h
  rw [h.2]
  have : (s == sSc) = false := by simpa using hs
  rw [this, Bool.and_false]
theorem isT_num {t : Tok} (h : t.k = 2) : isT sSc t = false := by unfold isT; rw [decide_eq_false (by simp [h]), Bool.false_and]
theorem isA_free {t : Tok} {r : List Tok} (h : isA (t :: r) = true) : isT sSc t = false := by
  unfold isA at h
  simp only [Bool.and_eq_true, Bool.not_eq_true'] at h
  unfold isT
  rw [h.2, Bool.and_false]
end
theorem isW_cons {s : List UInt8} {ts : List Tok} (h : isW s ts = true) : ∃ t r, ts = t :: r := by
  cases ts with
  | nil => cases h
  | cons t r => exact ⟨t, r, rfl⟩
theorem which_isT : ∀ {l : List (List UInt8)} {t : Tok} {r : List Tok} {i k : Nat}, whichI l (t :: r) i = some k → ∃ s ∈ l, isT s t = true := by
  intro l
  induction l with
  | nil => intro t r i k h; cases h
  | cons s l ih =>
    intro t r i k h
    rw [whichI] at h
    by_cases hs : isW s (t :: r) = true
    · exact ⟨s, by simp, hs⟩
    · rw [if_neg hs] at h
      obtain ⟨x, hx, e⟩ := ih h
      exact ⟨x, by simp [hx], e⟩
theorem which_free {l : List (List UInt8)} {t : Tok} {r : List Tok} {k : Nat} (h : which l (t :: r) = some k) (hl : sSc ∉ l) : isT sSc t = false := by
  obtain ⟨s, hs, e⟩ := which_isT h
  exact isT_ne e fun h => hl (h ▸ hs)
theorem which_cons : ∀ {l : List (List UInt8)} {ts : List Tok} {i k : Nat}, whichI l ts i = some k → ∃ t r, ts = t :: r := by
  intro l
  induction l with
  | nil => intro ts i k h; cases h
  | cons s l ih =>
    intro ts i k h
    rw [whichI] at h
    by_cases hs : isW s ts = true
    · exact isW_cons hs
    · rw [if_neg hs] at h; exact ih h
theorem good_need {s : List UInt8} (ts : List Tok) (hs : s ≠ sSc) : Good ts true (need s ts) := by
  unfold need
  split
  · rename_i h
    obtain ⟨t, r, rfl⟩ := isW_cons h
    exact good_cons (isT_ne h hs) (good_ret _ _)
  · exact good_bad _ _

section
variable {M : Int → Int → Int × Int × Int}
theorem factor_mono {r1 r2 : List Tok → Out Tree} (h : ∀ ts, (r1 ts).le (r2 ts)) (ts : List Tok) : (factor M r1 ts).le (factor M r2 ts) := by
  unfold factor
  split
  · exact le_rfl' _
  · split
    · exact le_rfl' _
    · split
      · exact le_rfl' _
      · split
        · exact le_rfl' _
        · split
          · exact le_bind (h _) fun _ _ => le_rfl' _
          · split
            · exact le_rfl' _
            · exact le_bind (le_rfl' _) fun _ _ => le_bind (h _) fun _ _ => le_bind (le_rfl' _) fun _ _ => le_bind (h _) fun _ _ => le_rfl' _
theorem step_mono {r1 r2 : Job → List Tok → Out Tree} (h : ∀ j ts, (r1 j ts).le (r2 j ts)) (j : Job) (ts : List Tok) : (step M r1 j ts).le (step M r2 j ts) := by
  cases j with
  | ex =>
    simp only [step]
    split
    · exact le_bind (h _ _) fun _ _ => le_bind (le_rfl' _) fun _ _ => le_bind (h _ _) fun _ _ => le_bind (le_rfl' _) fun _ _ => le_bind (h _ _) fun _ _ => le_rfl' _
    · exact h _ _
  | row l =>
    simp only [step]
    split
    · exact factor_mono (h _) _
    · split
      · split
        · exact le_bind (h _ _) fun _ _ => le_rfl' _
        · exact h _ _
      · exact le_bind (h _ _) fun _ _ => h _ _
  | loop l pl n =>
    simp only [step]
    cases which (signs l) ts with
    | none => exact le_rfl' _
    | some i =>
      refine le_bind (h _ _) fun _ _ => ?_
      split
      · exact le_rfl' _
      · exact h _ _
theorem run_mono1 : ∀ (f : Nat) (j : Job) (ts : List Tok), (run M f j ts).le (run M (f + 1) j ts) := by
  intro f
  induction f with
  | zero => intro j ts; exact .inl ⟨0, 0, rfl⟩
  | succ f ih => intro j ts; exact step_mono ih j ts
theorem run_mono {f g : Nat} (h : f ≤ g) (j : Job) (ts : List Tok) : (run M f j ts).le (run M g j ts) := by
  induction g with
  | zero => obtain rfl : f = 0 := by omega
            exact le_rfl' _
  | succ g ih =>
    by_cases e : f = g + 1
    · subst e; exact le_rfl' _
    · exact le_tr (ih (by omega)) (run_mono1 g j ts)
def strict : Job → Bool
  | .loop _ _ _ => false
  | _ => true
/-- So many steps are enough. -/
def nd : Job → Nat → Nat
  | .ex, n => 20 * n + 10
  | .row l, n => 20 * n + 9 - min l 6
  | .loop _ _ _, n => 20 * n + 2
theorem good_factor {ex : List Tok → Out Tree} {ts : List Tok} (h : ∀ r, r.length < ts.length → Good r true (ex r)) : Good ts true (factor M ex ts) := by
  unfold factor
  split
  · exact good_bad _ _
  · rename_i t r
    split
    · rename_i h2
      cases hu : which units r with
      | none => exact good_cons (isT_num h2) (good_ret _ _)
      | some u =>
        obtain ⟨t2, r2, rfl⟩ := which_cons hu
        have f2 := which_free hu (by decide)
        show Good _ _ (if u = 2 then _ else _)
        split
        · split
          · exact good_cons (s := true) (isT_num h2) (good_cons f2 (good_ret _ _))
          · exact ⟨.inr (.inl rfl), by simp, by simp; omega, [t, t2], r2, rfl, by simp, free_cons (isT_num h2) (free_cons f2 free_nil)⟩
        · exact good_cons (s := true) (isT_num h2) (good_cons f2 (good_ret _ _))
    · split
      · rename_i ha
        exact good_cons (isA_free ha) (good_ret _ _)
      · split
        · rename_i ha
          exact good_cons (isT_ne ha (by decide)) (good_ret _ _)
        · split
          · rename_i ha
            exact good_cons (s := true || (true || false)) (isT_ne ha (by decide)) (good_bind (h r (by simp)) fun n r' _ _ => good_bind (good_need _ (by decide)) fun _ r'' _ _ => good_ret _ _)
          · split
            · exact good_bad _ _
            · rename_i ha
              refine good_cons (s := true || (true || (true || (true || (true || false))))) (which_free ha (by decide)) (good_bind (good_need _ (by decide)) fun _ r1 _ l1 => good_bind (h r1 (by have := l1 rfl; simp; omega)) fun a r2 _ l2 => good_bind (good_need _ (by decide)) fun _ r3 _ l3 => good_bind (h r3 (by have := l1 rfl; have := l2 rfl; have := l3 rfl; simp; omega)) fun b r4 _ l4 => good_bind (good_need _ (by decide)) fun _ r5 _ _ => good_ret _ _)
theorem signs_semi (l : Nat) : sSc ∉ signs l := by
  unfold signs
  split <;> decide
theorem good_step {rec : Job → List Tok → Out Tree} {j0 : Job} {ts0 : List Tok} (h : ∀ j ts, nd j ts.length < nd j0 ts0.length → Good ts (strict j) (rec j ts)) : Good ts0 (strict j0) (step M rec j0 ts0) := by
  cases j0 with
  | ex =>
    simp only [step]
    split
    · rename_i hw
      obtain ⟨t, r, rfl⟩ := isW_cons hw
      have hx : ∀ q : List Tok, q.length ≤ r.length → Good q true (rec .ex q) := fun q hq => h .ex q (by simp [nd]; omega)
      refine good_cons (s := true || (true || (true || (true || (true || false))))) (isT_ne hw (by decide)) (good_bind (hx _ (Nat.le_refl _)) fun a r1 l1 _ => good_bind (good_need _ (by decide)) fun _ r2 l2 _ => good_bind (hx _ (by simp at *; omega)) fun b r3 l3 _ => good_bind (good_need _ (by decide)) fun _ r4 l4 _ => good_bind (hx _ (by simp at *; omega)) fun c r5 _ _ => good_ret _ _)
    · exact h (.row 0) ts0 (by simp [nd])
  | row l =>
    simp only [step]
    split
    · exact good_factor fun r hr => h .ex r (by simp only [nd]; omega)
    · split
      · split
        · rename_i hw
          obtain ⟨t, r, rfl⟩ := isW_cons hw
          exact good_cons (s := true || false) (isT_ne hw (by decide)) (good_bind (h (.row 2) r (by simp [nd]; omega)) fun n r' _ _ => good_ret _ _)
        · exact h (.row 3) ts0 (by simp only [nd]; omega)
      · refine good_weak (s := true || false) (good_bind (h (.row (l + 1)) ts0 (by simp only [nd]; omega)) fun n r _ hr => ?_) (fun _ => rfl)
        exact h (.loop l _ n) r (by simp only [nd]; have := hr rfl; omega)
  | loop l pl n =>
    simp only [step]
    cases hk : which (signs l) ts0 with
    | none => exact good_ret _ _
    | some i =>
      obtain ⟨t, r, rfl⟩ := which_cons hk
      refine good_weak (s := true) (good_cons (s := true || false) (which_free hk (fun h => by have := signs_semi l; exact this h)) (good_bind (h (.row (l + 1)) r (by simp only [nd, List.length_cons]; omega)) fun m r' _ hr => ?_)) (fun e => by cases e)
      split
      · exact good_ret _ _
      · exact h (.loop l pl _) r' (by simp only [nd, List.length_cons]; have := hr rfl; omega)
theorem good_run : ∀ (f : Nat) (j : Job) (ts : List Tok), nd j ts.length ≤ f → Good ts (strict j) (run M f j ts) := by
  intro f
  induction f with
  | zero => intro j ts h; cases j <;> simp [nd] at h <;> omega
  | succ f ih => intro j ts h; exact good_step fun j' ts' h' => ih j' ts' (by omega)
/-- Reading. -/
def rd (M : Int → Int → Int × Int × Int) (j : Job) (ts : List Tok) : Out Tree := run M (nd j ts.length) j ts
theorem good_rd (j : Job) (ts : List Tok) : Good ts (strict j) (rd M j ts) := good_run _ _ _ (Nat.le_refl _)
theorem le_ne {α : Type} {x y : Out α} {ts : List Tok} {s : Bool} (h : x.le y) (g : Good ts s x) : x = y := by
  rcases h with ⟨k, m, rfl⟩ | h
  · rcases g.1 with e | e | e <;> cases e
  · exact h
theorem run_rd {f : Nat} {j : Job} {ts : List Tok} (h : nd j ts.length ≤ f) : run M f j ts = rd M j ts := (le_ne (run_mono h j ts) (good_rd j ts)).symm
theorem run_le (f : Nat) (j : Job) (ts : List Tok) : (run M f j ts).le (rd M j ts) := by
  by_cases h : nd j ts.length ≤ f
  · rw [run_rd h]; exact le_rfl' _
  · exact run_mono (by omega) j ts
theorem nd_pos (j : Job) (n : Nat) : 0 < nd j n := by cases j <;> simp [nd] <;> omega
/-- What reading is. -/
theorem rd_eq (j : Job) (ts : List Tok) : rd M j ts = step M (rd M) j ts := by
  obtain ⟨f, hf⟩ : ∃ f, nd j ts.length = f + 1 := ⟨nd j ts.length - 1, by have := nd_pos j ts.length; omega⟩
  have h : (run M (f + 1) j ts).le (step M (rd M) j ts) := step_mono (run_le f) j ts
  rw [← hf] at h
  exact le_ne h (good_run _ _ _ (Nat.le_refl _))
end
end Pa
end Go.Proofs.YtedbpjcglnkjmaaGreatDoor
namespace Go.Proofs.YtedbpjcglnkjmaaGreatDoor
namespace Pa
open Lx

mutual
/-- The same expression, with c tokens more behind it. -/
def Tree.sh (c : Nat) : Tree → Tree
  | .mk op pl nm n d u ks => .mk op (pl + c) nm n d u (shL c ks)
def shL (c : Nat) : List Tree → List Tree
  | [] => []
  | k :: ks => k.sh c :: shL c ks
end
/-- What could continue an expression. -/
def conts : List (List UInt8) := [kOr, kAnd, sEq, sNe, sLt, sLe, sGt, sGe, sAdd, sSub, sMul, sDiv, kFlag, kNumber, kMoney, kArea, kDays, kAbout, kUntil, kWhen, kGive]
def Stop (more : List Tok) : Prop := ∀ s ∈ conts, isW s more = false
theorem isW_app (s : List UInt8) (t : Tok) (r more : List Tok) : isW s ((t :: r) ++ more) = isW s (t :: r) := rfl
theorem whichI_app (t : Tok) (r more : List Tok) : ∀ (l : List (List UInt8)) (i : Nat), whichI l ((t :: r) ++ more) i = whichI l (t :: r) i := by
  intro l
  induction l with
  | nil => intro i; rfl
  | cons s l ih => intro i; rw [whichI, whichI, isW_app, ih]
theorem which_app (l : List (List UInt8)) (t : Tok) (r more : List Tok) : which l ((t :: r) ++ more) = which l (t :: r) := whichI_app t r more l 0
theorem whichI_none {ts : List Tok} : ∀ {l : List (List UInt8)} {i : Nat}, (∀ s ∈ l, isW s ts = false) → whichI l ts i = none := by
  intro l
  induction l with
  | nil => intro i _; rfl
  | cons s l ih =>
    intro i h
    rw [whichI, h s (by simp)]
    exact ih fun x hx => h x (by simp [hx])
theorem which_stop {more : List Tok} {l : List (List UInt8)} (h : Stop more) (hl : ∀ s ∈ l, s ∈ conts) : which l more = none := whichI_none fun s hs => h s (hl s hs)
theorem which_nil (l : List (List UInt8)) : which l [] = none := whichI_none fun _ _ => rfl
theorem all_conts {l : List (List UInt8)} (h : l.all (fun s => conts.contains s) = true) : ∀ s ∈ l, s ∈ conts := fun s hs => by
  have := List.all_eq_true.1 h s hs
  simpa using this
theorem signs_conts (l : Nat) : ∀ s ∈ signs l, s ∈ conts := by
  apply all_conts
  unfold signs
  split <;> decide
theorem units_conts : ∀ s ∈ units, s ∈ conts := all_conts (by decide)
theorem good_after {α β : Type} {ts r : List Tok} {a : α} {o : Out β} (h : Good ts false (.ok a r)) (k : Good r false o) : Good ts false o :=
  good_weak (good_bind' (f := fun _ _ => o) (s' := false) h fun a' r' e _ _ => by cases e; exact k) (fun e => by cases e)

section
variable {α β : Type} {more : List Tok}
/-- An error that stays one, whatever is behind. -/
def Far (more : List Tok) (e : Int) (k m : Nat) : Prop := 0 < m ∨ 0 < k ∧ (e = 3 ∨ Stop more)
/-- What reading gives with more tokens behind. -/
def Ap (more ts : List Tok) (g : α → α) (x y : Out α) : Prop :=
  Good ts false x ∧ match x with
  | .ok a r => (r ≠ [] ∨ Stop more) → y = .ok (g a) (r ++ more)
  | .er e k m => Far more e k m → y = .er e (k + more.length) (m + more.length)
theorem ap_bind {ts : List Tok} {g : α → α} {g' : β → β} {x y : Out α} {f f' : α → List Tok → Out β} (hx : Ap more ts g x y) (hf : ∀ a r, x = .ok a r → r.length ≤ ts.length → Ap more r g' (f a r) (f' (g a) (r ++ more))) : Ap more ts g' (x.bind f) (y.bind f') := by
  obtain ⟨gx, hx⟩ := hx
  cases x with
  | er e k m => exact ⟨gx, fun h => by rw [hx h]; rfl⟩
  | ok a r =>
    have hr : r.length ≤ ts.length := gx.len.1
    obtain ⟨gf, hf'⟩ := hf a r rfl hr
    refine ⟨good_after gx gf, ?_⟩
    show match f a r with
      | .ok a r => (r ≠ [] ∨ Stop more) → y.bind f' = .ok (g' a) (r ++ more)
      | .er e k m => Far more e k m → y.bind f' = .er e (k + more.length) (m + more.length)
    generalize f a r = o at *
    cases o with
    | ok b r2 =>
      intro h
      rw [hx ?_]
      · exact hf' h
      · rcases h with h | h
        · left
          rintro rfl
          obtain ⟨q, e, -, -⟩ := gf
          exact h (List.append_eq_nil_iff.1 e.symm).2
        · exact .inr h
    | er e k m =>
      intro h
      rw [hx ?_]
      · exact hf' h
      · left
        rintro rfl
        have h1 := gf.2.1
        have h2 := gf.2.2.1
        simp at h1
        unfold Far at h
        omega
theorem ap_ret (g : α → α) (a b : α) (r : List Tok) (h : b = g a) : Ap more r g (.ok a r) (.ok b (r ++ more)) := ⟨good_ret _ _, fun _ => by rw [h]⟩
theorem ap_need {s : List UInt8} (ts : List Tok) (hs : s ≠ sSc) : Ap more ts id (need s ts) (need s (ts ++ more)) := by
  refine ⟨good_weak (good_need ts hs) (fun e => by cases e), ?_⟩
  cases ts with
  | nil => show Far more 10 0 0 → _; unfold Far; intro h; omega
  | cons t r =>
    unfold need
    rw [isW_app]
    by_cases h : isW s (t :: r) = true
    · rw [if_pos h, if_pos h]; intro _; rfl
    · rw [if_neg h, if_neg h]; intro _; unfold bad; rw [List.length_append]
theorem ap_bad (g : α → α) (ts : List Tok) : Ap more ts g (bad ts : Out α) (bad (ts ++ more)) := ⟨good_bad _ _, fun _ => by unfold bad; rw [List.length_append]⟩
theorem ap_cons {t : Tok} {r : List Tok} {g : α → α} {x y : Out α} (ht : isT sSc t = false) (h : Ap more r g x y) : Ap more (t :: r) g x y := ⟨good_weak (good_cons ht h.1) (fun e => by cases e), h.2⟩
end
section
variable {M : Int → Int → Int × Int × Int} {more : List Tok}
theorem ap_factor {ex ex' : List Tok → Out Tree} {ts : List Tok} (h : ∀ r, r.length < ts.length → Ap more r (Tree.sh more.length) (ex r) (ex' (r ++ more))) : Ap more ts (Tree.sh more.length) (factor M ex ts) (factor M ex' (ts ++ more)) := by
  cases ts with
  | nil => exact ⟨good_bad _ _, fun h => by unfold Far at h; simp at h⟩
  | cons t r =>
    rw [List.cons_append]
    simp only [factor]
    by_cases h2 : t.k = 2
    · simp only [h2, if_true]
      cases r with
      | nil =>
        rw [which_nil, List.nil_append]
        refine ⟨good_weak (good_cons (isT_num h2) (good_ret _ _)) (fun e => by cases e), fun hs => ?_⟩
        rw [which_stop (hs.resolve_left (by simp)) units_conts]
        simp [Tree.sh, shL]
        omega
      | cons t2 r2 =>
        rw [which_app]
        cases hu : which units (t2 :: r2) with
        | none => exact ap_cons (isT_num h2) (ap_ret _ _ _ _ (by simp [Tree.sh, shL]; omega))
        | some u =>
          have f2 := which_free hu (by decide)
          by_cases hu2 : u = 2
          · simp only [hu2, if_true]
            by_cases hM : (M t.n t.d).2.2 = 0
            · simp only [hM, if_true]
              exact ap_cons (isT_num h2) (ap_cons f2 (ap_ret _ _ _ _ (by simp [Tree.sh, shL]; omega)))
            · simp only [hM, if_false]
              exact ⟨⟨.inr (.inl rfl), by simp, by simp; omega, [t, t2], r2, rfl, by simp, free_cons (isT_num h2) (free_cons f2 free_nil)⟩, fun _ => by simp; omega⟩
          · simp only [hu2, if_false]
            exact ap_cons (isT_num h2) (ap_cons f2 (ap_ret _ _ _ _ (by simp [Tree.sh, shL]; omega)))
    · simp only [h2, if_false]
      have ea : isA (t :: (r ++ more)) = isA (t :: r) := rfl
      rw [ea]
      by_cases h3 : isA (t :: r) = true
      · simp only [h3, if_true]
        exact ap_cons (isA_free h3) (ap_ret _ _ _ _ (by simp [Tree.sh, shL]; omega))
      · simp only [h3]
        by_cases h4 : isT kTrue t = true
        · simp only [h4, if_true]
          exact ap_cons (isT_ne h4 (by decide)) (ap_ret _ _ _ _ (by simp [Tree.sh, shL]; omega))
        · simp only [h4]
          by_cases h5 : isT sLp t = true
          · simp only [h5, if_true]
            exact ap_cons (isT_ne h5 (by decide)) (ap_bind (h r (by simp)) fun n r' _ _ => ap_bind (ap_need _ (by decide)) fun _ r'' _ _ => ap_ret _ _ _ _ rfl)
          · simp only [h5]
            have ew : which [kMin, kMax] (t :: (r ++ more)) = which [kMin, kMax] (t :: r) := which_app _ t r more
            rw [ew]
            cases ho : which [kMin, kMax] (t :: r) with
            | none => exact ap_bad _ (t :: r)
            | some o =>
              simp only [Bool.false_eq_true, if_false]
              refine ap_cons (which_free ho (by decide)) (ap_bind (ap_need _ (by decide)) fun _ r1 _ l1 => ap_bind (h r1 (by simp; omega)) fun a r2 _ l2 => ap_bind (ap_need _ (by decide)) fun _ r3 _ l3 => ap_bind (h r3 (by simp; omega)) fun b r4 _ l4 => ap_bind (ap_need _ (by decide)) fun _ r5 _ l5 => ap_ret _ _ _ _ (by simp [Tree.sh, shL]; omega))
def Job.sh (c : Nat) : Job → Job
  | .loop l pl n => .loop l (pl + c) (n.sh c)
  | j => j
theorem ap_step {rec rec' : Job → List Tok → Out Tree} {j : Job} {ts : List Tok} (h : ∀ j' ts', nd j' ts'.length < nd j ts.length → Ap more ts' (Tree.sh more.length) (rec j' ts') (rec' (j'.sh more.length) (ts' ++ more)))
    (hg : ∀ j ts, Good ts (strict j) (rec j ts)) : Ap more ts (Tree.sh more.length) (step M rec j ts) (step M rec' (j.sh more.length) (ts ++ more)) := by
  cases j with
  | ex =>
    simp only [step, Job.sh]
    cases ts with
    | nil =>
      simp only [isW, List.nil_append, Bool.false_eq_true, if_false]
      refine ⟨good_weak (hg (.row 0) []) (fun e => by cases e), ?_⟩
      have g := hg (.row 0) []
      cases hr : rec (.row 0) [] with
      | ok a r =>
        rw [hr] at g
        exact absurd (g.len.2 rfl) (by simp)
      | er e k m =>
        rw [hr] at g
        intro hk
        have h1 := g.2.1
        have h2 := g.2.2.1
        simp at h1
        unfold Far at hk
        omega
    | cons t r =>
      rw [isW_app]
      by_cases hw : isW kIf (t :: r) = true
      · simp only [hw, if_true, List.cons_append, List.tail_cons]
        have hx : ∀ q : List Tok, q.length ≤ r.length → Ap more q (Tree.sh more.length) (rec .ex q) (rec' .ex (q ++ more)) := fun q hq => h .ex q (by simp [nd]; omega)
        refine ap_cons (isT_ne hw (by decide)) (ap_bind (hx _ (Nat.le_refl _)) fun a r1 _ l1 => ap_bind (ap_need _ (by decide)) fun _ r2 _ l2 => ap_bind (hx _ (by omega)) fun b r3 _ l3 => ap_bind (ap_need _ (by decide)) fun _ r4 _ l4 => ap_bind (hx _ (by omega)) fun c r5 _ l5 => ap_ret _ _ _ _ (by simp [Tree.sh, shL]; omega))
      · simp only [hw]
        exact h (.row 0) (t :: r) (by simp [nd])
  | row l =>
    simp only [step, Job.sh]
    by_cases h6 : 6 ≤ l
    · simp only [h6, if_true]
      exact ap_factor fun r hr => h .ex r (by simp only [nd]; omega)
    · simp only [h6, if_false]
      by_cases h2 : l = 2
      · simp only [h2, if_true]
        cases ts with
        | nil =>
          have e3 := h (.row 3) [] (by simp only [nd]; omega)
          simp only [List.nil_append, isW, Bool.false_eq_true, if_false]
          refine ⟨good_weak (hg (.row 3) []) (fun e => by cases e), ?_⟩
          have g := hg (.row 3) []
          cases hr : rec (.row 3) [] with
          | ok a r =>
            rw [hr] at g
            exact absurd (g.len.2 rfl) (by simp)
          | er e k m =>
            rw [hr] at g
            intro hk
            have h1 := g.2.1
            have h2 := g.2.2.1
            simp at h1
            unfold Far at hk
            omega
        | cons t r =>
          rw [isW_app]
          by_cases hw : isW kNot (t :: r) = true
          · simp only [hw, if_true, List.cons_append, List.tail_cons]
            exact ap_cons (isT_ne hw (by decide)) (ap_bind (h (.row 2) r (by simp [nd]; omega)) fun n r' _ _ => ap_ret _ _ _ _ (by simp [Tree.sh, shL]; omega))
          · simp only [hw]
            exact h (.row 3) (t :: r) (by simp only [nd]; omega)
      · simp only [h2, if_false]
        have e := h (.row (l + 1)) ts (by simp only [nd]; omega)
        refine ap_bind e fun a r hr _ => ?_
        have g := hg (.row (l + 1)) ts
        rw [hr] at g
        have hlt : r.length < ts.length := g.len.2 rfl
        rw [List.length_append]
        exact h (.loop l ts.length a) r (by simp only [nd]; omega)
  | loop l pl n =>
    simp only [step, Job.sh]
    cases ts with
    | nil =>
      rw [which_nil, List.nil_append]
      refine ⟨good_ret _ _, fun hs => ?_⟩
      rw [which_stop (hs.resolve_left (by simp)) (signs_conts l)]; rfl
    | cons t r =>
      rw [which_app]
      cases hk : which (signs l) (t :: r) with
      | none => exact ap_ret _ _ _ _ rfl
      | some i =>
        simp only [List.cons_append, List.tail_cons]
        refine ap_cons (which_free hk (signs_semi l)) (ap_bind (h (.row (l + 1)) r (by simp only [nd, List.length_cons]; omega)) fun m r' hr _ => ?_)
        have g := hg (.row (l + 1)) r
        rw [hr] at g
        have hlt : r'.length < r.length := g.len.2 rfl
        by_cases h3 : l = 3
        · simp only [h3, if_true]
          exact ap_ret _ _ _ _ (by by_cases h : 3 < i <;> simp [Tree.sh, shL, h])
        · simp only [h3, if_false]
          have := h (.loop l pl (.mk ((ops l).getD i 0) pl [] 0 0 1 [n, m])) r' (by simp only [nd, List.length_cons]; omega)
          simpa [Job.sh, Tree.sh, shL] using this
/-- What is behind a text changes nothing, unless it continues it. -/
theorem ap_rd : ∀ (N : Nat) (j : Job) (ts : List Tok), nd j ts.length ≤ N → Ap more ts (Tree.sh more.length) (rd M j ts) (rd M (j.sh more.length) (ts ++ more)) := by
  intro N
  induction N with
  | zero => intro j ts h; have := nd_pos j ts.length; omega
  | succ N ih =>
    intro j ts h
    rw [rd_eq, rd_eq (j := j.sh more.length)]
    exact ap_step (fun j' ts' h' => ih j' ts' (by omega)) fun j ts => good_rd j ts
theorem rd_ok {j : Job} {ts r : List Tok} {n : Tree} (h : rd M j ts = .ok n r) (hs : r ≠ [] ∨ Stop more) : rd M (j.sh more.length) (ts ++ more) = .ok (n.sh more.length) (r ++ more) := by
  have := (ap_rd (M := M) (more := more) _ j ts (Nat.le_refl _)).2
  rw [h] at this
  exact this hs
theorem rd_er {j : Job} {ts : List Tok} {e : Int} {k m : Nat} (h : rd M j ts = .er e k m) (hk : Far more e k m) : rd M (j.sh more.length) (ts ++ more) = .er e (k + more.length) (m + more.length) := by
  have := (ap_rd (M := M) (more := more) _ j ts (Nat.le_refl _)).2
  rw [h] at this
  exact this hk
/-- The same, but for places of tokens. -/
structure Like (g : Tok → Tok) : Prop where
  k : ∀ t, (g t).k = t.k
  t : ∀ t, (g t).t = t.t
  n : ∀ t, (g t).n = t.n
  d : ∀ t, (g t).d = t.d
def Out.mp {α : Type} (g : Tok → Tok) : Out α → Out α
  | .ok a r => .ok a (r.map g)
  | .er e k m => .er e k m
variable {g : Tok → Tok}
theorem isW_map (hg : Like g) (s : List UInt8) (ts : List Tok) : isW s (ts.map g) = isW s ts := by
  cases ts with
  | nil => rfl
  | cons t r => show isT s (g t) = isT s t; unfold isT; rw [hg.k, hg.t]
theorem whichI_map (hg : Like g) (ts : List Tok) : ∀ (l : List (List UInt8)) (i : Nat), whichI l (ts.map g) i = whichI l ts i := by
  intro l
  induction l with
  | nil => intro i; rfl
  | cons s l ih => intro i; rw [whichI, whichI, isW_map hg, ih]
theorem which_map (hg : Like g) (l : List (List UInt8)) (ts : List Tok) : which l (ts.map g) = which l ts := whichI_map hg ts l 0
theorem mp_bind {α β : Type} {x y : Out α} {f f' : α → List Tok → Out β} (hx : y = x.mp g) (hf : ∀ a r, f' a (r.map g) = (f a r).mp g) : y.bind f' = (x.bind f).mp g := by
  subst hx
  cases x with
  | ok a r => exact hf a r
  | er e k m => rfl
theorem mp_need (hg : Like g) (s : List UInt8) (ts : List Tok) : need s (ts.map g) = (need s ts).mp g := by
  unfold need
  rw [isW_map hg]
  split
  · simp [Out.mp, List.map_tail]
  · simp [Out.mp, bad]
theorem mp_factor (hg : Like g) {ex ex' : List Tok → Out Tree} (h : ∀ r, ex' (r.map g) = (ex r).mp g) (ts : List Tok) : factor M ex' (ts.map g) = (factor M ex ts).mp g := by
  cases ts with
  | nil => rfl
  | cons t r =>
    have ea : isA ((t :: r).map g) = isA (t :: r) := by show (decide ((g t).k = 1) && !(reserved.contains (g t).t) && !((g t).t == sSc)) = _; rw [hg.k, hg.t]; rfl
    have eT : ∀ s, isT s (g t) = isT s t := fun s => by unfold isT; rw [hg.k, hg.t]
    rw [List.map_cons] at ea ⊢
    simp only [factor, hg.k, hg.n, hg.d, hg.t, ea, eT, List.length_map, which_map hg]
    by_cases h2 : t.k = 2
    · simp only [h2, if_true]
      cases which units r with
      | none => rfl
      | some u =>
        simp only []
        by_cases hu2 : u = 2
        · simp only [hu2, if_true]
          split <;> simp [Out.mp, List.map_tail]
        · simp only [hu2, if_false]
          simp [Out.mp, List.map_tail]
    · simp only [h2, if_false]
      by_cases h3 : isA (t :: r) = true
      · simp only [h3, if_true]; rfl
      · simp only [h3]
        by_cases h4 : isT kTrue t = true
        · simp only [h4, if_true]; rfl
        · simp only [h4]
          by_cases h5 : isT sLp t = true
          · simp only [h5, if_true]
            exact mp_bind (h r) fun n r' => mp_bind (mp_need hg _ _) fun _ r'' => rfl
          · simp only [h5]
            have ew : which [kMin, kMax] (g t :: r.map g) = which [kMin, kMax] (t :: r) := which_map hg _ (t :: r)
            rw [ew]
            cases which [kMin, kMax] (t :: r) with
            | none => simp [Out.mp, bad]
            | some o => exact mp_bind (mp_need hg _ _) fun _ r1 => mp_bind (h r1) fun a r2 => mp_bind (mp_need hg _ _) fun _ r3 => mp_bind (h r3) fun b r4 => mp_bind (mp_need hg _ _) fun _ r5 => rfl
theorem mp_step (hg : Like g) {rec : Job → List Tok → Out Tree} (h : ∀ j r, rec j (r.map g) = (rec j r).mp g) (j : Job) (ts : List Tok) : step M rec j (ts.map g) = (step M rec j ts).mp g := by
  cases j with
  | ex =>
    simp only [step, isW_map hg, List.length_map]
    split
    · rw [← List.map_tail]
      exact mp_bind (h _ _) fun a r1 => mp_bind (mp_need hg _ _) fun _ r2 => mp_bind (h _ _) fun b r3 => mp_bind (mp_need hg _ _) fun _ r4 => mp_bind (h _ _) fun c r5 => rfl
    · exact h _ _
  | row l =>
    simp only [step, isW_map hg, List.length_map]
    split
    · exact mp_factor hg (h _) ts
    · split
      · split
        · rw [← List.map_tail]
          exact mp_bind (h _ _) fun n r => rfl
        · exact h _ _
      · exact mp_bind (h _ _) fun n r => h _ _
  | loop l pl n =>
    simp only [step, which_map hg]
    cases which (signs l) ts with
    | none => rfl
    | some i =>
      simp only []
      rw [← List.map_tail]
      refine mp_bind (h _ _) fun m r => ?_
      split
      · rfl
      · exact h _ _
theorem run_map (hg : Like g) : ∀ (f : Nat) (j : Job) (ts : List Tok), run M f j (ts.map g) = (run M f j ts).mp g := by
  intro f
  induction f with
  | zero => intro j ts; rfl
  | succ f ih => intro j ts; exact mp_step hg ih j ts
/-- The places of tokens change nothing. -/
theorem rd_map (hg : Like g) (j : Job) (ts : List Tok) : rd M j (ts.map g) = (rd M j ts).mp g := by
  unfold rd
  rw [List.length_map]
  exact run_map hg _ j ts
end
end Pa
end Go.Proofs.YtedbpjcglnkjmaaGreatDoor
namespace Go.Proofs.YtedbpjcglnkjmaaGreatDoor
namespace Pa
open Lx

mutual
def Tree.siz : Tree → Nat
  | .mk _ _ _ _ _ _ ks => sizL ks + 1
def sizL : List Tree → Nat
  | [] => 0
  | k :: ks => k.siz + sizL ks
end
mutual
def Tree.dep : Tree → Nat
  | .mk _ _ _ _ _ _ ks => depL ks + 1
def depL : List Tree → Nat
  | [] => 0
  | k :: ks => max k.dep (depL ks)
end
def Tree.pl : Tree → Nat
  | .mk _ p _ _ _ _ _ => p
mutual
theorem siz_sh (c : Nat) : ∀ n : Tree, (n.sh c).siz = n.siz
  | .mk _ _ _ _ _ _ ks => by simp only [Tree.sh, Tree.siz, sizL_sh c ks]
theorem sizL_sh (c : Nat) : ∀ l : List Tree, sizL (shL c l) = sizL l
  | [] => rfl
  | k :: ks => by simp only [shL, sizL, siz_sh c k, sizL_sh c ks]
end
mutual
theorem dep_sh (c : Nat) : ∀ n : Tree, (n.sh c).dep = n.dep
  | .mk _ _ _ _ _ _ ks => by simp only [Tree.sh, Tree.dep, depL_sh c ks]
theorem depL_sh (c : Nat) : ∀ l : List Tree, depL (shL c l) = depL l
  | [] => rfl
  | k :: ks => by simp only [shL, depL, dep_sh c k, depL_sh c ks]
end
theorem pl_sh (c : Nat) (n : Tree) : (n.sh c).pl = n.pl + c := by cases n; rfl
/-- Is an expression too large? -/
def big (n : Tree) : Bool := decide (200 < n.siz) || decide (20 < n.dep)
theorem big_sh (c : Nat) (n : Tree) : big (n.sh c) = big n := by unfold big; rw [siz_sh, dep_sh]
theorem bind_inv {α β : Type} {x : Out α} {f : α → List Tok → Out β} {b : β} {r2 : List Tok} (h : x.bind f = .ok b r2) : ∃ a r, x = .ok a r ∧ f a r = .ok b r2 := by
  cases x with
  | ok a r => exact ⟨a, r, rfl, h⟩
  | er e k m => cases h

section
variable {M : Int → Int → Int × Int × Int}
/-- Where an expression is. -/
def InPl (ts r : List Tok) (n : Tree) : Prop := r.length < n.pl ∧ n.pl ≤ ts.length
theorem inPl_top {ts r : List Tok} {n : Tree} (h : n.pl = ts.length) (k : r.length < ts.length) : InPl ts r n := ⟨by omega, by omega⟩
theorem pl_step : ∀ (N : Nat) (j : Job) (ts : List Tok) (n : Tree) (r : List Tok), nd j ts.length ≤ N → rd M j ts = .ok n r → match j with
    | .loop _ pl m => (n = m ∧ r = ts) ∨ n.pl = pl
    | _ => InPl ts r n := by
  intro N
  induction N with
  | zero => intro j ts n r h; have := nd_pos j ts.length; omega
  | succ N ih =>
    intro j ts n r hN h
    have g := good_rd (M := M) j ts
    rw [h] at g
    have gl := g.len
    rw [rd_eq] at h
    cases j with
    | ex =>
      simp only [step] at h
      by_cases hw : isW kIf ts = true
      · rw [if_pos hw] at h
        obtain ⟨a, r1, -, h⟩ := bind_inv h
        obtain ⟨_, r2, -, h⟩ := bind_inv h
        obtain ⟨b, r3, -, h⟩ := bind_inv h
        obtain ⟨_, r4, -, h⟩ := bind_inv h
        obtain ⟨c, r5, -, h⟩ := bind_inv h
        cases h
        exact inPl_top rfl (gl.2 rfl)
      · rw [if_neg hw] at h
        exact ih (.row 0) ts n r (by simp only [nd] at hN ⊢; omega) h
    | row l =>
      simp only [step] at h
      by_cases h6 : 6 ≤ l
      · rw [if_pos h6] at h
        cases ts with
        | nil => cases h
        | cons t r0 =>
          simp only [factor] at h
          by_cases h2 : t.k = 2
          · simp only [h2, if_true] at h
            cases hu : which units r0 with
            | none =>
              rw [hu] at h
              cases h
              exact inPl_top rfl (gl.2 rfl)
            | some u =>
              rw [hu] at h
              simp only [] at h
              by_cases hu2 : u = 2
              · simp only [hu2, if_true] at h
                split at h
                · cases h; exact inPl_top rfl (gl.2 rfl)
                · cases h
              · simp only [hu2, if_false] at h
                cases h; exact inPl_top rfl (gl.2 rfl)
          · simp only [h2, if_false] at h
            split at h
            · cases h; exact inPl_top rfl (gl.2 rfl)
            · split at h
              · cases h; exact inPl_top rfl (gl.2 rfl)
              · split at h
                · obtain ⟨a, r1, h1, h⟩ := bind_inv h
                  obtain ⟨_, r2, h3, h⟩ := bind_inv h
                  cases h
                  have e := ih .ex r0 _ r1 (by simp only [nd, List.length_cons] at hN ⊢; omega) h1
                  have g3 : Good r1 true (need sRp r1) := good_need _ (by decide)
                  rw [h3] at g3
                  have := g3.len.2 rfl
                  exact ⟨by have := e.1; omega, by have := e.2; simp; omega⟩
                · split at h
                  · cases h
                  · obtain ⟨_, r1, -, h⟩ := bind_inv h
                    obtain ⟨a, r2, -, h⟩ := bind_inv h
                    obtain ⟨_, r3, -, h⟩ := bind_inv h
                    obtain ⟨b, r4, -, h⟩ := bind_inv h
                    obtain ⟨_, r5, -, h⟩ := bind_inv h
                    cases h
                    exact inPl_top rfl (gl.2 rfl)
      · rw [if_neg h6] at h
        by_cases h2 : l = 2
        · rw [if_pos h2] at h
          split at h
          · obtain ⟨a, r1, -, h⟩ := bind_inv h
            cases h
            exact inPl_top rfl (gl.2 rfl)
          · exact ih (.row 3) ts n r (by simp only [nd] at hN ⊢; omega) h
        · rw [if_neg h2] at h
          obtain ⟨a, r1, h1, h⟩ := bind_inv h
          have e := ih (.row (l + 1)) ts a r1 (by simp only [nd] at hN ⊢; omega) h1
          have g1 := good_rd (M := M) (.row (l + 1)) ts
          rw [h1] at g1
          have l1 := g1.len.2 rfl
          have e2 := ih (.loop l ts.length a) r1 n r (by simp only [nd] at hN ⊢; omega) h
          rcases e2 with ⟨rfl, rfl⟩ | e2
          · exact e
          · exact inPl_top e2 (gl.2 rfl)
    | loop l pl m =>
      simp only [step] at h
      cases hk : which (signs l) ts with
      | none => rw [hk] at h; cases h; exact .inl ⟨rfl, rfl⟩
      | some i =>
        rw [hk] at h
        obtain ⟨t, r0, rfl⟩ := which_cons hk
        obtain ⟨a, r1, h1, h⟩ := bind_inv h
        rw [List.tail_cons] at h1
        have g1 := good_rd (M := M) (.row (l + 1)) r0
        rw [h1] at g1
        have l1 := g1.len.2 rfl
        split at h
        · cases h; exact .inr rfl
        · have e2 := ih (.loop l pl _) r1 n r (by simp only [nd, List.length_cons] at hN ⊢; omega) h
          rcases e2 with ⟨rfl, rfl⟩ | e2
          · exact .inr rfl
          · exact .inr e2
theorem pl_ex {ts r : List Tok} {n : Tree} (h : rd M .ex ts = .ok n r) : InPl ts r n := pl_step _ .ex ts n r (Nat.le_refl _) h
end

/-! ### Facts and rules -/
structure Decl where
  name : List UInt8
  u : Nat
  lo : Int
  hi : Int
  pl : Nat
structure Rule where
  name : List UInt8
  ver : Int
  kind : Nat
  act : List UInt8
  fr : Int
  un : Int
  known : Int
  whn : Tree
  give : Tree
  pl : Nat
def nameO : List Tok → Out (List UInt8)
  | [] => bad []
  | t :: r => if isA (t :: r) then .ok t.t r else bad (t :: r)
def wholeO : List Tok → Out Int
  | [] => bad []
  | t :: r => if t.k = 2 then (if t.d = 1 then .ok t.n r else .er 3 (r.length + 1) (r.length + 1)) else bad (t :: r)
def unitO (ts : List Tok) : Out Nat := match which units ts with
  | none => bad ts
  | some u => .ok u ts.tail
def optO {α : Type} (w : List UInt8) (p : List Tok → Out α) (d : α) (ts : List Tok) : Out α := if isW w ts then p ts.tail else .ok d ts
variable (M : Int → Int → Int × Int × Int)
def limited (ts : List Tok) : Out Tree := (rd M .ex ts).bind fun n r => if big n then .er 2 n.pl r.length else .ok n r
def factB (ts : List Tok) : Out Decl :=
  (need kFact ts).bind fun _ r1 => (nameO r1).bind fun nm r2 => (need sCo r2).bind fun _ r3 => (unitO r3).bind fun u r4 => (wholeO r4).bind fun lo r5 => (need kTo r5).bind fun _ r6 => (wholeO r6).bind fun hi r7 => .ok ⟨nm, u, lo, hi, ts.length⟩ r7
def noWhen (p : Nat) : Tree := .mk 17 p [] 0 0 1 []
def noGive (p : Nat) : Tree := .mk 1 p [] 0 1 1 []
def ruleB (ts : List Tok) : Out Rule := match which kinds ts with
  | none => bad ts
  | some k => (nameO ts.tail).bind fun nm r1 => (wholeO r1).bind fun v r2 => (optO kAbout nameO [] r2).bind fun act r3 => (need kFrom r3).bind fun _ r4 => (wholeO r4).bind fun fr r5 =>
    (optO kUntil wholeO 36525 r5).bind fun un r6 => (need kKnown r6).bind fun _ r7 => (wholeO r7).bind fun kn r8 => (optO kWhen (limited M) (noWhen ts.length) r8).bind fun wh r9 =>
    (optO kGive (limited M) (noGive ts.length) r9).bind fun gi r10 => .ok ⟨nm, v, k + 1, act, fr, un, kn, wh, gi, ts.length⟩ r10
inductive Item where
  | fact (d : Decl)
  | rule (r : Rule)
def itemB (ts : List Tok) : Out Item := if isW kFact ts then (factB ts).bind fun d r => .ok (.fact d) r else (ruleB M ts).bind fun d r => .ok (.rule d) r
/-- A whole declaration. -/
def item (ts : List Tok) : Out Item := (itemB M ts).bind fun d r => (need sSc r).bind fun _ r => .ok d r
def skip : List Tok → List Tok
  | [] => []
  | t :: r => if isT sSc t then r else skip r
/-- By-laws and errors so far. -/
structure By where
  ds : List Decl
  rs : List Rule
  es : List (Int × Nat)
/-- A declaration that is complete, and where it begins. -/
def By.add (c : By) (k : Nat) : Item → By
  | .fact d => if c.ds.length = 12 then { c with es := c.es ++ [(2, k)] } else { c with ds := c.ds ++ [d] }
  | .rule d => if c.rs.length = 100 then { c with es := c.es ++ [(2, k)] } else { c with rs := c.rs ++ [d] }
def By.err (c : By) (e : Int) (k : Nat) : By := { c with es := c.es ++ [(e, k)] }
def go : Nat → List Tok → By → By
  | 0, _, c => c
  | f + 1, ts, c => if ts.length = 0 ∨ 20 ≤ c.es.length then c else
    match item M ts with
    | .ok d r => go f r (c.add ts.length d)
    | .er e k m => go f (skip (ts.drop (ts.length - m))) (c.err e k)
def parse (ts : List Tok) : By := go M ts.length ts ⟨[], [], []⟩
end Pa
end Go.Proofs.YtedbpjcglnkjmaaGreatDoor
namespace Go.Proofs.YtedbpjcglnkjmaaGreatDoor
namespace Pa
open Lx

theorem good_name (ts : List Tok) : Good ts true (nameO ts) := by
  unfold nameO
  split
  · exact good_bad _ _
  · split
    · rename_i h; exact good_cons (isA_free h) (good_ret _ _)
    · exact good_bad _ _
theorem good_whole (ts : List Tok) : Good ts true (wholeO ts) := by
  unfold wholeO
  split
  · exact good_bad _ _
  · rename_i t r
    split
    · rename_i h
      split
      · exact good_cons (isT_num h) (good_ret _ _)
      · exact ⟨.inr (.inl rfl), by simp, Nat.le_refl _, [], t :: r, rfl, by simp, free_nil⟩
    · exact good_bad _ _
theorem good_unit (ts : List Tok) : Good ts true (unitO ts) := by
  unfold unitO
  cases h : which units ts with
  | none => exact good_bad _ _
  | some u =>
    obtain ⟨t, r, rfl⟩ := which_cons h
    exact good_cons (which_free h (by decide)) (good_ret _ _)
theorem good_opt {α : Type} {w : List UInt8} {p : List Tok → Out α} {d : α} {s : Bool} (hw : w ≠ sSc) (hp : ∀ r, Good r s (p r)) (ts : List Tok) : Good ts false (optO w p d ts) := by
  unfold optO
  split
  · rename_i h
    obtain ⟨t, r, rfl⟩ := isW_cons h
    exact good_weak (good_cons (isT_ne h hw) (hp r)) (fun e => by cases e)
  · exact good_ret _ _
section
variable {M : Int → Int → Int × Int × Int}
theorem good_limited (ts : List Tok) : Good ts true (limited M ts) := by
  unfold limited
  have g := good_rd (M := M) .ex ts
  cases h : rd M .ex ts with
  | er e k m => rw [h] at g; exact g
  | ok n r =>
    rw [h] at g
    have p := pl_ex h
    rw [bind_ok]
    split
    · obtain ⟨pre, e, -, fp⟩ := g
      exact ⟨.inl rfl, p.2, by have := p.1; omega, pre, r, e, rfl, fp⟩
    · exact g
theorem good_factB (ts : List Tok) : Good ts true (factB ts) :=
  good_weak (s := true || (true || (true || (true || (true || (true || (true || false))))))) (good_bind (good_need _ (by decide)) fun _ _ _ _ => good_bind (good_name _) fun _ _ _ _ => good_bind (good_need _ (by decide)) fun _ _ _ _ => good_bind (good_unit _) fun _ _ _ _ => good_bind (good_whole _) fun _ _ _ _ => good_bind (good_need _ (by decide)) fun _ _ _ _ => good_bind (good_whole _) fun _ _ _ _ => good_ret _ _) (fun _ => rfl)
theorem good_ruleB (ts : List Tok) : Good ts true (ruleB M ts) := by
  unfold ruleB
  cases h : which kinds ts with
  | none => exact good_bad _ _
  | some k =>
    obtain ⟨t, r, rfl⟩ := which_cons h
    exact good_cons (s := true || (true || (false || (true || (true || (false || (true || (true || (false || (false || false)))))))))) (which_free h (by decide)) (good_bind (good_name _) fun _ _ _ _ => good_bind (good_whole _) fun _ _ _ _ => good_bind (good_opt (by decide) good_name _) fun _ _ _ _ => good_bind (good_need _ (by decide)) fun _ _ _ _ => good_bind (good_whole _) fun _ _ _ _ => good_bind (good_opt (by decide) good_whole _) fun _ _ _ _ => good_bind (good_need _ (by decide)) fun _ _ _ _ => good_bind (good_whole _) fun _ _ _ _ => good_bind (good_opt (by decide) good_limited _) fun _ _ _ _ => good_bind (good_opt (by decide) good_limited _) fun _ _ _ _ => good_ret _ _)
theorem good_itemB (ts : List Tok) : Good ts true (itemB M ts) := by
  unfold itemB
  split
  · exact good_weak (s := true || false) (good_bind (good_factB _) fun _ _ _ _ => good_ret _ _) (fun _ => rfl)
  · exact good_weak (s := true || false) (good_bind (good_ruleB _) fun _ _ _ _ => good_ret _ _) (fun _ => rfl)
/-- A declaration that is complete ends with the first semicolon. -/
def GoodD {α : Type} (ts : List Tok) : Out α → Prop
  | .ok _ r => ∃ pre t, ts = pre ++ t :: r ∧ Free pre ∧ isT sSc t = true
  | .er e k m => (e = 2 ∨ e = 3 ∨ e = 10) ∧ k ≤ ts.length ∧ m ≤ k ∧ ∃ pre q, ts = pre ++ q ∧ q.length = m ∧ Free pre
theorem good_item (ts : List Tok) : GoodD ts (item M ts) := by
  unfold item
  have g := good_itemB (M := M) ts
  cases h : itemB M ts with
  | er e k m => rw [h] at g; exact g
  | ok d r =>
    rw [h] at g
    rw [bind_ok]
    obtain ⟨pre, rfl, -, fp⟩ := g
    unfold need
    by_cases hs : isW sSc r = true
    · obtain ⟨t, r2, rfl⟩ := isW_cons hs
      rw [if_pos hs]
      exact ⟨pre, t, rfl, fp, hs⟩
    · rw [if_neg hs]
      exact ⟨.inr (.inr rfl), by simp, Nat.le_refl _, pre, r, rfl, rfl, fp⟩

/-! ### More behind -/
variable {more : List Tok}
theorem ap_name (ts : List Tok) : Ap more ts id (nameO ts) (nameO (ts ++ more)) := by
  cases ts with
  | nil => exact ⟨good_bad _ _, fun h => by unfold Far at h; simp at h⟩
  | cons t r =>
    rw [List.cons_append]
    have ea : isA (t :: (r ++ more)) = isA (t :: r) := rfl
    simp only [nameO, ea]
    by_cases h : isA (t :: r) = true
    · rw [if_pos h, if_pos h]; exact ap_cons (isA_free h) (ap_ret _ _ _ _ rfl)
    · rw [if_neg h, if_neg h]; exact ap_bad _ (t :: r)
theorem ap_whole (ts : List Tok) : Ap more ts id (wholeO ts) (wholeO (ts ++ more)) := by
  cases ts with
  | nil => exact ⟨good_bad _ _, fun h => by unfold Far at h; simp at h⟩
  | cons t r =>
    rw [List.cons_append]
    simp only [wholeO]
    by_cases h : t.k = 2
    · rw [if_pos h, if_pos h]
      by_cases hd : t.d = 1
      · rw [if_pos hd, if_pos hd]; exact ap_cons (isT_num h) (ap_ret _ _ _ _ rfl)
      · rw [if_neg hd, if_neg hd]
        exact ⟨⟨.inr (.inl rfl), by simp, Nat.le_refl _, [], t :: r, rfl, by simp, free_nil⟩, fun _ => by simp; omega⟩
    · rw [if_neg h, if_neg h]; exact ap_bad _ (t :: r)
theorem ap_unit (ts : List Tok) : Ap more ts id (unitO ts) (unitO (ts ++ more)) := by
  unfold unitO
  cases ts with
  | nil => rw [which_nil]; exact ⟨good_bad _ _, fun h => by unfold Far at h; simp at h⟩
  | cons t r =>
    rw [which_app]
    cases h : which units (t :: r) with
    | none => exact ap_bad _ (t :: r)
    | some u => exact ap_cons (which_free h (by decide)) (ap_ret _ _ _ _ rfl)
theorem ap_opt {α : Type} {w : List UInt8} {p : List Tok → Out α} {d d' : α} {g : α → α} (hw : w ∈ conts) (hp : ∀ r, Ap more r g (p r) (p (r ++ more))) (hd : d' = g d) (ts : List Tok) : Ap more ts g (optO w p d ts) (optO w p d' (ts ++ more)) := by
  subst hd
  have hs : w ≠ sSc := fun e => by subst e; revert hw; decide
  cases ts with
  | nil =>
    refine ⟨good_ret _ _, fun h => ?_⟩
    have := h.resolve_left (by simp) w hw
    unfold optO
    rw [List.nil_append, this]; rfl
  | cons t r =>
    unfold optO
    rw [isW_app]
    by_cases h : isW w (t :: r) = true
    · rw [if_pos h, if_pos h]; exact ap_cons (isT_ne h hs) (hp r)
    · rw [if_neg h, if_neg h]; exact ap_ret _ _ _ _ rfl
theorem ap_limited (ts : List Tok) : Ap more ts (Tree.sh more.length) (limited M ts) (limited M (ts ++ more)) := by
  refine ⟨good_weak (good_limited ts) (fun e => by cases e), ?_⟩
  cases h : rd M .ex ts with
  | er e k m =>
    have : limited M ts = .er e k m := by unfold limited; rw [h]; rfl
    rw [this]
    intro hk
    have h2 := rd_er h hk
    simp only [Job.sh] at h2
    unfold limited; rw [h2]; rfl
  | ok n r =>
    by_cases hb : big n = true
    · have : limited M ts = .er 2 n.pl r.length := by unfold limited; rw [h, bind_ok, if_pos hb]
      rw [this]
      intro hk
      have h2 := rd_ok (more := more) h (by
        rcases hk with hk | ⟨-, hk | hk⟩
        · left; rintro rfl; simp at hk
        · cases hk
        · exact .inr hk)
      simp only [Job.sh] at h2
      unfold limited; rw [h2, bind_ok, big_sh, if_pos hb, pl_sh, List.length_append]
    · have : limited M ts = .ok n r := by unfold limited; rw [h, bind_ok, if_neg hb]
      rw [this]
      intro hk
      have h2 := rd_ok (more := more) h hk
      simp only [Job.sh] at h2
      unfold limited; rw [h2, bind_ok, big_sh, if_neg hb]
def Decl.sh (c : Nat) (d : Decl) : Decl := { d with pl := d.pl + c }
def Rule.sh (c : Nat) (d : Rule) : Rule := { d with pl := d.pl + c, whn := d.whn.sh c, give := d.give.sh c }
def Item.sh (c : Nat) : Item → Item
  | .fact d => .fact (d.sh c)
  | .rule d => .rule (d.sh c)
theorem ap_factB (ts : List Tok) : Ap more ts (Decl.sh more.length) (factB ts) (factB (ts ++ more)) :=
  ap_bind (ap_need _ (by decide)) fun _ _ _ _ => ap_bind (ap_name _) fun _ _ _ _ => ap_bind (ap_need _ (by decide)) fun _ _ _ _ => ap_bind (ap_unit _) fun _ _ _ _ => ap_bind (ap_whole _) fun _ _ _ _ => ap_bind (ap_need _ (by decide)) fun _ _ _ _ => ap_bind (ap_whole _) fun _ _ _ _ => ap_ret _ _ _ _ (by simp [Decl.sh])
theorem ap_ruleB (ts : List Tok) : Ap more ts (Rule.sh more.length) (ruleB M ts) (ruleB M (ts ++ more)) := by
  unfold ruleB
  cases ts with
  | nil => rw [which_nil]; exact ⟨good_bad _ _, fun h => by unfold Far at h; simp at h⟩
  | cons t r =>
    rw [which_app]
    cases h : which kinds (t :: r) with
    | none => exact ap_bad _ (t :: r)
    | some k =>
      exact ap_cons (which_free h (by decide)) (ap_bind (ap_name _) fun _ _ _ _ => ap_bind (ap_whole _) fun _ _ _ _ => ap_bind (ap_opt (by decide) ap_name rfl _) fun _ _ _ _ => ap_bind (ap_need _ (by decide)) fun _ _ _ _ => ap_bind (ap_whole _) fun _ _ _ _ => ap_bind (ap_opt (by decide) ap_whole rfl _) fun _ _ _ _ => ap_bind (ap_need _ (by decide)) fun _ _ _ _ => ap_bind (ap_whole _) fun _ _ _ _ => ap_bind (ap_opt (by decide) ap_limited (by simp [noWhen, Tree.sh, shL]; omega) _) fun _ _ _ _ => ap_bind (ap_opt (by decide) ap_limited (by simp [noGive, Tree.sh, shL]; omega) _) fun _ _ _ _ => ap_ret _ _ _ _ (by simp [Rule.sh]; omega))
theorem ap_itemB (ts : List Tok) : Ap more ts (Item.sh more.length) (itemB M ts) (itemB M (ts ++ more)) := by
  unfold itemB
  cases ts with
  | nil =>
    refine ⟨good_weak (good_itemB (M := M) []) (fun e => by cases e), fun h => ?_⟩
    revert h
    show Far more 10 0 0 → _
    unfold Far; intro h; omega
  | cons t r =>
    rw [isW_app]
    by_cases h : isW kFact (t :: r) = true
    · rw [if_pos h, if_pos h]; exact ap_bind (ap_factB _) fun _ _ _ _ => ap_ret _ _ _ _ rfl
    · rw [if_neg h, if_neg h]; exact ap_bind (ap_ruleB _) fun _ _ _ _ => ap_ret _ _ _ _ rfl
theorem item_ok {ts r : List Tok} {d : Item} (h : item M ts = .ok d r) (more : List Tok) : item M (ts ++ more) = .ok (d.sh more.length) (r ++ more) := by
  unfold item at h
  obtain ⟨d', r1, h1, h⟩ := bind_inv h
  obtain ⟨_, r2, h2, h⟩ := bind_inv h
  cases h
  unfold need at h2
  by_cases hs : isW sSc r1 = true
  · obtain ⟨t, r3, rfl⟩ := isW_cons hs
    rw [if_pos hs] at h2
    cases h2
    have a := (ap_itemB (M := M) (more := more) ts).2
    rw [h1] at a
    unfold item
    rw [a (.inl (by simp)), bind_ok]
    unfold need
    rw [isW_app, if_pos hs]; rfl
  · rw [if_neg hs] at h2; cases h2
theorem item_er {ts : List Tok} {e : Int} {k m : Nat} (h : item M ts = .er e k m) (hm : 0 < m) (more : List Tok) : item M (ts ++ more) = .er e (k + more.length) (m + more.length) := by
  unfold item at h ⊢
  have a := (ap_itemB (M := M) (more := more) ts).2
  cases h1 : itemB M ts with
  | er e' k' m' =>
    rw [h1] at h a
    cases h
    rw [a (.inl hm)]; rfl
  | ok d r =>
    rw [h1] at h a
    rw [bind_ok] at h
    unfold need at h
    cases r with
    | nil => simp [isW, bad] at h; omega
    | cons t r =>
      by_cases hs : isW sSc (t :: r) = true
      · rw [if_pos hs] at h; cases h
      · rw [if_neg hs] at h
        rw [a (.inl (by simp)), bind_ok]
        unfold need
        rw [isW_app, if_neg hs]
        unfold bad at h ⊢
        simp only [bind_er] at h ⊢
        cases h
        rw [List.length_append]

/-! ### Places -/
variable {g : Tok → Tok}
theorem mp_name (hg : Like g) (ts : List Tok) : nameO (ts.map g) = (nameO ts).mp g := by
  cases ts with
  | nil => rfl
  | cons t r =>
    have ea : isA (g t :: r.map g) = isA (t :: r) := by show (decide ((g t).k = 1) && !(reserved.contains (g t).t) && !((g t).t == sSc)) = _; rw [hg.k, hg.t]; rfl
    simp only [nameO, List.map_cons, ea, hg.t]
    split
    · rfl
    · simp [bad, Out.mp]
theorem mp_whole (hg : Like g) (ts : List Tok) : wholeO (ts.map g) = (wholeO ts).mp g := by
  cases ts with
  | nil => rfl
  | cons t r =>
    simp only [wholeO, List.map_cons, hg.k, hg.d, hg.n]
    split
    · split
      · rfl
      · simp [Out.mp]
    · simp [bad, Out.mp]
theorem mp_unit (hg : Like g) (ts : List Tok) : unitO (ts.map g) = (unitO ts).mp g := by
  unfold unitO
  rw [which_map hg]
  cases which units ts with
  | none => simp [bad, Out.mp]
  | some u => simp [Out.mp, List.map_tail]
theorem mp_opt {α : Type} (hg : Like g) {w : List UInt8} {p : List Tok → Out α} {d : α} (hp : ∀ r, p (r.map g) = (p r).mp g) (ts : List Tok) : optO w p d (ts.map g) = (optO w p d ts).mp g := by
  unfold optO
  rw [isW_map hg]
  split
  · rw [← List.map_tail, hp]
  · rfl
theorem mp_limited (hg : Like g) (ts : List Tok) : limited M (ts.map g) = (limited M ts).mp g := by
  unfold limited
  refine mp_bind (rd_map hg _ _) fun n r => ?_
  split
  · simp [Out.mp]
  · rfl
theorem mp_factB (hg : Like g) (ts : List Tok) : factB (ts.map g) = (factB ts).mp g :=
  mp_bind (mp_need hg _ _) fun _ _ => mp_bind (mp_name hg _) fun _ _ => mp_bind (mp_need hg _ _) fun _ _ => mp_bind (mp_unit hg _) fun _ _ => mp_bind (mp_whole hg _) fun _ _ => mp_bind (mp_need hg _ _) fun _ _ => mp_bind (mp_whole hg _) fun _ _ => by simp [Out.mp]
theorem mp_ruleB (hg : Like g) (ts : List Tok) : ruleB M (ts.map g) = (ruleB M ts).mp g := by
  unfold ruleB
  rw [which_map hg, List.length_map, ← List.map_tail]
  cases which kinds ts with
  | none => simp [bad, Out.mp]
  | some k => exact mp_bind (mp_name hg _) fun _ _ => mp_bind (mp_whole hg _) fun _ _ => mp_bind (mp_opt hg (mp_name hg) _) fun _ _ => mp_bind (mp_need hg _ _) fun _ _ => mp_bind (mp_whole hg _) fun _ _ => mp_bind (mp_opt hg (mp_whole hg) _) fun _ _ => mp_bind (mp_need hg _ _) fun _ _ => mp_bind (mp_whole hg _) fun _ _ => mp_bind (mp_opt hg (mp_limited hg) _) fun _ _ => mp_bind (mp_opt hg (mp_limited hg) _) fun _ _ => rfl
theorem mp_item (hg : Like g) (ts : List Tok) : item M (ts.map g) = (item M ts).mp g := by
  unfold item
  refine mp_bind ?_ fun d r => mp_bind (mp_need hg _ _) fun _ _ => rfl
  unfold itemB
  rw [isW_map hg]
  split
  · exact mp_bind (mp_factB hg _) fun _ _ => rfl
  · exact mp_bind (mp_ruleB hg _) fun _ _ => rfl
end
end Pa
end Go.Proofs.YtedbpjcglnkjmaaGreatDoor
namespace Go.Proofs.YtedbpjcglnkjmaaGreatDoor
namespace Pa
open Lx

section
variable {M : Int → Int → Int × Int × Int}
theorem skip_len : ∀ ts : List Tok, (skip ts).length ≤ ts.length - 1 := by
  intro ts
  induction ts with
  | nil => exact Nat.le_refl _
  | cons t r ih =>
    rw [skip]
    split
    · simp
    · simp at ih ⊢; omega
theorem skip_free {t : Tok} {r : List Tok} (ht : isT sSc t = true) : ∀ {pre : List Tok}, Free pre → skip (pre ++ t :: r) = r := by
  intro pre
  induction pre with
  | nil => intro _; rw [List.nil_append, skip, if_pos ht]
  | cons x y ih =>
    intro h
    rw [List.cons_append, skip, if_neg (by rw [h x (by simp)]; simp)]
    exact ih fun z hz => h z (by simp [hz])
theorem item_len {ts r : List Tok} {d : Item} (h : item M ts = .ok d r) : r.length < ts.length := by
  have g := good_item (M := M) ts
  rw [h] at g
  obtain ⟨pre, t, rfl, -, -⟩ := g
  simp; omega
theorem left_len {ts : List Tok} {e : Int} {k m : Nat} (h : item M ts = .er e k m) (h0 : ts.length ≠ 0) : (skip (ts.drop (ts.length - m))).length < ts.length ∧ (skip (ts.drop (ts.length - m))).length ≤ m - 1 ∧ k ≤ ts.length ∧ m ≤ k := by
  have g := good_item (M := M) ts
  rw [h] at g
  have h1 := g.2.1
  have h2 := g.2.2.1
  have h3 := skip_len (ts.drop (ts.length - m))
  rw [List.length_drop] at h3
  omega
theorem go_fuel : ∀ (f g : Nat) (ts : List Tok) (c : By), ts.length ≤ f → ts.length ≤ g → go M f ts c = go M g ts c := by
  intro f
  induction f with
  | zero =>
    intro g ts c h _
    cases g with
    | zero => rfl
    | succ g => rw [go, go, if_pos (.inl (by omega))]
  | succ f ih =>
    intro g ts c h k
    cases g with
    | zero => rw [go, go, if_pos (.inl (by omega))]
    | succ g =>
      rw [go, go]
      split
      · rfl
      · rename_i hc
        cases hi : item M ts with
        | ok d r => exact ih g r _ (by have := item_len hi; omega) (by have := item_len hi; omega)
        | er e k' m =>
          have := left_len hi (fun e => hc (.inl e))
          exact ih g _ _ (by omega) (by omega)
/-- By-laws, from some on. -/
def gof (M : Int → Int → Int × Int × Int) (ts : List Tok) (c : By) : By := go M ts.length ts c
theorem gof_nil (c : By) : gof M [] c = c := rfl
theorem gof_full {ts : List Tok} {c : By} (h : 20 ≤ c.es.length) : gof M ts c = c := by
  unfold gof
  cases ts.length with
  | zero => rfl
  | succ n => rw [go, if_pos (.inr h)]
theorem gof_ok {ts r : List Tok} {c : By} {d : Item} (h : ¬ 20 ≤ c.es.length) (hi : item M ts = .ok d r) : gof M ts c = gof M r (c.add ts.length d) := by
  have hl := item_len hi
  unfold gof
  obtain ⟨n, hn⟩ : ∃ n, ts.length = n + 1 := ⟨ts.length - 1, by omega⟩
  rw [hn, go, if_neg (by omega), hi]
  rw [← hn]
  exact go_fuel _ _ _ _ (by omega) (Nat.le_refl _)
theorem gof_er {ts : List Tok} {c : By} {e : Int} {k m : Nat} (h0 : ts ≠ []) (h : ¬ 20 ≤ c.es.length) (hi : item M ts = .er e k m) : gof M ts c = gof M (skip (ts.drop (ts.length - m))) (c.err e k) := by
  have h1 : ts.length ≠ 0 := fun e => h0 (List.length_eq_zero_iff.1 e)
  have hl := left_len hi h1
  unfold gof
  obtain ⟨n, hn⟩ : ∃ n, ts.length = n + 1 := ⟨ts.length - 1, by omega⟩
  rw [hn, go, if_neg (by omega), hi]
  rw [← hn]
  exact go_fuel _ _ _ _ (by omega) (Nat.le_refl _)
/-- Along the declarations. -/
theorem gof_ind {P : List Tok → By → By → Prop} (h1 : ∀ ts c, ts = [] ∨ 20 ≤ c.es.length → P ts c c)
    (h2 : ∀ ts r c d, ¬ 20 ≤ c.es.length → item M ts = .ok d r → ts ≠ [] → P r (c.add ts.length d) (gof M r (c.add ts.length d)) → P ts c (gof M r (c.add ts.length d)))
    (h3 : ∀ ts c e k m, ts ≠ [] → ¬ 20 ≤ c.es.length → item M ts = .er e k m → P (skip (ts.drop (ts.length - m))) (c.err e k) (gof M (skip (ts.drop (ts.length - m))) (c.err e k)) → P ts c (gof M (skip (ts.drop (ts.length - m))) (c.err e k))) :
    ∀ (n : Nat) (ts : List Tok) (c : By), ts.length ≤ n → P ts c (gof M ts c) := by
  intro n
  induction n with
  | zero =>
    intro ts c h
    obtain rfl : ts = [] := List.length_eq_zero_iff.1 (by omega)
    rw [gof_nil]
    exact h1 _ _ (.inl rfl)
  | succ n ih =>
    intro ts c h
    by_cases h0 : ts = []
    · subst h0; rw [gof_nil]; exact h1 _ _ (.inl rfl)
    · by_cases hf : 20 ≤ c.es.length
      · rw [gof_full hf]; exact h1 _ _ (.inr hf)
      · have hl : ts.length ≠ 0 := fun e => h0 (List.length_eq_zero_iff.1 e)
        cases hi : item M ts with
        | ok d r =>
          rw [gof_ok hf hi]
          exact h2 _ _ _ _ hf hi h0 (ih _ _ (by have := item_len hi; omega))
        | er e k m =>
          rw [gof_er h0 hf hi]
          exact h3 _ _ _ _ _ h0 hf hi (ih _ _ (by have := left_len hi hl; omega))

/-! ### Errors -/
theorem add_es (c : By) (k : Nat) (d : Item) : ((c.add k d).es = c.es ∧ (c.add k d).ds.length + (c.add k d).rs.length = c.ds.length + c.rs.length + 1) ∨ ((c.add k d).es = c.es ++ [(2, k)] ∧ (c.add k d).ds = c.ds ∧ (c.add k d).rs = c.rs) := by
  cases d with
  | fact d =>
    simp only [By.add]
    by_cases h : c.ds.length = 12
    · rw [if_pos h]; exact .inr ⟨rfl, rfl, rfl⟩
    · rw [if_neg h]; exact .inl ⟨rfl, by simp; omega⟩
  | rule d =>
    simp only [By.add]
    by_cases h : c.rs.length = 100
    · rw [if_pos h]; exact .inr ⟨rfl, rfl, rfl⟩
    · rw [if_neg h]; exact .inl ⟨rfl, by simp; omega⟩
structure Inv (N : Nat) (ts : List Tok) (c : By) : Prop where
  dec : c.es.Pairwise (fun p q => q.2 < p.2)
  low : ts = [] ∨ ∀ p ∈ c.es, ts.length < p.2
  top : c.es.length ≤ 20
  cod : ∀ p ∈ c.es, p.1 = 2 ∨ p.1 = 3 ∨ p.1 = 10
  bnd : ∀ p ∈ c.es, p.2 ≤ N
theorem inv_app {N : Nat} {ts ts' : List Tok} {c c' : By} {e : Int} {k : Nat} (h : Inv N ts c) (h0 : ts ≠ []) (hf : ¬ 20 ≤ c.es.length) (hes : c'.es = c.es ++ [(e, k)]) (hk : k ≤ ts.length) (hN : ts.length ≤ N) (he : e = 2 ∨ e = 3 ∨ e = 10) (hl : ts'.length ≤ k - 1 ) : Inv N ts' c' := by
  have low := h.low.resolve_left h0
  constructor
  · rw [hes, List.pairwise_append]
    refine ⟨h.dec, by simp, fun p hp q hq => ?_⟩
    rw [List.mem_singleton] at hq
    subst hq
    have := low p hp
    show k < p.2
    omega
  · by_cases h' : ts' = []
    · exact .inl h'
    · right
      have : ts'.length ≠ 0 := fun e => h' (List.length_eq_zero_iff.1 e)
      intro p hp
      rw [hes, List.mem_append, List.mem_singleton] at hp
      rcases hp with hp | rfl
      · have := low p hp; omega
      · show ts'.length < k; omega
  · rw [hes, List.length_append, List.length_singleton]; omega
  · intro p hp
    rw [hes, List.mem_append, List.mem_singleton] at hp
    rcases hp with hp | rfl
    · exact h.cod p hp
    · exact he
  · intro p hp
    rw [hes, List.mem_append, List.mem_singleton] at hp
    rcases hp with hp | rfl
    · exact h.bnd p hp
    · show k ≤ N; omega
theorem gof_inv {N : Nat} : ∀ (ts : List Tok) (c : By), ts.length ≤ N → Inv N ts c → Inv N [] (gof M ts c) := by
  intro ts c
  refine gof_ind (M := M) (P := fun ts c c' => ts.length ≤ N → Inv N ts c → Inv N [] c') ?_ ?_ ?_ ts.length ts c (Nat.le_refl _)
  · intro ts c h hN hi
    exact ⟨hi.dec, .inl rfl, hi.top, hi.cod, hi.bnd⟩
  · intro ts r c d hf hi h0 ih hN hc
    have hl := item_len hi
    refine ih (by omega) ?_
    rcases add_es c ts.length d with ⟨e1, -⟩ | ⟨e1, -⟩
    · refine ⟨by rw [e1]; exact hc.dec, .inr fun p hp => ?_, by rw [e1]; exact hc.top, by rw [e1]; exact hc.cod, by rw [e1]; exact hc.bnd⟩
      rw [e1] at hp
      have := hc.low.resolve_left h0 p hp
      omega
    · exact inv_app hc h0 hf e1 (Nat.le_refl _) hN (.inl rfl) (by omega)
  · intro ts c e k m h0 hf hi ih hN hc
    have hl := left_len hi (fun e => h0 (List.length_eq_zero_iff.1 e))
    have g := good_item (M := M) ts
    rw [hi] at g
    exact ih (by omega) (inv_app hc h0 hf rfl hl.2.2.1 hN g.1 (by omega))
/-- The errors of by-laws. -/
theorem parse_inv (ts : List Tok) : Inv ts.length [] (parse M ts) := gof_inv ts ⟨[], [], []⟩ (Nat.le_refl _) ⟨by simp, .inr (by simp), by simp, by simp, by simp⟩
theorem es_pre : ∀ (ts : List Tok) (c : By), c.es <+: (gof M ts c).es := by
  intro ts c
  refine gof_ind (M := M) (P := fun ts c c' => c.es <+: c'.es) ?_ ?_ ?_ ts.length ts c (Nat.le_refl _)
  · intro ts c _; exact List.prefix_refl _
  · intro ts r c d _ _ _ ih
    refine List.IsPrefix.trans ?_ ih
    rcases add_es c ts.length d with ⟨e, -⟩ | ⟨e, -⟩ <;> rw [e]
    · exact List.prefix_refl _
    · exact List.prefix_append _ _
  · intro ts c e k m _ _ _ ih
    exact List.IsPrefix.trans (List.prefix_append _ _) ih
theorem es_nil {ts : List Tok} {c : By} (h : (gof M ts c).es = []) : c.es = [] := by
  have := es_pre (M := M) ts c
  rw [h] at this
  exact List.prefix_nil.1 this
def semis (ts : List Tok) : Nat := ts.countP (isT sSc)
theorem semis_free {ts : List Tok} (h : Free ts) : semis ts = 0 := by
  unfold semis
  rw [List.countP_eq_zero]
  intro t ht
  rw [h t ht]; simp
theorem semis_item {ts r : List Tok} {d : Item} (h : item M ts = .ok d r) : semis ts = semis r + 1 := by
  have g := good_item (M := M) ts
  rw [h] at g
  obtain ⟨pre, t, rfl, fp, ht⟩ := g
  have := semis_free fp
  unfold semis at *
  rw [List.countP_append, this, List.countP_cons, ht]; simp
/-- Without errors there are as many declarations as semicolons. -/
theorem gof_semis : ∀ (ts : List Tok) (c : By), (gof M ts c).es = [] → (gof M ts c).ds.length + (gof M ts c).rs.length = c.ds.length + c.rs.length + semis ts := by
  intro ts c
  refine gof_ind (M := M) (P := fun ts c c' => c'.es = [] → c'.ds.length + c'.rs.length = c.ds.length + c.rs.length + semis ts) ?_ ?_ ?_ ts.length ts c (Nat.le_refl _)
  · intro ts c h he
    rcases h with rfl | h
    · simp [semis]
    · rw [he] at h; simp at h
  · intro ts r c d hf hi h0 ih he
    have h1 := ih he
    have h2 := es_nil he
    have h3 := semis_item hi
    rcases add_es c ts.length d with ⟨-, e⟩ | ⟨e, -⟩
    · omega
    · rw [e] at h2; simp at h2
  · intro ts c e k m h0 hf hi ih he
    have h2 := es_nil he
    simp [By.err] at h2
theorem parse_semis (ts : List Tok) (h : (parse M ts).es = []) : (parse M ts).ds.length + (parse M ts).rs.length = semis ts := by
  have := gof_semis (M := M) ts ⟨[], [], []⟩ h
  simpa [parse, gof] using this

/-! ### Concatenation -/
def By.sh (n : Nat) (c : By) : By := ⟨c.ds.map (Decl.sh n), c.rs.map (Rule.sh n), c.es.map fun p => (p.1, p.2 + n)⟩
theorem add_sh (n : Nat) (c : By) (k : Nat) (d : Item) : (c.sh n).add (k + n) (d.sh n) = (c.add k d).sh n := by
  cases d with
  | fact d =>
    by_cases h : c.ds.length = 12 <;> simp [By.add, By.sh, Item.sh, h]
  | rule d =>
    by_cases h : c.rs.length = 100 <;> simp [By.add, By.sh, Item.sh, h]
theorem gof_app (ts2 : List Tok) : ∀ (ts : List Tok) (c : By), (gof M ts c).es = [] → gof M (ts ++ ts2) (c.sh ts2.length) = gof M ts2 ((gof M ts c).sh ts2.length) := by
  intro ts c
  refine gof_ind (M := M) (P := fun ts c c' => c'.es = [] → gof M (ts ++ ts2) (c.sh ts2.length) = gof M ts2 (c'.sh ts2.length)) ?_ ?_ ?_ ts.length ts c (Nat.le_refl _)
  · intro ts c h he
    rcases h with rfl | h
    · rfl
    · rw [he] at h; simp at h
  · intro ts r c d hf hi h0 ih he
    rw [gof_ok (by simpa [By.sh] using hf) (item_ok hi ts2), List.length_append, add_sh]
    exact ih he
  · intro ts c e k m h0 hf hi ih he
    have h2 := es_nil he
    simp [By.err] at h2
/-- Declarations one after the other. -/
def addAll : List (Nat × Item) → By → By
  | [], c => c
  | p :: l, c => if 20 ≤ c.es.length then c else addAll l (c.add p.1 p.2)
theorem gof_list : ∀ (ts : List Tok) (c : By), (gof M ts c).es = [] → ∃ l, ∀ c', gof M ts c' = addAll l c' := by
  intro ts c
  refine gof_ind (M := M) (P := fun ts c c' => c'.es = [] → ∃ l, ∀ c', gof M ts c' = addAll l c') ?_ ?_ ?_ ts.length ts c (Nat.le_refl _)
  · intro ts c h he
    rcases h with rfl | h
    · exact ⟨[], fun _ => rfl⟩
    · rw [he] at h; simp at h
  · intro ts r c d hf hi h0 ih he
    obtain ⟨l, hl⟩ := ih he
    refine ⟨(ts.length, d) :: l, fun c' => ?_⟩
    rw [addAll]
    by_cases h : 20 ≤ c'.es.length
    · rw [if_pos h, gof_full h]
    · rw [if_neg h, gof_ok h hi, hl]
  · intro ts c e k m h0 hf hi ih he
    have h2 := es_nil he
    simp [By.err] at h2
def facts : List (Nat × Item) → List Decl
  | [] => []
  | (_, .fact d) :: l => d :: facts l
  | (_, .rule _) :: l => facts l
def rules : List (Nat × Item) → List Rule
  | [] => []
  | (_, .fact _) :: l => rules l
  | (_, .rule d) :: l => d :: rules l
theorem addAll_ok : ∀ (l : List (Nat × Item)) (c : By), c.es = [] → c.ds.length + (facts l).length ≤ 12 → c.rs.length + (rules l).length ≤ 100 → addAll l c = ⟨c.ds ++ facts l, c.rs ++ rules l, []⟩ := by
  intro l
  induction l with
  | nil => intro c h _ _; cases c; simp at h; subst h; simp [addAll, facts, rules]
  | cons p l ih =>
    intro c h h1 h2
    obtain ⟨k, d⟩ := p
    rw [addAll, h, if_neg (by simp)]
    cases d with
    | fact d =>
      simp only [facts, rules, List.length_cons] at h1 h2 ⊢
      simp only [By.add]
      rw [if_neg (by omega), ih ⟨c.ds ++ [d], c.rs, c.es⟩ h (by simp; omega) (by simpa using h2)]
      simp
    | rule d =>
      simp only [facts, rules, List.length_cons] at h1 h2 ⊢
      simp only [By.add]
      rw [if_neg (by omega), ih ⟨c.ds, c.rs ++ [d], c.es⟩ h (by simpa using h1) (by simp; omega)]
      simp
theorem addAll_es : ∀ (l : List (Nat × Item)) (c : By), c.es <+: (addAll l c).es := by
  intro l
  induction l with
  | nil => intro c; exact List.prefix_refl _
  | cons p l ih =>
    intro c
    rw [addAll]
    split
    · exact List.prefix_refl _
    · refine List.IsPrefix.trans ?_ (ih _)
      rcases add_es c p.1 p.2 with ⟨e, -⟩ | ⟨e, -⟩ <;> rw [e]
      · exact List.prefix_refl _
      · exact List.prefix_append _ _
theorem addAll_fit : ∀ (l : List (Nat × Item)) (c : By), (addAll l c).es = [] → c.ds.length ≤ 12 → c.rs.length ≤ 100 → c.ds.length + (facts l).length ≤ 12 ∧ c.rs.length + (rules l).length ≤ 100 := by
  intro l
  induction l with
  | nil => intro c _ h1 h2; simp [facts, rules]; exact ⟨h1, h2⟩
  | cons p l ih =>
    intro c h h1 h2
    obtain ⟨k, d⟩ := p
    have hc : c.es = [] := List.prefix_nil.1 (h ▸ addAll_es ((k, d) :: l) c)
    rw [addAll, hc, if_neg (by simp)] at h
    have hc2 : (c.add k d).es = [] := List.prefix_nil.1 (h ▸ addAll_es l (c.add k d))
    cases d with
    | fact d =>
      simp only [By.add] at h hc2
      by_cases h12 : c.ds.length = 12
      · rw [if_pos h12] at hc2; simp at hc2
      · rw [if_neg h12] at h
        have := ih _ h (by simp; omega) h2
        simp only [facts, rules, List.length_cons, List.length_append, List.length_nil] at this ⊢
        omega
    | rule d =>
      simp only [By.add] at h hc2
      by_cases h12 : c.rs.length = 100
      · rw [if_pos h12] at hc2; simp at hc2
      · rw [if_neg h12] at h
        have := ih _ h h1 (by simp; omega)
        simp only [facts, rules, List.length_cons, List.length_append, List.length_nil] at this ⊢
        omega
/-- The by-laws of two texts. -/
theorem parse_join {ta tb : List Tok} (ha : (parse M ta).es = []) (hb : (parse M tb).es = []) :
    (((parse M ta).ds.length + (parse M tb).ds.length ≤ 12 ∧ (parse M ta).rs.length + (parse M tb).rs.length ≤ 100) ∧ parse M (ta ++ tb) = ⟨(parse M ta).ds.map (Decl.sh tb.length) ++ (parse M tb).ds, (parse M ta).rs.map (Rule.sh tb.length) ++ (parse M tb).rs, []⟩)
    ∨ (¬ ((parse M ta).ds.length + (parse M tb).ds.length ≤ 12 ∧ (parse M ta).rs.length + (parse M tb).rs.length ≤ 100) ∧ (parse M (ta ++ tb)).es ≠ []) := by
  obtain ⟨la, hla⟩ := gof_list (M := M) ta ⟨[], [], []⟩ ha
  obtain ⟨lb, hlb⟩ := gof_list (M := M) tb ⟨[], [], []⟩ hb
  have e := gof_app (M := M) tb ta ⟨[], [], []⟩ ha
  have ea : parse M ta = addAll la ⟨[], [], []⟩ := hla _
  have eb : parse M tb = addAll lb ⟨[], [], []⟩ := hlb _
  have fa := addAll_fit la ⟨[], [], []⟩ (ea ▸ ha) (by simp) (by simp)
  have fb := addAll_fit lb ⟨[], [], []⟩ (eb ▸ hb) (by simp) (by simp)
  rw [addAll_ok la _ rfl fa.1 fa.2] at ea
  rw [addAll_ok lb _ rfl fb.1 fb.2] at eb
  have ej : parse M (ta ++ tb) = addAll lb ((parse M ta).sh tb.length) := by
    rw [← hlb]; exact e
  rw [ea] at ej ⊢
  rw [eb]
  simp only [List.nil_append] at ej ⊢
  by_cases hf : (facts la).length + (facts lb).length ≤ 12 ∧ (rules la).length + (rules lb).length ≤ 100
  · left
    refine ⟨hf, ?_⟩
    rw [ej, addAll_ok lb _ rfl (by simpa [By.sh] using hf.1) (by simpa [By.sh] using hf.2)]
    simp [By.sh]
  · right
    refine ⟨hf, fun h => hf ?_⟩
    rw [ej] at h
    have := addAll_fit lb _ h (by simp [By.sh]; simp at fa; exact fa.1) (by simp [By.sh]; simp at fa; exact fa.2)
    simpa [By.sh] using this

/-! ### Recovery -/
theorem addAll_err : ∀ (l : List (Nat × Item)) (c : By), ¬ 20 ≤ c.es.length → c.ds.length + (facts l).length ≤ 12 → c.rs.length + (rules l).length ≤ 100 → (addAll l c).es = c.es := by
  intro l
  induction l with
  | nil => intro c _ _ _; rfl
  | cons p l ih =>
    intro c h h1 h2
    obtain ⟨k, d⟩ := p
    rw [addAll, if_neg h]
    cases d with
    | fact d =>
      simp only [facts, rules, List.length_cons] at h1 h2
      simp only [By.add]
      rw [if_neg (by omega), ih ⟨c.ds ++ [d], c.rs, c.es⟩ h (by simp; omega) (by simpa using h2)]
    | rule d =>
      simp only [facts, rules, List.length_cons] at h1 h2
      simp only [By.add]
      rw [if_neg (by omega), ih ⟨c.ds, c.rs ++ [d], c.es⟩ h (by simpa using h1) (by simp; omega)]
theorem parse_recover {ta tb pre : List Tok} {t : Tok} (fp : Free pre) (ht : isT sSc t = true) (ha : (parse M ta).es = []) (hb : (parse M tb).es = []) (hab : (parse M (ta ++ tb)).es = []) (hbad : (parse M (pre ++ [t])).es ≠ []) :
    ∃ e k, 0 < k ∧ k ≤ pre.length + 1 ∧ (parse M (pre ++ [t])).es = [(e, k)] ∧ (parse M (ta ++ ((pre ++ [t]) ++ tb))).es = [(e, k + tb.length)] := by
  have hne : pre ++ [t] ≠ [] := by simp
  cases hi : item M (pre ++ [t]) with
  | ok d r =>
    exfalso
    have hs := semis_item hi
    have hs2 : semis (pre ++ [t]) = 1 := by
      have := semis_free fp
      unfold semis at *
      rw [List.countP_append, this, List.countP_cons, ht]; simp
    have g := good_item (M := M) (pre ++ [t])
    rw [hi] at g
    obtain ⟨p2, t2, e, f2, ht2⟩ := g
    have hr : r = [] := by
      have e2 := skip_free ht (r := []) fp
      rw [e, skip_free ht2 f2] at e2
      exact e2
    subst hr
    apply hbad
    show (gof M _ _).es = []
    rw [gof_ok (by simp) hi, gof_nil]
    rcases add_es ⟨[], [], []⟩ (pre ++ [t]).length d with ⟨e1, -⟩ | ⟨e1, -⟩
    · exact e1
    · cases d <;> simp [By.add]
  | er e k m =>
    have g := good_item (M := M) (pre ++ [t])
    rw [hi] at g
    obtain ⟨he, hk, hmk, p2, q, epq, hq, f2⟩ := g
    have hm : 0 < m := by
      rcases Nat.eq_zero_or_pos m with h | h
      · exfalso
        have : q = [] := List.length_eq_zero_iff.1 (by omega)
        subst this
        rw [List.append_nil] at epq
        have := f2 t (by rw [← epq]; simp)
        rw [ht] at this; cases this
      · exact h
    have eq : ∃ q', q = q' ++ [t] ∧ Free q' := by
      have hq0 : q ≠ [] := by rintro rfl; simp at hq; omega
      refine ⟨q.dropLast, ?_, ?_⟩
      · have h1 : (pre ++ [t]).getLast (by simp) = t := by simp
        have h2 : q.getLast hq0 = t := by
          have : (p2 ++ q).getLast (by simp [hq0]) = q.getLast hq0 := List.getLast_append_of_ne_nil _ _
          rw [← this, ← h1]
          congr 1
          exact epq.symm
        have h3 := List.dropLast_concat_getLast hq0
        rw [h2] at h3
        exact h3.symm
      · intro x hx
        have h1 : (pre ++ [t]).dropLast = pre := by simp
        have h2 : (p2 ++ q).dropLast = p2 ++ q.dropLast := List.dropLast_append_of_ne_nil hq0
        rw [epq, h2] at h1
        exact fp x (by rw [← h1]; simp [hx])
    obtain ⟨q', rfl, fq⟩ := eq
    have hdrop : (pre ++ [t]).drop ((pre ++ [t]).length - m) = q' ++ [t] := by
      rw [epq, List.length_append, hq, Nat.add_sub_cancel, List.drop_left]
    refine ⟨e, k, by omega, by simpa using hk, ?_, ?_⟩
    · show (gof M _ _).es = _
      rw [gof_er hne (by simp) hi, hdrop, skip_free ht fq, gof_nil]
      simp [By.err]
    · obtain ⟨lb, hlb⟩ := gof_list (M := M) tb ⟨[], [], []⟩ hb
      have e1 := gof_app (M := M) ((pre ++ [t]) ++ tb) ta ⟨[], [], []⟩ ha
      have e2 := gof_app (M := M) tb ta ⟨[], [], []⟩ ha
      have hf := addAll_fit lb ((gof M ta ⟨[], [], []⟩).sh tb.length) (by rw [← hlb, ← e2]; exact hab)
      have hfa : (gof M ta ⟨[], [], []⟩).ds.length ≤ 12 ∧ (gof M ta ⟨[], [], []⟩).rs.length ≤ 100 := by
        obtain ⟨la, hla⟩ := gof_list (M := M) ta ⟨[], [], []⟩ ha
        have fa := addAll_fit la ⟨[], [], []⟩ (by rw [← hla]; exact ha) (by simp) (by simp)
        rw [hla, addAll_ok la _ rfl fa.1 fa.2]
        simpa using fa
      have hf := hf (by simpa [By.sh] using hfa.1) (by simpa [By.sh] using hfa.2)
      show (gof M (ta ++ ((pre ++ [t]) ++ tb)) ((⟨[], [], []⟩ : By).sh ((pre ++ [t]) ++ tb).length)).es = _
      rw [e1]
      have hes : (gof M ta ⟨[], [], []⟩).es = [] := ha
      have hi2 := item_er hi hm tb
      rw [gof_er (by simp) (by simp [By.sh, hes]) hi2]
      have hd2 : (pre ++ [t] ++ tb).drop ((pre ++ [t] ++ tb).length - (m + tb.length)) = (q' ++ [t]) ++ tb := by
        rw [List.length_append, Nat.add_sub_add_right, List.drop_append_of_le_length (by omega), hdrop]
      rw [hd2, List.append_assoc, List.singleton_append, skip_free ht fq, hlb, addAll_err]
      · simp [By.err, By.sh, hes]
      · simp [By.err, By.sh, hes]
      · simpa [By.err, By.sh] using hf.1
      · simpa [By.err, By.sh] using hf.2
/-- The places of tokens change nothing. -/
theorem parse_map {g : Tok → Tok} (hg : Like g) : ∀ (f : Nat) (ts : List Tok) (c : By), go M f (ts.map g) c = go M f ts c := by
  intro f
  induction f with
  | zero => intro ts c; rfl
  | succ f ih =>
    intro ts c
    rw [go, go, List.length_map, mp_item hg]
    split
    · rfl
    · cases item M ts with
      | ok d r => exact ih r _
      | er e k m =>
        simp only [Out.mp]
        have hsk : ∀ l : List Tok, skip (l.map g) = (skip l).map g := by
          intro l
          induction l with
          | nil => rfl
          | cons x y ih =>
            have : isT sSc (g x) = isT sSc x := by unfold isT; rw [hg.k, hg.t]
            rw [List.map_cons, skip, skip, this]
            split
            · rfl
            · exact ih
        rw [← List.map_drop, hsk]
        exact ih _ _
end
end Pa
end Go.Proofs.YtedbpjcglnkjmaaGreatDoor
namespace Go.Proofs.YtedbpjcglnkjmaaGreatDoor
namespace Pa
open Lx

mutual
/-- The same expression without its places. -/
def Tree.z : Tree → Tree
  | .mk op _ nm n d u ks => .mk op 0 nm n d u (zL ks)
def zL : List Tree → List Tree
  | [] => []
  | k :: ks => k.z :: zL ks
end
mutual
theorem z_sh (c : Nat) : ∀ n : Tree, (n.sh c).z = n.z
  | .mk _ _ _ _ _ _ ks => by simp only [Tree.sh, Tree.z, zL_sh c ks]
theorem zL_sh (c : Nat) : ∀ l : List Tree, zL (shL c l) = zL l
  | [] => rfl
  | k :: ks => by simp only [shL, zL, z_sh c k, zL_sh c ks]
end
mutual
theorem siz_z : ∀ n : Tree, n.z.siz = n.siz
  | .mk _ _ _ _ _ _ ks => by simp only [Tree.z, Tree.siz, sizL_z ks]
theorem sizL_z : ∀ l : List Tree, sizL (zL l) = sizL l
  | [] => rfl
  | k :: ks => by simp only [zL, sizL, siz_z k, sizL_z ks]
end
mutual
theorem dep_z : ∀ n : Tree, n.z.dep = n.dep
  | .mk _ _ _ _ _ _ ks => by simp only [Tree.z, Tree.dep, depL_z ks]
theorem depL_z : ∀ l : List Tree, depL (zL l) = depL l
  | [] => rfl
  | k :: ks => by simp only [zL, depL, dep_z k, depL_z ks]
end
theorem big_z {n m : Tree} (h : n.z = m.z) : big n = big m := by
  unfold big
  rw [← siz_z n, ← dep_z n, h, siz_z, dep_z]
/-- A word or sign, whatever its place. -/
def Is (w : List UInt8) (t : Tok) : Prop := t.k ≠ 2 ∧ t.t = w
theorem Is.isT {w s : List UInt8} {t : Tok} (h : Is w t) : isT s t = (w == s) := by
  unfold Pa.isT
  rw [decide_eq_true h.1, h.2, Bool.true_and]
def idxI : List (List UInt8) → List UInt8 → Nat → Option Nat
  | [], _, _ => none
  | x :: l, w, i => if (w == x) = true then some i else idxI l w (i + 1)
theorem which_is {w : List UInt8} {t : Tok} (h : Is w t) (r : List Tok) : ∀ (l : List (List UInt8)) (i : Nat), whichI l (t :: r) i = idxI l w i := by
  intro l
  induction l with
  | nil => intro i; rfl
  | cons x l ih =>
    intro i
    rw [whichI, idxI, ih]
    show (if isT x t = true then _ else _) = _
    rw [h.isT]
theorem which_is' {w : List UInt8} {t : Tok} (h : Is w t) (r : List Tok) (l : List (List UInt8)) : which l (t :: r) = idxI l w 0 := which_is h r l 0
theorem need_is {w : List UInt8} {t : Tok} (h : Is w t) (r : List Tok) : need w (t :: r) = .ok () r := by
  unfold need
  rw [if_pos (show isW w (t :: r) = true from by show isT w t = true; rw [h.isT]; simp)]; rfl
theorem isW_is {w s : List UInt8} {t : Tok} (h : Is w t) (r : List Tok) : isW s (t :: r) = (w == s) := h.isT
/-- None of the operators from level l on. -/
def Stp (l : Nat) (more : List Tok) : Prop := ∀ l', l ≤ l' → l' ≤ 5 → which (signs l') more = none
theorem stp_nil (l : Nat) : Stp l [] := fun _ _ _ => which_nil _
theorem stp_is {w : List UInt8} {t : Tok} {l : Nat} (h : Is w t) (k : ∀ l', l ≤ l' → l' ≤ 5 → idxI (signs l') w 0 = none) (r : List Tok) : Stp l (t :: r) := fun l' h1 h2 => by rw [which_is' h]; exact k l' h1 h2
theorem Stp.up {l l' : Nat} {more : List Tok} (h : Stp l more) (k : l ≤ l') : Stp l' more := fun x h1 h2 => h x (by omega) h2

section
variable {M : Int → Int → Int × Int × Int}
/-- Tokens that are read as an expression (but for places) by level l. -/
def El (M : Int → Int → Int × Int × Int) (l : Nat) (A : List Tok) (x : Tree) : Prop := ∀ more, Stp l more → ∃ n, rd M (.row l) (A ++ more) = .ok n more ∧ n.z = x
/-- Tokens that a row of operators of level l has read. -/
def Ch (M : Int → Int → Int × Int × Int) (l : Nat) (A : List Tok) (x : Tree) : Prop := ∀ more, Stp (l + 1) more → ∃ n pl, rd M (.row l) (A ++ more) = rd M (.loop l pl n) more ∧ n.z = x
theorem el_ch {l : Nat} {A : List Tok} {x : Tree} (hl : l < 6) (h2 : l ≠ 2) (h : El M (l + 1) A x) : Ch M l A x := by
  intro more hm
  obtain ⟨n, hn, hz⟩ := h more hm
  refine ⟨n, (A ++ more).length, ?_, hz⟩
  rw [rd_eq]
  simp only [step]
  rw [if_neg (by omega), if_neg h2, hn, bind_ok]
theorem ch_el {l : Nat} {A : List Tok} {x : Tree} (hl : l < 6) (h : Ch M l A x) : El M l A x := by
  intro more hm
  obtain ⟨n, pl, hn, hz⟩ := h more (hm.up (by omega))
  refine ⟨n, ?_, hz⟩
  rw [hn, rd_eq]
  simp only [step]
  rw [hm l (Nat.le_refl _) (by omega)]
theorem el_up {l : Nat} {A : List Tok} {x : Tree} (hl : l < 6) (h2 : l ≠ 2) (h : El M (l + 1) A x) : El M l A x := ch_el hl (el_ch hl h2 h)
theorem el_not2 {A : List Tok} {x : Tree} {t : Tok} {A' : List Tok} (hA : A = t :: A') (ht : isT kNot t = false) (h : El M 3 A x) : El M 2 A x := by
  intro more hm
  obtain ⟨n, hn, hz⟩ := h more (hm.up (by omega))
  refine ⟨n, ?_, hz⟩
  subst hA
  rw [rd_eq]
  simp only [step]
  rw [if_neg (by omega), if_pos trivial, if_neg (by show ¬ isT kNot t = true; rw [ht]; simp)]
  exact hn
/-- From a factor down to level l. -/
theorem el_down {A : List Tok} {x : Tree} {t : Tok} {A' : List Tok} (hA : A = t :: A') (ht : isT kNot t = false) : ∀ (k l : Nat), l + k = 6 → ∀ l0, l ≤ l0 → l0 ≤ 6 → El M l0 A x → El M l A x := by
  intro k
  induction k with
  | zero =>
    intro l h l0 h1 h2 hx
    obtain rfl : l0 = l := by omega
    exact hx
  | succ k ih =>
    intro l h l0 h1 h2 hx
    by_cases e : l0 = l
    · subst e; exact hx
    · have h3 := ih (l + 1) (by omega) l0 (by omega) h2 hx
      by_cases e2 : l = 2
      · subst e2; exact el_not2 hA ht h3
      · exact el_up (by omega) e2 h3
theorem el_to {A : List Tok} {x : Tree} {t : Tok} {A' : List Tok} {l l0 : Nat} (hA : A = t :: A') (ht : isT kNot t = false) (h1 : l ≤ l0) (h2 : l0 ≤ 6) (h : El M l0 A x) : El M l A x := el_down hA ht (6 - l) l (by omega) l0 h1 h2 h
def op2 (o : Int) (x y : Tree) : Tree := .mk o 0 [] 0 0 1 [x, y]
/-- One operator more of a row. -/
theorem ch_bin {l i : Nat} {A B : List Tok} {x y : Tree} {s : Tok} {w : List UInt8} (h3 : l ≠ 3) (hA : Ch M l A x) (hB : El M (l + 1) B y) (hs : Is w s) (hi : idxI (signs l) w 0 = some i) (hn : ∀ l', l + 1 ≤ l' → l' ≤ 5 → idxI (signs l') w 0 = none) : Ch M l (A ++ s :: B) (op2 ((ops l).getD i 0) x y) := by
  intro more hm
  obtain ⟨n, pl, hn1, hz⟩ := hA (s :: (B ++ more)) (stp_is hs hn _)
  obtain ⟨m, hm1, hy⟩ := hB more hm
  refine ⟨.mk ((ops l).getD i 0) pl [] 0 0 1 [n, m], pl, ?_, by simp [Tree.z, zL, op2, hz, hy]⟩
  rw [List.append_assoc, List.cons_append, hn1, rd_eq]
  simp only [step]
  rw [which_is' hs, hi]
  simp only [List.tail_cons]
  rw [hm1, bind_ok, if_neg h3]
/-- A comparison. -/
theorem el_cmp {i : Nat} {A B : List Tok} {x y : Tree} {s : Tok} {w : List UInt8} (hA : El M 4 A x) (hB : El M 4 B y) (hs : Is w s) (hi : idxI (signs 3) w 0 = some i) (hn : ∀ l', 4 ≤ l' → l' ≤ 5 → idxI (signs l') w 0 = none) : El M 3 (A ++ s :: B) (if 3 < i then op2 ((ops 3).getD i 0) y x else op2 ((ops 3).getD i 0) x y) := by
  intro more hm
  obtain ⟨n, pl, hn1, hz⟩ := el_ch (M := M) (l := 3) (by omega) (by omega) hA (s :: (B ++ more)) (stp_is hs hn _)
  obtain ⟨m, hm1, hy⟩ := hB more (hm.up (by omega))
  refine ⟨.mk ((ops 3).getD i 0) pl [] 0 0 1 (if 3 < i then [m, n] else [n, m]), ?_, ?_⟩
  · rw [List.append_assoc, List.cons_append, hn1, rd_eq]
    simp only [step]
    rw [which_is' hs, hi]
    simp only [List.tail_cons]
    rw [hm1, bind_ok, if_pos trivial]
  · by_cases h : 3 < i <;> simp [Tree.z, zL, op2, hz, hy, h]
/-- A text that Expr reads: its tokens are an expression, as a whole. -/
def Ex (M : Int → Int → Int × Int × Int) (A : List Tok) (x : Tree) : Prop := ∀ more, Stop more → ∃ n, rd M .ex (A ++ more) = .ok n more ∧ n.z = x
theorem el_ex {A : List Tok} {x : Tree} {t : Tok} {A' : List Tok} (hA : A = t :: A') (ht : isT kIf t = false) (h : El M 0 A x) : Ex M A x := by
  intro more hm
  obtain ⟨n, hn, hz⟩ := h more (fun l' _ _ => which_stop hm (signs_conts l'))
  refine ⟨n, ?_, hz⟩
  subst hA
  rw [rd_eq]
  simp only [step]
  rw [if_neg (by show ¬ isT kIf t = true; rw [ht]; simp)]
  exact hn
theorem rd_exx {A : List Tok} {n : Tree} (h : rd M .ex A = .ok n []) : Ex M A n.z := by
  intro more hm
  have := rd_ok h (.inr hm)
  simp only [Job.sh, List.nil_append] at this
  exact ⟨_, this, z_sh _ _⟩
theorem stop_is {w : List UInt8} {t : Tok} (h : Is w t) (k : conts.contains w = false) (r : List Tok) : Stop (t :: r) := fun s hs => by
  show isT s t = false
  rw [h.isT]
  by_cases e : w = s
  · subst e
    have : conts.contains w = true := by simpa using hs
    rw [this] at k; cases k
  · simpa using e
/-- An expression in brackets is a factor. -/
theorem el_br {A : List Tok} {x : Tree} {p q : Tok} (hA : Ex M A x) (hp : Is sLp p) (hp3 : p.k ≠ 1) (hq : Is sRp q) : El M 6 (p :: A ++ [q]) x := by
  intro more hm
  obtain ⟨n, hn, hz⟩ := hA (q :: more) (stop_is hq (by decide) _)
  refine ⟨n, ?_, hz⟩
  rw [rd_eq]
  simp only [step]
  rw [if_pos (by omega), List.cons_append, List.cons_append]
  simp only [factor]
  rw [if_neg hp.1]
  have ea : isA (p :: (A ++ [q] ++ more)) = false := by
    show (decide (p.k = 1) && !(reserved.contains p.t) && !(p.t == sSc)) = false
    rw [decide_eq_false hp3]; rfl
  rw [ea, if_neg (by simp), if_neg (by rw [hp.isT]; decide), if_pos (by rw [hp.isT]; decide), List.append_assoc, List.singleton_append, hn, bind_ok, need_is hq, bind_ok]
def op1 (o : Int) (x : Tree) : Tree := .mk o 0 [] 0 0 1 [x]
theorem el_neg {A : List Tok} {x : Tree} {t : Tok} (ht : Is kNot t) (hA : El M 2 A x) : El M 2 (t :: A) (op1 15 x) := by
  intro more hm
  obtain ⟨n, hn, hz⟩ := hA more hm
  refine ⟨.mk 15 (t :: A ++ more).length [] 0 0 1 [n], ?_, by simp [Tree.z, zL, op1, hz]⟩
  rw [rd_eq]
  simp only [step]
  rw [if_neg (by omega), if_pos trivial, if_pos (by show isT kNot t = true; rw [ht.isT]; decide), List.cons_append, List.tail_cons, hn, bind_ok]
def op3 (o : Int) (x y z : Tree) : Tree := .mk o 0 [] 0 0 1 [x, y, z]
theorem ex_if {A B C : List Tok} {x y z : Tree} {t1 t2 t3 : Tok} (h1 : Is kIf t1) (h2 : Is kThen t2) (h3 : Is kElse t3) (hA : Ex M A x) (hB : Ex M B y) (hC : Ex M C z) : Ex M (t1 :: (A ++ t2 :: (B ++ t3 :: C))) (op3 16 x y z) := by
  intro more hm
  obtain ⟨a, ha, az⟩ := hA (t2 :: (B ++ t3 :: (C ++ more))) (stop_is h2 (by decide) _)
  obtain ⟨b, hb, bz⟩ := hB (t3 :: (C ++ more)) (stop_is h3 (by decide) _)
  obtain ⟨c, hc, cz⟩ := hC more hm
  refine ⟨.mk 16 (t1 :: (A ++ t2 :: (B ++ t3 :: C)) ++ more).length [] 0 0 1 [a, b, c], ?_, by simp [Tree.z, zL, op3, az, bz, cz]⟩
  rw [rd_eq]
  simp only [step]
  rw [if_pos (by show isT kIf t1 = true; rw [h1.isT]; decide)]
  have e : (t1 :: (A ++ t2 :: (B ++ t3 :: C)) ++ more).tail = A ++ t2 :: (B ++ t3 :: (C ++ more)) := by simp
  rw [e, ha, bind_ok, need_is h2, bind_ok, hb, bind_ok, need_is h3, bind_ok, hc, bind_ok]
end
end Pa
end Go.Proofs.YtedbpjcglnkjmaaGreatDoor
namespace Go.Proofs.YtedbpjcglnkjmaaGreatDoor
namespace Pa
open Lx

variable {V : Nat → Int × Int × Int}
theorem drop_past (g y : List UInt8) (k : Nat) : (g ++ y).drop (g.length + k) = y.drop k := by
  rw [← List.drop_drop, List.drop_left]
theorem lx_shut {g : List UInt8} (hS : Shut g) (f i : Nat) (y : List UInt8) : lx V f i (g ++ y) = lx V f (i + g.length) y := by
  have h1 := hS y
  have h2 := gp_le y false
  by_cases h : gp false y = y.length
  · rw [lx_end h, lx_end (by rw [h1, List.length_append]; omega)]
  · cases f with
    | zero =>
      simp only [lx]
      rw [if_neg h, if_neg (by rw [h1, List.length_append]; omega), h1]
      congr 1; omega
    | succ f =>
      simp only [lx]
      rw [if_neg h, if_neg (by rw [h1, List.length_append]; omega), h1, drop_past]
      cases nx V (y.drop (gp false y)) with
      | er e => simp only []; congr 1; omega
      | ok t n =>
        simp only []
        rw [Nat.add_assoc g.length, drop_past, ← Nat.add_assoc i]
theorem lx_len : ∀ (f i : Nat) (l : List UInt8) (ts : List Tok), lx V f i l = .ok ts → ts.length ≤ l.length := by
  intro f
  induction f with
  | zero =>
    intro i l ts h
    rcases lx_ok h with ⟨-, rfl⟩ | ⟨f', t, n, us, e, -⟩
    · simp
    · omega
  | succ f ih =>
    intro i l ts h
    rcases lx_ok h with ⟨-, rfl⟩ | ⟨f', t, n, us, e, h1, h2, h3, rfl⟩
    · simp
    · obtain rfl : f' = f := by omega
      have := ih _ _ _ h3
      have hp := nx_pos h2
      rw [List.length_drop] at this hp
      simp only [List.length_cons]
      omega
theorem like_mov (i : Int) : Like (mov i) := ⟨fun _ => rfl, fun _ => rfl, fun _ => rfl, fun _ => rfl⟩
/-- Its tokens do not depend on what is behind. -/
def Clo (V : Nat → Int × Int × Int) (x : List UInt8) (ts : List Tok) : Prop := ∀ (f i : Nat) (y : List UInt8), ts.length ≤ f → lx V f i (x ++ y) = (lx V (f - ts.length) (i + x.length) y).app (ts.map (mov i))
theorem map_mov (i j : Nat) (l : List Tok) : (l.map (mov i)).map (mov j) = l.map (mov ((j + i : Nat) : Int)) := by
  rw [List.map_map]
  congr 1
  funext t
  show mov j (mov i t) = _
  rw [mov_mov]
  congr 1; omega
theorem Clo.app {x y : List UInt8} {t1 t2 : List Tok} (h1 : Clo V x t1) (h2 : Clo V y t2) : Clo V (x ++ y) (t1 ++ t2.map (mov (x.length : Nat))) := by
  intro f i z hf
  rw [List.length_append, List.length_map] at hf
  rw [List.append_assoc, h1 f i (y ++ z) (by omega), h2 _ _ z (by omega), app_app, List.map_append, map_mov, List.length_append, List.length_append, List.length_map, Nat.sub_sub, Nat.add_assoc]
theorem clo_nil : Clo V [] [] := fun f i y _ => by simp [app_nil]
theorem clo_gap {g : List UInt8} (h : Shut g) : Clo V g [] := fun f i y _ => by rw [lx_shut h]; simp [app_nil]
theorem lex_lx {a : List UInt8} {ts : List Tok} (h : lex V a = .ok ts) (f i : Nat) (hf : ts.length ≤ f) : lx V f i a = .ok (ts.map (mov i)) := by
  unfold lex at h
  split at h
  · cases h
  · have h1 := (lx_fuel _ _ _ _ h).2.1 f hf
    have h2 := lx_mv (V := V) f 0 i a
    rw [Nat.zero_add, h1] at h2
    exact h2
/-- A source with a line feed behind it. -/
theorem clo_lex {a : List UInt8} {ts : List Tok} (h : lex V a = .ok ts) : Clo V (a ++ [10]) ts := by
  intro f i y hf
  have := lx_join f i a _ y (lex_lx h f i hf)
  rw [List.append_assoc, List.singleton_append, this, List.length_map, List.length_append, List.length_singleton, Nat.add_assoc]
/-- A token that is read whatever of this kind is behind it. -/
theorem lx_tok {w z : List UInt8} {t : Tok} (hg : gp false (w ++ z) = 0) (h : nx V (w ++ z) = .ok t w.length) (hw : w ≠ []) (f i : Nat) : lx V (f + 1) i (w ++ z) = (lx V f (i + w.length) z).app [mov i t] := by
  have hl : 0 < (w ++ z).length := by
    rw [List.length_append]
    have : w.length ≠ 0 := fun e => hw (List.length_eq_zero_iff.1 e)
    omega
  rw [lx_cons (by rw [hg]; exact hl) (by rw [hg]; exact h), hg]
  simp
theorem clo_one {w : List UInt8} {t : Tok} (hw : w ≠ []) (hg : ∀ z, gp false (w ++ z) = 0) (h : ∀ z, nx V (w ++ z) = .ok t w.length) : Clo V w [t] := by
  intro f i y hf
  obtain ⟨g, rfl⟩ : ∃ g, f = g + 1 := ⟨f - 1, by simp at hf; omega⟩
  rw [lx_tok (hg y) (h y) hw]
  simp
/-- A token in front of a text that ends it. -/
theorem clo_two {w v : List UInt8} {t : Tok} {ts : List Tok} (hw : w ≠ []) (hg : ∀ z, gp false (w ++ (v ++ z)) = 0) (h : ∀ z, nx V (w ++ (v ++ z)) = .ok t w.length) (hv : Clo V v ts) : Clo V (w ++ v) (t :: ts.map (mov (w.length : Nat))) := by
  intro f i y hf
  obtain ⟨g, rfl⟩ : ∃ g, f = g + 1 := ⟨f - 1, by simp at hf; omega⟩
  rw [List.append_assoc, lx_tok (hg y) (h y) hw, hv g _ y (by simpa using hf), app_app, List.map_cons, map_mov, List.length_cons, List.length_map, List.length_append, Nat.add_assoc, Nat.add_sub_add_right]
  rfl
/-- A whole source. -/
theorem Clo.lex {x : List UInt8} {ts : List Tok} (h : Clo V x ts) (hx : x.length ≤ 8000) (ht : ts.length ≤ 2000) : lex V x = .ok ts := by
  have := h 2000 0 [] ht
  rw [List.append_nil] at this
  unfold Lx.lex
  rw [if_neg (by omega), this, lx_end (by rfl)]
  simp only [Res.app, List.append_nil]
  congr 1
  have : (mov ((0 : Nat) : Int)) = (fun t => t) := by
    funext t; unfold mov; simp
  rw [this, List.map_id']
/-- Tokens but for places. -/
def cl (t : Tok) : Tok := { t with a := 0 }
theorem like_cl : Like cl := ⟨fun _ => rfl, fun _ => rfl, fun _ => rfl, fun _ => rfl⟩
theorem cl_mov (i : Int) (l : List Tok) : (l.map (mov i)).map cl = l.map cl := by
  rw [List.map_map]; rfl
theorem lex_len {a : List UInt8} {ts : List Tok} (h : lex V a = .ok ts) : ts.length ≤ a.length ∧ a.length ≤ 8000 := by
  unfold Lx.lex at h
  split at h
  · cases h
  · exact ⟨lx_len _ _ _ _ h, by omega⟩
theorem shut_sp : Shut [32] := fun x => by simp [gp, blk]
theorem shut_lf : Shut [10] := fun x => by simp [gp, blk]
theorem clo_lp : Clo V sLp [⟨3, 0, sLp, 0, 0⟩] := clo_one (by decide) (fun _ => rfl) (fun _ => rfl)
theorem clo_rp : Clo V sRp [⟨3, 0, sRp, 0, 0⟩] := clo_one (by decide) (fun _ => rfl) (fun _ => rfl)
/-- A source in brackets, with a line feed. -/
def par (a : List UInt8) : List UInt8 := sLp ++ ((a ++ [10]) ++ sRp)
/-- An expression that Expr accepts: its tokens, and what they are. -/
structure Src (M : Int → Int → Int × Int × Int) (V : Nat → Int × Int × Int) (a : List UInt8) (x : Tree) : Prop where
  ex : ∃ ts n, Lx.lex V a = .ok ts ∧ rd M .ex ts = .ok n [] ∧ n.z = x ∧ big n = false
/-- Texts whose tokens (but for places) are these, whatever is behind. -/
def Tx (V : Nat → Int × Int × Int) (x : List UInt8) (ts : List Tok) : Prop := ∃ us, Clo V x us ∧ us.map cl = ts
theorem Tx.app {x y : List UInt8} {t1 t2 : List Tok} (h1 : Tx V x t1) (h2 : Tx V y t2) : Tx V (x ++ y) (t1 ++ t2) := by
  obtain ⟨u1, c1, rfl⟩ := h1
  obtain ⟨u2, c2, rfl⟩ := h2
  exact ⟨_, c1.app c2, by rw [List.map_append, cl_mov]⟩
theorem tx_two {w v : List UInt8} {t : Tok} {ts : List Tok} (hw : w ≠ []) (hg : ∀ z, gp false (w ++ (v ++ z)) = 0) (h : ∀ z, nx V (w ++ (v ++ z)) = .ok t w.length) (hv : Tx V v ts) : Tx V (w ++ v) (cl t :: ts) := by
  obtain ⟨u, c, rfl⟩ := hv
  exact ⟨_, clo_two hw hg h c, by rw [List.map_cons, cl_mov]⟩
theorem Tx.lex {x : List UInt8} {ts : List Tok} (h : Tx V x ts) (hx : x.length ≤ 2000) : ∃ us, Lx.lex V x = .ok us ∧ us.map cl = ts := by
  obtain ⟨u, c, rfl⟩ := h
  have hl : u.length ≤ 2000 := by
    have h1 := c u.length 0 [] (Nat.le_refl _)
    rw [List.append_nil, Nat.sub_self, lx_end (l := []) (by rfl)] at h1
    have := lx_len _ _ _ _ h1
    simp at this
    omega
  exact ⟨u, c.lex (by omega) hl, rfl⟩
def tLp : Tok := ⟨3, 0, sLp, 0, 0⟩
def tRp : Tok := ⟨3, 0, sRp, 0, 0⟩
theorem tx_par {a : List UInt8} {ts : List Tok} (h : Lx.lex V a = .ok ts) : Tx V (par a) (tLp :: ts.map cl ++ [tRp]) := by
  have h1 : Tx V sLp [tLp] := ⟨_, clo_lp, rfl⟩
  have h2 : Tx V sRp [tRp] := ⟨_, clo_rp, rfl⟩
  have h3 : Tx V (a ++ [10]) (ts.map cl) := ⟨_, clo_lex h, rfl⟩
  have := h1.app (h3.app h2)
  simpa [par] using this
/-- A text (whatever is behind) that level l reads as an expression; it begins with a bracket. -/
structure Fx (M : Int → Int → Int × Int × Int) (V : Nat → Int × Int × Int) (a : List UInt8) (x : Tree) : Prop where
  hd : ∃ b, a = 40 :: b
  tx : ∃ ts, Tx V a (tLp :: ts) ∧ El M 6 (tLp :: ts) x
theorem Src.par {M : Int → Int → Int × Int × Int} {a : List UInt8} {x : Tree} (h : Src M V a x) : Fx M V (par a) x := by
  obtain ⟨ts, n, h1, h2, rfl, -⟩ := h.ex
  refine ⟨⟨_, rfl⟩, ts.map cl ++ [tRp], by simpa using tx_par h1, ?_⟩
  have h3 := rd_map (M := M) like_cl .ex ts
  rw [h2] at h3
  have := el_br (p := tLp) (q := tRp) (rd_exx h3) ⟨by decide, rfl⟩ (by decide) ⟨by decide, rfl⟩
  simpa using this
end Pa
end Go.Proofs.YtedbpjcglnkjmaaGreatDoor
namespace Go.Proofs.YtedbpjcglnkjmaaGreatDoor
namespace Pa
open Lx

variable {M : Int → Int → Int × Int × Int} {V : Nat → Int × Int × Int}
/-- A source that is read, as a whole, as this expression, whatever its size. -/
def Rdx (M : Int → Int → Int × Int × Int) (V : Nat → Int × Int × Int) (a : List UInt8) (x : Tree) : Prop := ∃ us n, Lx.lex V a = .ok us ∧ rd M .ex us = .ok n [] ∧ n.z = x
theorem rdx_of {s : List UInt8} {ts : List Tok} {x : Tree} (h : Tx V s ts) (hx : Ex M ts x) (hl : s.length ≤ 2000) : Rdx M V s x := by
  obtain ⟨us, h1, rfl⟩ := h.lex hl
  obtain ⟨n, h2, hz⟩ := hx [] (fun s _ => rfl)
  rw [List.append_nil, rd_map like_cl] at h2
  refine ⟨us, n, h1, ?_, hz⟩
  cases h3 : rd M .ex us with
  | er e k m => rw [h3] at h2; cases h2
  | ok n' r =>
    rw [h3] at h2
    simp only [Out.mp, Out.ok.injEq, List.map_eq_nil_iff] at h2
    rw [h2.1, h2.2]
/-- A piece that is one token, in front of a bracket. -/
def Sep (V : Nat → Int × Int × Int) (p : List UInt8) (t : Tok) : Prop := ∀ (v : List UInt8) (ts : List Tok), (∃ b, v = 40 :: b) → Tx V v ts → Tx V (p ++ v) (t :: ts)
theorem shut_nil : Shut [] := fun x => by simp
theorem tx_gap {g v : List UInt8} {ts : List Tok} (hg : Shut g) (h : Tx V v ts) : Tx V (g ++ v) ts := by
  have := (show Tx V g [] from ⟨[], clo_gap hg, rfl⟩).app h
  simpa using this
theorem sep_of {g w g2 : List UInt8} {t : Tok} (hg : Shut g) (hg2 : Shut g2) (hw : w ≠ []) (h : ∀ b, gp false (w ++ (g2 ++ 40 :: b)) = 0) (hn : ∀ b, nx V (w ++ (g2 ++ 40 :: b)) = .ok t w.length) : Sep V (g ++ (w ++ g2)) (cl t) := by
  intro v ts hv htx
  obtain ⟨b, rfl⟩ := hv
  rw [List.append_assoc, List.append_assoc]
  refine tx_gap hg (tx_two hw (fun z => ?_) (fun z => ?_) (tx_gap hg2 htx))
  · have := h (b ++ z); simpa using this
  · have := hn (b ++ z); simpa using this
/-- What an operator makes of two expressions. -/
def cmb (l i : Nat) (x y : Tree) : Tree := if l = 3 ∧ 3 < i then op2 ((ops l).getD i 0) y x else op2 ((ops l).getD i 0) x y
theorem el_bin {l i : Nat} {A B : List Tok} {x y : Tree} {s : Tok} {w : List UInt8} (hl : l < 6) (h2 : l ≠ 2) (hA : El M (l + 1) A x) (hB : El M (l + 1) B y) (hs : Is w s) (hi : idxI (signs l) w 0 = some i) (hn : ∀ l', l + 1 ≤ l' → l' ≤ 5 → idxI (signs l') w 0 = none) : El M l (A ++ s :: B) (cmb l i x y) := by
  by_cases h3 : l = 3
  · subst h3
    have := el_cmp hA hB hs hi hn
    unfold cmb
    by_cases h : 3 < i
    · rw [if_pos h] at this; rw [if_pos ⟨rfl, h⟩]; exact this
    · rw [if_neg h] at this; rw [if_neg (by omega)]; exact this
  · unfold cmb
    rw [if_neg (by omega)]
    exact ch_el hl (ch_bin h3 (el_ch hl h2 hA) hB hs hi hn)
/-- An operator: its level, its index there, its word, its token. -/
structure Opr (l i : Nat) (w : List UInt8) (t : Tok) : Prop where
  l6 : l < 6
  l2 : l ≠ 2
  is : Is w t
  ix : idxI (signs l) w 0 = some i
  no : ∀ l', l + 1 ≤ l' → l' ≤ 5 → idxI (signs l') w 0 = none
/-- A text that begins with a bracket, and that level l reads. -/
structure Gx (M : Int → Int → Int × Int × Int) (V : Nat → Int × Int × Int) (l : Nat) (a : List UInt8) (x : Tree) : Prop where
  hd : ∃ b, a = 40 :: b
  tx : ∃ ts, Tx V a (tLp :: ts) ∧ El M l (tLp :: ts) x
theorem Fx.gx {a : List UInt8} {x : Tree} (h : Fx M V a x) : Gx M V 6 a x := ⟨h.hd, h.tx⟩
theorem Gx.to {l l' : Nat} {a : List UInt8} {x : Tree} (h : Gx M V l a x) (h1 : l' ≤ l) (h2 : l ≤ 6) : Gx M V l' a x := by
  obtain ⟨ts, t1, t2⟩ := h.tx
  exact ⟨h.hd, ts, t1, el_to rfl (by decide) h1 h2 t2⟩
/-- Two texts with an operator between them. -/
theorem Gx.bin {l i : Nat} {a b p w : List UInt8} {x y : Tree} {t : Tok} (ha : Gx M V (l + 1) a x) (hb : Gx M V (l + 1) b y) (ho : Opr l i w t) (hp : Sep V p t) : Gx M V l (a ++ (p ++ b)) (cmb l i x y) := by
  obtain ⟨ta, a1, a2⟩ := ha.tx
  obtain ⟨tb, b1, b2⟩ := hb.tx
  obtain ⟨c, rfl⟩ := ha.hd
  refine ⟨⟨c ++ (p ++ b), rfl⟩, ta ++ t :: (tLp :: tb), ?_, ?_⟩
  · exact a1.app (hp b _ hb.hd b1)
  · exact el_bin ho.l6 ho.l2 a2 b2 ho.is ho.ix ho.no
theorem Gx.ex {l : Nat} {a : List UInt8} {x : Tree} (h : Gx M V l a x) (hl : l ≤ 6) : ∃ ts, Tx V a (tLp :: ts) ∧ Ex M (tLp :: ts) x := by
  obtain ⟨ts, t1, t2⟩ := (h.to (Nat.zero_le l) hl).tx
  exact ⟨ts, t1, el_ex rfl (by decide) t2⟩
/-- In brackets. -/
theorem Gx.br {l : Nat} {a : List UInt8} {x : Tree} (h : Gx M V l a x) (hl : l ≤ 6) : Gx M V 6 (sLp ++ (a ++ sRp)) x := by
  obtain ⟨ts, t1, t2⟩ := h.ex hl
  have h1 : Tx V sLp [tLp] := ⟨_, clo_lp, rfl⟩
  have h2 : Tx V sRp [tRp] := ⟨_, clo_rp, rfl⟩
  exact ⟨⟨_, rfl⟩, (tLp :: ts) ++ [tRp], h1.app (t1.app h2), el_br (p := tLp) (q := tRp) t2 ⟨by decide, rfl⟩ (by decide) ⟨by decide, rfl⟩⟩
theorem Gx.rdx {l : Nat} {a : List UInt8} {x : Tree} (h : Gx M V l a x) (hl : l ≤ 6) (hs : a.length ≤ 2000) : Rdx M V a x := by
  obtain ⟨ts, t1, t2⟩ := h.ex hl
  exact rdx_of t1 t2 hs
/-- In a row of equal operators brackets around the first two change nothing. -/
theorem row_br {l i : Nat} {a b c p w : List UInt8} {x y z : Tree} {t : Tok} (ha : Gx M V 6 a x) (hb : Gx M V 6 b y) (hc : Gx M V 6 c z) (ho : Opr l i w t) (h3 : l ≠ 3) (hp : Sep V p t) :
    Gx M V l (a ++ (p ++ (b ++ (p ++ c)))) (cmb l i (cmb l i x y) z) ∧ Gx M V l (sLp ++ ((a ++ (p ++ b)) ++ sRp) ++ (p ++ c)) (cmb l i (cmb l i x y) z) := by
  have h6 := ho.l6
  constructor
  · obtain ⟨ta, a1, a2⟩ := (ha.to (l' := l + 1) (by omega) (Nat.le_refl _)).tx
    obtain ⟨tb, b1, b2⟩ := (hb.to (l' := l + 1) (by omega) (Nat.le_refl _)).tx
    obtain ⟨tc, c1, c2⟩ := (hc.to (l' := l + 1) (by omega) (Nat.le_refl _)).tx
    obtain ⟨a', rfl⟩ := ha.hd
    refine ⟨⟨_, rfl⟩, ta ++ (t :: (tLp :: tb)) ++ t :: (tLp :: tc), ?_, ?_⟩
    · have := a1.app ((hp b _ hb.hd b1).app (hp c _ hc.hd c1))
      simpa using this
    · have e : ∀ x y, cmb l i x y = op2 ((ops l).getD i 0) x y := fun x y => by unfold cmb; rw [if_neg (by omega)]
      rw [e, e]
      have := ch_el h6 (ch_bin h3 (ch_bin h3 (el_ch h6 ho.l2 a2) b2 ho.is ho.ix ho.no) c2 ho.is ho.ix ho.no)
      simpa using this
  · have h1 := ((ha.to (l' := l + 1) (by omega) (Nat.le_refl _)).bin (hb.to (l' := l + 1) (by omega) (Nat.le_refl _)) ho hp).br (by omega)
    exact (h1.to (l' := l + 1) (by omega) (Nat.le_refl _)).bin (hc.to (l' := l + 1) (by omega) (Nat.le_refl _)) ho hp
/-- What binds more tightly is combined first. -/
theorem bind_order {l0 i0 l1 i1 : Nat} {a b c p0 q0 p1 w0 w1 : List UInt8} {x y z : Tree} {t0 t1 : Tok} (ha : Gx M V 6 a x) (hb : Gx M V 6 b y) (hc : Gx M V 6 c z) (h0 : Opr l0 i0 w0 t0) (h1 : Opr l1 i1 w1 t1) (hl : l0 < l1) (hp0 : Sep V p0 t0) (hq0 : Sep V q0 t0) (hp1 : Sep V p1 t1) :
    (Gx M V l0 (a ++ (p0 ++ (b ++ (p1 ++ c)))) (cmb l0 i0 x (cmb l1 i1 y z)) ∧ Gx M V l0 (a ++ (p0 ++ (sLp ++ ((b ++ (p1 ++ c)) ++ sRp)))) (cmb l0 i0 x (cmb l1 i1 y z))) ∧
    (Gx M V l0 ((a ++ (p1 ++ b)) ++ (q0 ++ c)) (cmb l0 i0 (cmb l1 i1 x y) z) ∧ Gx M V l0 ((sLp ++ ((a ++ (p1 ++ b)) ++ sRp)) ++ (p0 ++ c)) (cmb l0 i0 (cmb l1 i1 x y) z)) := by
  have h6 := h1.l6
  have bc := (hb.to (l' := l1 + 1) (by omega) (Nat.le_refl _)).bin (hc.to (l' := l1 + 1) (by omega) (Nat.le_refl _)) h1 hp1
  have ab := (ha.to (l' := l1 + 1) (by omega) (Nat.le_refl _)).bin (hb.to (l' := l1 + 1) (by omega) (Nat.le_refl _)) h1 hp1
  have a0 := ha.to (l' := l0 + 1) (by omega) (Nat.le_refl _)
  have c0 := hc.to (l' := l0 + 1) (by omega) (Nat.le_refl _)
  exact ⟨⟨a0.bin (bc.to (by omega) (by omega)) h0 hp0, a0.bin ((bc.br (by omega)).to (by omega) (Nat.le_refl _)) h0 hp0⟩, ⟨(ab.to (by omega) (by omega)).bin c0 h0 hq0, ((ab.br (by omega)).to (by omega) (Nat.le_refl _)).bin c0 h0 hp0⟩⟩

/-! ### The operators -/
theorem opr_of {l i : Nat} {w : List UInt8} {t : Tok} (h1 : l < 6) (h2 : l ≠ 2) (h3 : t.k ≠ 2 ∧ t.t = w) (h4 : idxI (signs l) w 0 = some i) (h5 : (List.range 6).all (fun l' => decide (l' ≤ l) || (idxI (signs l') w 0).isNone) = true) : Opr l i w t :=
  ⟨h1, h2, h3, h4, fun l' a b => by
    have := List.all_eq_true.1 h5 l' (by simp; omega)
    rw [Bool.or_eq_true, decide_eq_true_eq] at this
    rcases this with h | h
    · omega
    · exact Option.isNone_iff_eq_none.1 h⟩
def tS (w : List UInt8) : Tok := ⟨3, 0, w, 0, 0⟩
def tW (w : List UInt8) : Tok := ⟨1, 0, w, 0, 0⟩
theorem o_add : Opr 4 0 sAdd (tS sAdd) := opr_of (by decide) (by decide) ⟨by decide, rfl⟩ rfl rfl
theorem o_sub : Opr 4 1 sSub (tS sSub) := opr_of (by decide) (by decide) ⟨by decide, rfl⟩ rfl rfl
theorem o_mul : Opr 5 0 sMul (tS sMul) := opr_of (by decide) (by decide) ⟨by decide, rfl⟩ rfl rfl
theorem o_div : Opr 5 1 sDiv (tS sDiv) := opr_of (by decide) (by decide) ⟨by decide, rfl⟩ rfl rfl
theorem o_eq : Opr 3 0 sEq (tS sEq) := opr_of (by decide) (by decide) ⟨by decide, rfl⟩ rfl rfl
theorem o_ne : Opr 3 1 sNe (tS sNe) := opr_of (by decide) (by decide) ⟨by decide, rfl⟩ rfl rfl
theorem o_lt : Opr 3 2 sLt (tS sLt) := opr_of (by decide) (by decide) ⟨by decide, rfl⟩ rfl rfl
theorem o_le : Opr 3 3 sLe (tS sLe) := opr_of (by decide) (by decide) ⟨by decide, rfl⟩ rfl rfl
theorem o_gt : Opr 3 4 sGt (tS sGt) := opr_of (by decide) (by decide) ⟨by decide, rfl⟩ rfl rfl
theorem o_ge : Opr 3 5 sGe (tS sGe) := opr_of (by decide) (by decide) ⟨by decide, rfl⟩ rfl rfl
theorem o_and : Opr 1 0 kAnd (tW kAnd) := opr_of (by decide) (by decide) ⟨by decide, rfl⟩ rfl rfl
theorem o_or : Opr 0 0 kOr (tW kOr) := opr_of (by decide) (by decide) ⟨by decide, rfl⟩ rfl rfl
/-- The pieces: bare, with a blank in front, with blanks on both sides. -/
theorem sep_bare {w : List UInt8} {t : Tok} (hw : w ≠ []) (h : ∀ b, gp false (w ++ 40 :: b) = 0) (hn : ∀ b, nx V (w ++ 40 :: b) = .ok t w.length) : Sep V w (cl t) ∧ Sep V (32 :: w) (cl t) := by
  have h1 := sep_of (V := V) (g := []) (g2 := []) shut_nil shut_nil hw h hn
  have h2 := sep_of (V := V) (g := [32]) (g2 := []) shut_sp shut_nil hw h hn
  rw [List.append_nil] at h1 h2
  exact ⟨h1, h2⟩
theorem sep_wide {w : List UInt8} {t : Tok} (hw : w ≠ []) (h : ∀ b, gp false (w ++ 32 :: b) = 0) (hn : ∀ b, nx V (w ++ 32 :: b) = .ok t w.length) : Sep V (w ++ [32]) (cl t) ∧ Sep V (32 :: (w ++ [32])) (cl t) :=
  ⟨sep_of (V := V) (g := []) (g2 := [32]) shut_nil shut_sp hw (fun _ => h _) (fun _ => hn _), sep_of (V := V) (g := [32]) (g2 := [32]) shut_sp shut_sp hw (fun _ => h _) (fun _ => hn _)⟩
theorem p_add : Sep V sAdd (tS sAdd) ∧ Sep V (32 :: sAdd) (tS sAdd) := sep_bare (t := tS sAdd) (by decide) (fun _ => rfl) (fun _ => rfl)
theorem p_sub : Sep V sSub (tS sSub) ∧ Sep V (32 :: sSub) (tS sSub) := sep_bare (t := tS sSub) (by decide) (fun _ => rfl) (fun _ => rfl)
theorem p_mul : Sep V sMul (tS sMul) ∧ Sep V (32 :: sMul) (tS sMul) := sep_bare (t := tS sMul) (by decide) (fun _ => rfl) (fun _ => rfl)
theorem p_div : Sep V sDiv (tS sDiv) ∧ Sep V (32 :: sDiv) (tS sDiv) := sep_bare (t := tS sDiv) (by decide) (fun _ => rfl) (fun _ => rfl)
theorem p_eq : Sep V sEq (tS sEq) ∧ Sep V (32 :: sEq) (tS sEq) := sep_bare (t := tS sEq) (by decide) (fun _ => rfl) (fun _ => rfl)
theorem p_ne : Sep V sNe (tS sNe) ∧ Sep V (32 :: sNe) (tS sNe) := sep_bare (t := tS sNe) (by decide) (fun _ => rfl) (fun _ => rfl)
theorem p_lt : Sep V sLt (tS sLt) ∧ Sep V (32 :: sLt) (tS sLt) := sep_bare (t := tS sLt) (by decide) (fun _ => rfl) (fun _ => rfl)
theorem p_le : Sep V sLe (tS sLe) ∧ Sep V (32 :: sLe) (tS sLe) := sep_bare (t := tS sLe) (by decide) (fun _ => rfl) (fun _ => rfl)
theorem p_ge : Sep V sGe (tS sGe) ∧ Sep V (32 :: sGe) (tS sGe) := sep_bare (t := tS sGe) (by decide) (fun _ => rfl) (fun _ => rfl)
theorem p_and : Sep V kAnd (tW kAnd) ∧ Sep V (32 :: kAnd) (tW kAnd) := sep_bare (t := tW kAnd) (by decide) (fun _ => rfl) (fun _ => rfl)
theorem p_or : Sep V kOr (tW kOr) ∧ Sep V (32 :: kOr) (tW kOr) := sep_bare (t := tW kOr) (by decide) (fun _ => rfl) (fun _ => rfl)
theorem w_add : Sep V (sAdd ++ [32]) (tS sAdd) ∧ Sep V (32 :: (sAdd ++ [32])) (tS sAdd) := sep_wide (t := tS sAdd) (by decide) (fun _ => rfl) (fun _ => rfl)
theorem w_sub : Sep V (sSub ++ [32]) (tS sSub) ∧ Sep V (32 :: (sSub ++ [32])) (tS sSub) := sep_wide (t := tS sSub) (by decide) (fun _ => rfl) (fun _ => rfl)
theorem w_mul : Sep V (sMul ++ [32]) (tS sMul) ∧ Sep V (32 :: (sMul ++ [32])) (tS sMul) := sep_wide (t := tS sMul) (by decide) (fun _ => rfl) (fun _ => rfl)
theorem w_div : Sep V (sDiv ++ [32]) (tS sDiv) ∧ Sep V (32 :: (sDiv ++ [32])) (tS sDiv) := sep_wide (t := tS sDiv) (by decide) (fun _ => rfl) (fun _ => rfl)
theorem w_and : Sep V (kAnd ++ [32]) (tW kAnd) ∧ Sep V (32 :: (kAnd ++ [32])) (tW kAnd) := sep_wide (t := tW kAnd) (by decide) (fun _ => rfl) (fun _ => rfl)
theorem w_or : Sep V (kOr ++ [32]) (tW kOr) ∧ Sep V (32 :: (kOr ++ [32])) (tW kOr) := sep_wide (t := tW kOr) (by decide) (fun _ => rfl) (fun _ => rfl)
theorem w_eq : Sep V (sEq ++ [32]) (tS sEq) ∧ Sep V (32 :: (sEq ++ [32])) (tS sEq) := sep_wide (t := tS sEq) (by decide) (fun _ => rfl) (fun _ => rfl)
theorem w_lt : Sep V (sLt ++ [32]) (tS sLt) ∧ Sep V (32 :: (sLt ++ [32])) (tS sLt) := sep_wide (t := tS sLt) (by decide) (fun _ => rfl) (fun _ => rfl)
theorem w_gt : Sep V (sGt ++ [32]) (tS sGt) ∧ Sep V (32 :: (sGt ++ [32])) (tS sGt) := sep_wide (t := tS sGt) (by decide) (fun _ => rfl) (fun _ => rfl)
theorem w_le : Sep V (sLe ++ [32]) (tS sLe) ∧ Sep V (32 :: (sLe ++ [32])) (tS sLe) := sep_wide (t := tS sLe) (by decide) (fun _ => rfl) (fun _ => rfl)
theorem w_ge : Sep V (sGe ++ [32]) (tS sGe) ∧ Sep V (32 :: (sGe ++ [32])) (tS sGe) := sep_wide (t := tS sGe) (by decide) (fun _ => rfl) (fun _ => rfl)
theorem w_not : Sep V (kNot ++ [32]) (tW kNot) ∧ Sep V (32 :: (kNot ++ [32])) (tW kNot) := sep_wide (t := tW kNot) (by decide) (fun _ => rfl) (fun _ => rfl)
theorem w_if : Sep V (kIf ++ [32]) (tW kIf) ∧ Sep V (32 :: (kIf ++ [32])) (tW kIf) := sep_wide (t := tW kIf) (by decide) (fun _ => rfl) (fun _ => rfl)
theorem w_then : Sep V (kThen ++ [32]) (tW kThen) ∧ Sep V (32 :: (kThen ++ [32])) (tW kThen) := sep_wide (t := tW kThen) (by decide) (fun _ => rfl) (fun _ => rfl)
theorem w_else : Sep V (kElse ++ [32]) (tW kElse) ∧ Sep V (32 :: (kElse ++ [32])) (tW kElse) := sep_wide (t := tW kElse) (by decide) (fun _ => rfl) (fun _ => rfl)
end Pa
end Go.Proofs.YtedbpjcglnkjmaaGreatDoor
namespace Go.Proofs.YtedbpjcglnkjmaaGreatDoor
namespace Pa
open Lx

variable {M : Int → Int → Int × Int × Int} {V : Nat → Int × Int × Int}
/-- Two sources that are read as the same expression. -/
def Two (M : Int → Int → Int × Int × Int) (V : Nat → Int × Int × Int) (s s' : List UInt8) : Prop := ∃ x, Rdx M V s x ∧ Rdx M V s' x
theorem par_len (a : List UInt8) : (par a).length = a.length + 3 := by unfold par sLp sRp; simp
theorem two_gx {l l' : Nat} {s s' : List UInt8} {x : Tree} (h : Gx M V l s x) (h' : Gx M V l' s' x) (hl : l ≤ 6) (hl' : l' ≤ 6) (k : s.length ≤ 2000) (k' : s'.length ≤ 2000) : Two M V s s' := ⟨x, h.rdx hl k, h'.rdx hl' k'⟩
def PairOk (V : Nat → Int × Int × Int) (w0 w1 : List UInt8) : Prop := ∃ l0 i0 l1 i1 t0 t1, Opr l0 i0 w0 t0 ∧ Opr l1 i1 w1 t1 ∧ l0 < l1 ∧ Sep V w0 t0 ∧ Sep V (32 :: w0) t0 ∧ Sep V w1 t1 ∧ w0.length ≤ 3 ∧ w1.length ≤ 3
theorem pair_ok : ∀ p ∈ [(sAdd, sMul), (sSub, sDiv), (sLt, sAdd), (sGe, sSub), (kAnd, sEq), (kOr, kAnd), (kOr, sLe), (sNe, sMul)], PairOk V p.1 p.2 := by
  intro p hp
  simp only [List.mem_cons, List.not_mem_nil, or_false] at hp
  rcases hp with rfl | rfl | rfl | rfl | rfl | rfl | rfl | rfl
  · exact ⟨_, _, _, _, _, _, o_add, o_mul, by decide, p_add.1, p_add.2, p_mul.1, by decide, by decide⟩
  · exact ⟨_, _, _, _, _, _, o_sub, o_div, by decide, p_sub.1, p_sub.2, p_div.1, by decide, by decide⟩
  · exact ⟨_, _, _, _, _, _, o_lt, o_add, by decide, p_lt.1, p_lt.2, p_add.1, by decide, by decide⟩
  · exact ⟨_, _, _, _, _, _, o_ge, o_sub, by decide, p_ge.1, p_ge.2, p_sub.1, by decide, by decide⟩
  · exact ⟨_, _, _, _, _, _, o_and, o_eq, by decide, p_and.1, p_and.2, p_eq.1, by decide, by decide⟩
  · exact ⟨_, _, _, _, _, _, o_or, o_and, by decide, p_or.1, p_or.2, p_and.1, by decide, by decide⟩
  · exact ⟨_, _, _, _, _, _, o_or, o_le, by decide, p_or.1, p_or.2, p_le.1, by decide, by decide⟩
  · exact ⟨_, _, _, _, _, _, o_ne, o_mul, by decide, p_ne.1, p_ne.2, p_mul.1, by decide, by decide⟩
def RowOk (V : Nat → Int × Int × Int) (w : List UInt8) : Prop := ∃ l i t, Opr l i w t ∧ l ≠ 3 ∧ Sep V (32 :: (w ++ [32])) t ∧ w.length ≤ 3
theorem row_ok : ∀ w ∈ [sAdd, sSub, sMul, sDiv, kAnd, kOr], RowOk V w := by
  intro p hp
  simp only [List.mem_cons, List.not_mem_nil, or_false] at hp
  rcases hp with rfl | rfl | rfl | rfl | rfl | rfl
  · exact ⟨_, _, _, o_add, by decide, w_add.2, by decide⟩
  · exact ⟨_, _, _, o_sub, by decide, w_sub.2, by decide⟩
  · exact ⟨_, _, _, o_mul, by decide, w_mul.2, by decide⟩
  · exact ⟨_, _, _, o_div, by decide, w_div.2, by decide⟩
  · exact ⟨_, _, _, o_and, by decide, w_and.2, by decide⟩
  · exact ⟨_, _, _, o_or, by decide, w_or.2, by decide⟩
section
variable {a b c : List UInt8} {x y z : Tree}
/-- The first law on brackets. -/
theorem br_one (ha : Src M V a x) (hl : a.length ≤ 900) : Rdx M V (par a) x := ha.par.gx.rdx (Nat.le_refl _) (by rw [par_len]; omega)
/-- The second one. -/
theorem br_row {w : List UInt8} (hw : w ∈ [sAdd, sSub, sMul, sDiv, kAnd, kOr]) (ha : Src M V a x) (hb : Src M V b y) (hc : Src M V c z) (hl : a.length + b.length + c.length ≤ 900) :
    Two M V (par a ++ ((32 :: (w ++ [32])) ++ (par b ++ ((32 :: (w ++ [32])) ++ par c)))) (sLp ++ ((par a ++ ((32 :: (w ++ [32])) ++ par b)) ++ sRp) ++ ((32 :: (w ++ [32])) ++ par c)) := by
  obtain ⟨l, i, t, ho, h3, hp, hlen⟩ := row_ok (V := V) w hw
  have h6 := ho.l6
  have h := row_br ha.par.gx hb.par.gx hc.par.gx ho h3 hp
  exact two_gx h.1 h.2 (by omega) (by omega) (by simp only [List.length_append, List.length_cons, par_len, List.length_nil]; omega) (by simp only [List.length_append, List.length_cons, par_len, sLp, sRp, List.length_nil]; omega)
/-- The pairs of the law on order. -/
theorem ord_pair {p : List UInt8 × List UInt8} (hp : p ∈ [(sAdd, sMul), (sSub, sDiv), (sLt, sAdd), (sGe, sSub), (kAnd, sEq), (kOr, kAnd), (kOr, sLe), (sNe, sMul)]) (ha : Src M V a x) (hb : Src M V b y) (hc : Src M V c z) (hl : a.length + b.length + c.length ≤ 900) :
    Two M V (par a ++ (p.1 ++ (par b ++ (p.2 ++ par c)))) (par a ++ (p.1 ++ (sLp ++ ((par b ++ (p.2 ++ par c)) ++ sRp)))) ∧
    Two M V ((par a ++ (p.2 ++ par b)) ++ ((32 :: p.1) ++ par c)) ((sLp ++ ((par a ++ (p.2 ++ par b)) ++ sRp)) ++ (p.1 ++ par c)) := by
  obtain ⟨l0, i0, l1, i1, t0, t1, o0, o1, h01, s0, q0, s1, n0, n1⟩ := pair_ok (V := V) p hp
  have h6 := o0.l6
  have h := bind_order ha.par.gx hb.par.gx hc.par.gx o0 o1 h01 s0 q0 s1
  refine ⟨two_gx h.1.1 h.1.2 (by omega) (by omega) ?_ ?_, two_gx h.2.1 h.2.2 (by omega) (by omega) ?_ ?_⟩ <;> (simp only [List.length_append, List.length_cons, par_len, sLp, sRp, List.length_nil]; omega)
theorem ord_not_and (ha : Src M V a x) (hb : Src M V b y) (hl : a.length + b.length ≤ 900) :
    Two M V ((kNot ++ [32]) ++ (par a ++ ((32 :: (kAnd ++ [32])) ++ par b))) (sLp ++ (((kNot ++ [32]) ++ par a) ++ sRp) ++ ((32 :: (kAnd ++ [32])) ++ par b)) := by
  obtain ⟨ta, a1, a2⟩ := (ha.par.gx.to (l' := 2) (by omega) (Nat.le_refl _)).tx
  obtain ⟨tb, b1, b2⟩ := (hb.par.gx.to (l' := 2) (by omega) (Nat.le_refl _)).tx
  have n2 := el_neg (M := M) (t := tW kNot) ⟨by decide, rfl⟩ a2
  refine ⟨cmb 1 0 (op1 15 x) y, rdx_of (ts := (tW kNot :: (tLp :: ta)) ++ tW kAnd :: (tLp :: tb)) ?_ ?_ ?_, Gx.rdx (l := 1) ?_ (by omega) ?_⟩
  · have := w_not.1 (par a ++ ((32 :: (kAnd ++ [32])) ++ par b)) _ ⟨_, rfl⟩ (a1.app (w_and.2 (par b) _ ⟨_, rfl⟩ b1))
    simpa using this
  · exact el_ex rfl (by decide) (el_up (by omega) (by omega) (el_bin (l := 1) (by omega) (by omega) n2 b2 o_and.is o_and.ix o_and.no))
  · simp only [List.length_append, List.length_cons, par_len, kNot, kAnd, List.length_nil]; omega
  · have e := el_ex (M := M) rfl (by decide) (el_up (l := 0) (by omega) (by omega) (el_up (l := 1) (by omega) (by omega) n2))
    have g : Gx M V 6 (sLp ++ (((kNot ++ [32]) ++ par a) ++ sRp)) (op1 15 x) := by
      have h1 : Tx V sLp [tLp] := ⟨_, clo_lp, rfl⟩
      have h2 : Tx V sRp [tRp] := ⟨_, clo_rp, rfl⟩
      exact ⟨⟨_, rfl⟩, (tW kNot :: (tLp :: ta)) ++ [tRp], h1.app ((w_not.1 (par a) _ ⟨_, rfl⟩ a1).app h2), el_br (p := tLp) (q := tRp) e ⟨by decide, rfl⟩ (by decide) ⟨by decide, rfl⟩⟩
    exact (g.to (l' := 2) (by omega) (Nat.le_refl _)).bin (hb.par.gx.to (l' := 2) (by omega) (Nat.le_refl _)) o_and w_and.2
  · simp only [List.length_append, List.length_cons, par_len, kNot, kAnd, sLp, sRp, List.length_nil]; omega
theorem neg_rdx {s : List UInt8} {u : Tree} (h : Gx M V 2 s u) (hl : s.length ≤ 1900) : Rdx M V ((kNot ++ [32]) ++ s) (op1 15 u) := by
  obtain ⟨ts, t1, t2⟩ := h.tx
  refine rdx_of (w_not.1 s _ h.hd t1) (el_ex rfl (by decide) (el_up (l := 0) (by omega) (by omega) (el_up (l := 1) (by omega) (by omega) (el_neg (M := M) (t := tW kNot) ⟨by decide, rfl⟩ t2)))) ?_
  simp only [List.length_append, List.length_cons, kNot, List.length_nil]; omega
theorem ord_not_eq (ha : Src M V a x) (hb : Src M V b y) (hl : a.length + b.length ≤ 900) :
    Two M V ((kNot ++ [32]) ++ (par a ++ ((32 :: (sEq ++ [32])) ++ par b))) ((kNot ++ [32]) ++ (sLp ++ ((par a ++ ((32 :: (sEq ++ [32])) ++ par b)) ++ sRp))) := by
  have g := (ha.par.gx.to (l' := 4) (by omega) (Nat.le_refl _)).bin (hb.par.gx.to (l' := 4) (by omega) (Nat.le_refl _)) o_eq w_eq.2
  exact ⟨_, neg_rdx (g.to (by omega) (by omega)) (by simp only [List.length_append, List.length_cons, par_len, sEq, List.length_nil]; omega), neg_rdx ((g.br (by omega)).to (by omega) (Nat.le_refl _)) (by simp only [List.length_append, List.length_cons, par_len, sEq, sLp, sRp, List.length_nil]; omega)⟩
theorem if_rdx {s1 s2 s3 : List UInt8} {u v w : Tree} {l : Nat} (h1 : Gx M V 6 s1 u) (h2 : Gx M V 6 s2 v) (h3 : Gx M V l s3 w) (hl : l ≤ 6) (hs : s1.length + s2.length + s3.length ≤ 1950) :
    Rdx M V ((kIf ++ [32]) ++ (s1 ++ ((32 :: (kThen ++ [32])) ++ (s2 ++ ((32 :: (kElse ++ [32])) ++ s3))))) (op3 16 u v w) := by
  obtain ⟨t1, a1, a2⟩ := h1.ex (Nat.le_refl _)
  obtain ⟨t2, b1, b2⟩ := h2.ex (Nat.le_refl _)
  obtain ⟨t3, c1, c2⟩ := h3.ex hl
  obtain ⟨e1, rfl⟩ := h1.hd
  refine rdx_of (w_if.1 _ _ ⟨_, rfl⟩ (a1.app (w_then.2 _ _ (by obtain ⟨e2, rfl⟩ := h2.hd; exact ⟨_, rfl⟩) (b1.app (w_else.2 s3 _ h3.hd c1))))) (ex_if (t1 := tW kIf) (t2 := tW kThen) (t3 := tW kElse) ⟨by decide, rfl⟩ ⟨by decide, rfl⟩ ⟨by decide, rfl⟩ a2 b2 c2) ?_
  simp only [List.length_append, List.length_cons, kIf, kThen, kElse, List.length_nil] at hs ⊢; omega
theorem ord_if (ha : Src M V a x) (hb : Src M V b y) (hc : Src M V c z) (hl : a.length + b.length + c.length ≤ 900) :
    Two M V ((kIf ++ [32]) ++ (par a ++ ((32 :: (kThen ++ [32])) ++ (par b ++ ((32 :: (kElse ++ [32])) ++ (par c ++ ((32 :: (kOr ++ [32])) ++ par a))))))) ((kIf ++ [32]) ++ (par a ++ ((32 :: (kThen ++ [32])) ++ (par b ++ ((32 :: (kElse ++ [32])) ++ (sLp ++ ((par c ++ ((32 :: (kOr ++ [32])) ++ par a)) ++ sRp))))))) := by
  have g := (hc.par.gx.to (l' := 1) (by omega) (Nat.le_refl _)).bin (ha.par.gx.to (l' := 1) (by omega) (Nat.le_refl _)) o_or w_or.2
  exact ⟨_, if_rdx ha.par.gx hb.par.gx g (by omega) (by simp only [List.length_append, List.length_cons, par_len, kOr, List.length_nil]; omega), if_rdx ha.par.gx hb.par.gx (g.br (by omega)) (Nat.le_refl _) (by simp only [List.length_append, List.length_cons, par_len, kOr, sLp, sRp, List.length_nil]; omega)⟩
theorem ord_gt (ha : Src M V a x) (hb : Src M V b y) (hl : a.length + b.length ≤ 900) :
    Two M V (par a ++ ((32 :: (sGt ++ [32])) ++ par b)) (par b ++ ((32 :: (sLt ++ [32])) ++ par a)) ∧ Two M V (par a ++ ((32 :: (sGe ++ [32])) ++ par b)) (par b ++ ((32 :: (sLe ++ [32])) ++ par a)) := by
  have a4 := ha.par.gx.to (l' := 4) (by omega) (Nat.le_refl _)
  have b4 := hb.par.gx.to (l' := 4) (by omega) (Nat.le_refl _)
  refine ⟨two_gx (l := 3) (l' := 3) (a4.bin b4 o_gt w_gt.2) (b4.bin a4 o_lt w_lt.2) (by omega) (by omega) ?_ ?_, two_gx (l := 3) (l' := 3) (a4.bin b4 o_ge w_ge.2) (b4.bin a4 o_le w_le.2) (by omega) (by omega) ?_ ?_⟩ <;> (simp only [List.length_append, List.length_cons, par_len, sGt, sLt, sGe, sLe, List.length_nil]; omega)
end
end Pa
end Go.Proofs.YtedbpjcglnkjmaaGreatDoor
namespace Go.Proofs.YtedbpjcglnkjmaaGreatDoor
namespace Pa
open Lx

variable {V : Nat → Int × Int × Int}
/-- A digit or a point. -/
def dpt (c : UInt8) : Bool := dgt c || decide (c.toNat = 46)
theorem frm_dpt {x : List UInt8} (h : frm x = true) : x.all dpt = true := by
  unfold frm at h
  rw [Bool.and_eq_true] at h
  have hx : x = whole x ++ behind x := (List.takeWhile_append_dropWhile (p := fun c : UInt8 => decide (c.toNat ≠ 46)) (l := x)).symm
  have hd : ∀ (l : List UInt8) (k : Nat), digs l k = true → l.all dpt = true := by
    intro l k h
    unfold digs allD at h
    simp only [Bool.and_eq_true, List.all_eq_true] at h
    rw [List.all_eq_true]
    intro c hc
    unfold dpt
    rw [h.2 c hc]; rfl
  rw [hx, List.all_append, hd _ _ h.1, Bool.true_and]
  rw [Bool.or_eq_true, decide_eq_true_eq] at h
  rcases h.2 with e | e
  · rw [e]; rfl
  · cases hb : behind x with
    | nil => rfl
    | cons c r =>
      rw [hb] at e
      have hc : c.toNat = 46 := by
        have : ∀ (l : List UInt8) c r, l.dropWhile (fun c : UInt8 => decide (c.toNat ≠ 46)) = c :: r → c.toNat = 46 := by
          intro l
          induction l with
          | nil => intro c r h; cases h
          | cons a l ih =>
            intro c r h
            rw [List.dropWhile_cons] at h
            split at h
            · exact ih c r h
            · rename_i h2
              injection h with h3 h4
              subst h3
              simpa using h2
        exact this x c r hb
      have hr := hd _ _ e
      rw [List.tail_cons] at hr
      rw [List.all_cons, hr]
      unfold dpt
      rw [decide_eq_true hc]; simp
theorem dpt_nmb {c : UInt8} (h : dpt c = true) : nmb c = true := by
  unfold dpt at h
  rw [Bool.or_eq_true, decide_eq_true_eq] at h
  rcases h with h | h
  · exact (dgt_not c h).2.2.2.1
  · unfold nmb; rw [decide_eq_true h]; simp
/-- The source of a token. -/
structure Pc (V : Nat → Int × Int × Int) (l : List UInt8) (t : Tok) (p : List UInt8) : Prop where
  cut : l.drop t.a.toNat = p ++ l.drop (t.a.toNat + p.length)
  ne : p ≠ []
  gp : ∀ y, gp false (p ++ y) = 0
  nx : ∀ y, (y = [] ∨ ∃ c r, y = c :: r ∧ blk c = true) → nx V (p ++ y) = .ok (cl t) p.length
  txt : t.k ≠ 2 → t.t = p
  num : t.k = 2 → p.all dpt = true ∧ ∀ c, (l.drop (t.a.toNat + p.length)).head? = some c → dpt c = false
def Pcs (V : Nat → Int × Int × Int) (l0 : List UInt8) : Nat → List Tok → List (List UInt8) → Prop
  | i, [], [] => i ≤ l0.length
  | i, t :: ts, p :: ps => (i : Int) ≤ t.a ∧ Pc V l0 t p ∧ Pcs V l0 (t.a.toNat + p.length) ts ps
  | _, _, _ => False
theorem nx_parts {l : List UInt8} {t : Tok} {n : Nat} (h : nx V l = .ok t n) : (t.k ≠ 2 → t.t = l.take n) ∧ (t.k = 2 → (l.take n).all dpt = true ∧ ∀ c, (l.drop n).head? = some c → dpt c = false) := by
  cases l with
  | nil => simp [Lx.nx] at h
  | cons c l =>
    simp only [Lx.nx] at h
    split at h
    · split at h
      · cases h
      · injection h with h1 h2
        subst h1 h2
        exact ⟨fun _ => (tw_take _).symm, fun e => by cases e⟩
    · split at h
      · split at h
        · rename_i hf
          split at h
          · injection h with h1 h2
            subst h1 h2
            refine ⟨fun e => by simp at e, fun _ => ⟨?_, fun x hx => ?_⟩⟩
            · rw [tw_take]; exact frm_dpt hf
            · have e : (c :: l).takeWhile nmb ++ (c :: l).drop ((c :: l).takeWhile nmb).length = c :: l := by
                have := List.take_append_drop ((c :: l).takeWhile nmb).length (c :: l)
                rwa [tw_take] at this
              have := (tw_len (p := nmb) ((c :: l).takeWhile nmb) ((c :: l).drop ((c :: l).takeWhile nmb).length) (by rw [e])).2 x hx
              cases hd : dpt x with
              | false => rfl
              | true => rw [dpt_nmb hd] at this; cases this
          · cases h
        · cases h
      · split at h
        · cases h
        · injection h with h1 h2
          subst h1 h2
          exact ⟨fun _ => rfl, fun e => by cases e⟩
theorem gp_head {p : List UInt8} {y : List UInt8} (hp : p ≠ []) (h : Lx.gp false (p ++ y) = 0) (z : List UInt8) : Lx.gp false (p ++ z) = 0 := by
  cases p with
  | nil => exact absurd rfl hp
  | cons c r =>
    simp only [List.cons_append, Lx.gp] at h ⊢
    split
    · rename_i e; rw [if_pos e] at h; omega
    · rename_i e
      rw [if_neg e] at h
      split
      · rename_i e2; rw [if_pos e2] at h; omega
      · rfl
/-- A source is its tokens' sources, and gaps. -/
theorem lx_pcs (l0 : List UInt8) : ∀ (f i : Nat) (l : List UInt8) (ts : List Tok), l0.drop i = l → i ≤ l0.length → lx V f i l = .ok ts → ∃ ps, Pcs V l0 i ts ps := by
  intro f
  induction f with
  | zero =>
    intro i l ts h0 hi h
    rcases lx_ok h with ⟨-, rfl⟩ | ⟨f', t, n, us, e, -⟩
    · exact ⟨[], hi⟩
    · omega
  | succ f ih =>
    intro i l ts h0 hi h
    rcases lx_ok h with ⟨-, rfl⟩ | ⟨f', t, n, us, e, h1, h2, h3, rfl⟩
    · exact ⟨[], hi⟩
    · obtain rfl : f' = f := by omega
      obtain ⟨n1, n2, n3⟩ := nx_pos h2
      have hl : l.length = l0.length - i := by rw [← h0, List.length_drop]
      rw [List.length_drop] at n2
      generalize hg : Lx.gp false l = g at *
      have hd : l0.drop (i + g) = l.drop g := by rw [← h0, List.drop_drop]
      have hd2 : l0.drop (i + g + n) = l.drop (g + n) := by rw [← h0, List.drop_drop, Nat.add_assoc]
      obtain ⟨ps, hps⟩ := ih (i + g + n) (l.drop (g + n)) us hd2 (by omega) h3
      have ha : (mov ((i + g : Nat) : Int) t).a = ((i + g : Nat) : Int) := by show t.a + _ = _; rw [n3]; omega
      have hlen : ((l.drop g).take n).length = n := by rw [List.length_take, List.length_drop]; omega
      have hne : (l.drop g).take n ≠ [] := fun e => by have := congrArg List.length e; rw [hlen] at this; simp at this; omega
      refine ⟨(l.drop g).take n :: ps, by rw [ha]; omega, ?_, ?_⟩
      · have hgp := (gp_drop l false (by rw [hg]; exact h1)).1
        rw [hg] at hgp
        have hcl : cl (mov ((i + g : Nat) : Int) t) = t := by
          show ({ t with a := 0 } : Tok) = t
          cases t; simp at n3; rw [n3]
        constructor
        · rw [ha, Int.toNat_natCast, hlen, hd, hd2, ← List.drop_drop, List.take_append_drop]
        · exact hne
        · exact fun y => gp_head (y := (l.drop g).drop n) hne (by rw [List.take_append_drop]; exact hgp) y
        · intro y hy
          rw [hcl, hlen]
          exact nx_any h2 (hy.elim .inl fun h => .inr (.inl h))
        · exact (nx_parts h2).1
        · intro hk
          rw [ha, Int.toNat_natCast, hlen, hd2, ← List.drop_drop]
          exact (nx_parts h2).2 hk
      · rw [ha, Int.toNat_natCast, hlen]
        exact hps
theorem lex_pcs {l : List UInt8} {ts : List Tok} (h : Lx.lex V l = .ok ts) : ∃ ps, Pcs V l 0 ts ps := by
  unfold Lx.lex at h
  split at h
  · cases h
  · exact lx_pcs l _ 0 l ts rfl (Nat.zero_le _) h
/-- The gaps of the law on blanks. -/
def gapK : Nat → List UInt8
  | 0 => [32]
  | 1 => [10]
  | 2 => [32, 32]
  | _ => [32, 35, 32, 120, 59, 10]
theorem gapK_shut (k : Nat) : Shut (gapK k) := fun x => by
  match k with
  | 0 => simp [gapK, Lx.gp, blk]
  | 1 => simp [gapK, Lx.gp, blk]
  | 2 => simp [gapK, Lx.gp, blk]; omega
  | k + 3 => simp [gapK, Lx.gp, blk]; omega
theorem gapK_blk (k : Nat) : ∃ c r, gapK k = c :: r ∧ blk c = true := by
  match k with
  | 0 => exact ⟨_, _, rfl, rfl⟩
  | 1 => exact ⟨_, _, rfl, rfl⟩
  | 2 => exact ⟨_, _, rfl, rfl⟩
  | k + 3 => exact ⟨_, _, rfl, rfl⟩
theorem gapK_len (k : Nat) : (gapK k).length ≤ 6 := by
  match k with
  | 0 => decide
  | 1 => decide
  | 2 => decide
  | k + 3 => simp [gapK]
def weave (k : Nat → Nat) : Nat → List (List UInt8) → List UInt8
  | _, [] => []
  | i, p :: ps => gapK (k i) ++ (p ++ weave k (i + 1) ps)
theorem weave_head (k : Nat → Nat) (i : Nat) (ps : List (List UInt8)) : ∃ c r, weave k i ps ++ [10] = c :: r ∧ blk c = true := by
  cases ps with
  | nil => exact ⟨10, [], rfl, rfl⟩
  | cons p ps =>
    obtain ⟨c, r, h1, h2⟩ := gapK_blk (k i)
    exact ⟨c, r ++ (p ++ weave k (i + 1) ps) ++ [10], by simp [weave, h1], h2⟩
/-- With other gaps the tokens are the same, but for places. -/
theorem weave_tx (k : Nat → Nat) (l0 : List UInt8) : ∀ (ts : List Tok) (ps : List (List UInt8)) (i j : Nat), Pcs V l0 i ts ps → Tx V (weave k j ps ++ [10]) (ts.map cl) := by
  intro ts
  induction ts with
  | nil =>
    intro ps i j h
    cases ps with
    | nil => exact ⟨[], clo_gap shut_lf, rfl⟩
    | cons p ps => cases h
  | cons t ts ih =>
    intro ps i j h
    cases ps with
    | nil => cases h
    | cons p ps =>
      obtain ⟨-, hp, h⟩ := h
      have := ih ps _ (j + 1) h
      rw [weave, List.append_assoc, List.append_assoc]
      refine tx_gap (gapK_shut _) ?_
      have h2 := tx_two (V := V) (w := p) (v := weave k (j + 1) ps ++ [10]) (t := cl t) hp.ne (fun z => hp.gp _) (fun z => hp.nx _ (.inr ?_)) this
      · exact h2
      · obtain ⟨c, r, e, hc⟩ := weave_head k (j + 1) ps
        exact ⟨c, r ++ z, by rw [e]; rfl, hc⟩
theorem pcs_len {l0 : List UInt8} : ∀ (ts : List Tok) (ps : List (List UInt8)) (i : Nat), Pcs V l0 i ts ps → ps.length = ts.length := by
  intro ts
  induction ts with
  | nil =>
    intro ps i h
    cases ps with
    | nil => rfl
    | cons p ps => cases h
  | cons t ts ih =>
    intro ps i h
    cases ps with
    | nil => cases h
    | cons p ps => simp [ih ps _ h.2.2]
theorem pc_in {l0 : List UInt8} {t : Tok} {p : List UInt8} (h : Pc V l0 t p) : t.a.toNat + p.length ≤ l0.length := by
  have h1 := congrArg List.length h.cut
  rw [List.length_append, List.length_drop, List.length_drop] at h1
  have : p.length ≠ 0 := fun e => h.ne (List.length_eq_zero_iff.1 e)
  omega
theorem pcs_le {l0 : List UInt8} : ∀ (ts : List Tok) (ps : List (List UInt8)) (i : Nat), Pcs V l0 i ts ps → i + (ps.map List.length).sum ≤ l0.length := by
  intro ts
  induction ts with
  | nil =>
    intro ps i h
    cases ps with
    | nil => simpa [Pcs] using h
    | cons p ps => cases h
  | cons t ts ih =>
    intro ps i h
    cases ps with
    | nil => cases h
    | cons p ps =>
      have h1 := ih ps _ h.2.2
      have h2 := h.1
      simp only [List.map_cons, List.sum_cons]
      omega
theorem weave_len (k : Nat → Nat) : ∀ (ps : List (List UInt8)) (j : Nat), (weave k j ps).length ≤ 6 * ps.length + (ps.map List.length).sum := by
  intro ps
  induction ps with
  | nil => intro j; simp [weave]
  | cons p ps ih =>
    intro j
    have h1 := ih (j + 1)
    have h2 := gapK_len (k j)
    simp only [weave, List.length_append, List.length_cons, List.map_cons, List.sum_cons]
    omega
/-- The law on blanks: the same tokens, but for places. -/
theorem blanks {l : List UInt8} {ts : List Tok} {ps : List (List UInt8)} (k : Nat → Nat) (h : Lx.lex V l = .ok ts) (hp : Pcs V l 0 ts ps) (hl : l.length ≤ 900) : ∃ us, Lx.lex V (weave k 0 ps ++ [10]) = .ok us ∧ us.map cl = ts.map cl := by
  obtain ⟨u, c, e⟩ := weave_tx (V := V) k l ts ps 0 0 hp
  have h1 := (lex_len h).1
  have h2 := pcs_le ts ps 0 hp
  have h3 := weave_len k ps 0
  have h4 := pcs_len ts ps 0 hp
  refine ⟨u, c.lex ?_ ?_, e⟩
  · rw [List.length_append, List.length_singleton]; omega
  · have := congrArg List.length e
    rw [List.length_map, List.length_map] at this
    omega
/-- Places are in order, and in the source. -/
theorem pcs_at {l0 : List UInt8} : ∀ (ts : List Tok) (ps : List (List UInt8)) (i : Nat), Pcs V l0 i ts ps → ts.Pairwise (fun t u => t.a < u.a) ∧ ∀ t ∈ ts, (i : Int) ≤ t.a ∧ t.a < l0.length := by
  intro ts
  induction ts with
  | nil => intro ps i h; exact ⟨List.Pairwise.nil, by simp⟩
  | cons t ts ih =>
    intro ps i h
    cases ps with
    | nil => cases h
    | cons p ps =>
      obtain ⟨h1, h2, h3⟩ := h
      have h4 := pc_in h2
      have hne : p.length ≠ 0 := fun e => h2.ne (List.length_eq_zero_iff.1 e)
      obtain ⟨i1, i2⟩ := ih ps _ h3
      refine ⟨List.pairwise_cons.2 ⟨fun u hu => ?_, i1⟩, fun u hu => ?_⟩
      · have := (i2 u hu).1; omega
      · rw [List.mem_cons] at hu
        rcases hu with rfl | hu
        · exact ⟨h1, by omega⟩
        · have := i2 u hu; exact ⟨by omega, this.2⟩
/-- The byte offset of a place: k tokens are left. -/
def offs (ts : List Tok) (e : Nat) (k : Nat) : Int := match ts.drop (ts.length - k) with
  | [] => (e : Int)
  | t :: _ => t.a
theorem offs_lt {l : List UInt8} {ts : List Tok} (h : Lx.lex V l = .ok ts) {k k' : Nat} (hk : k' < k) (h1 : k ≤ ts.length) : offs ts l.length k < offs ts l.length k' := by
  obtain ⟨ps, hp⟩ := lex_pcs h
  obtain ⟨a1, a2⟩ := pcs_at ts ps 0 hp
  have e : ts.drop (ts.length - k) = ts[ts.length - k] :: ts.drop (ts.length - k + 1) := List.drop_eq_getElem_cons (by omega)
  unfold offs
  rw [e]
  show (ts[ts.length - k]).a < _
  by_cases h0 : k' = 0
  · subst h0
    rw [Nat.sub_zero, List.drop_length]
    exact (a2 _ (List.getElem_mem _)).2
  · have e' : ts.drop (ts.length - k') = ts[ts.length - k'] :: ts.drop (ts.length - k' + 1) := List.drop_eq_getElem_cons (by omega)
    rw [e']
    exact List.pairwise_iff_getElem.1 a1 _ _ _ _ (by omega)
theorem offs_in {l : List UInt8} {ts : List Tok} (h : Lx.lex V l = .ok ts) (k : Nat) : 0 ≤ offs ts l.length k ∧ offs ts l.length k ≤ l.length := by
  obtain ⟨ps, hp⟩ := lex_pcs h
  obtain ⟨-, a2⟩ := pcs_at ts ps 0 hp
  unfold offs
  cases hd : ts.drop (ts.length - k) with
  | nil => simp
  | cons t r =>
    have := a2 t (List.drop_subset _ _ (by rw [hd]; simp))
    exact ⟨by simpa using this.1, by simp; omega⟩
end Pa
end Go.Proofs.YtedbpjcglnkjmaaGreatDoor
