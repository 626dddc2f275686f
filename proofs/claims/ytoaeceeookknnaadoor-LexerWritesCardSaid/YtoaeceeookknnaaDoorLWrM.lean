/-
  Mathematics of writing: tokens that are written with blanks between them are read as the same tokens.
-/
import Derived.Test.YtoaeceeookknnaaDoorLDig
namespace Go.Proofs.YtoaeceeookknnaaDoor
open Go.RowKit Lx

/-- A number in lowest terms whose denominator divides 100, as it is written. -/
def wrQ (N D : Nat) : List UInt8 :=
  if D = 1 then Lib.decDigits N
  else Lib.decDigits (N * (100 / D) / 100) ++ 46 :: (Lib.decDigits (N * (100 / D) / 10 % 10) ++ (if 0 < N * (100 / D) % 10 then Lib.decDigits (N * (100 / D) % 10) else []))
/-- The text of a token. -/
def wr (t : Tok) : List UInt8 := if t.k = 2 then wrQ t.n.toNat t.d.toNat else t.t
/-- What Write asks of a token. -/
def Wok (t : Tok) : Prop := t.k = 2 → 0 ≤ t.n ∧ t.n ≤ 1000000000 ∧ 1 ≤ t.d ∧ t.d ≤ 100 ∧ 100 % t.d.toNat = 0

theorem Vh_ok {h : Nat} {p q : Int} (hv : Vh h = (p, q, 0)) : 0 ≤ p ∧ p ≤ 1000000000 ∧ 1 ≤ q ∧ q ≤ 100 ∧ 100 % q.toNat = 0 ∧ p.toNat * (100 / q.toNat) = h ∧ Nat.gcd p.toNat q.toNat = 1 := by
  have hq : Q.Val p q := mk_val (by decide) hv
  unfold Vh mk at hv
  rw [if_neg (by decide)] at hv
  cases e : Q.red (h : Int) 100 with
  | none => rw [e] at hv; cases hv
  | some r =>
    obtain ⟨p', q'⟩ := r
    rw [e] at hv
    simp only [Prod.mk.injEq] at hv
    obtain ⟨rfl, rfl, _⟩ := hv
    have e2 := (Q.red_val (by decide) e).2
    obtain ⟨v1, v2, v3, v4, v5⟩ := hq
    obtain ⟨Q, rfl⟩ : ∃ Q : Nat, q' = Q := ⟨q'.toNat, by omega⟩
    have hp0 : 0 ≤ p' := by
      have h1 : 0 ≤ (h : Int) * (Q : Int) := Int.mul_nonneg (by omega) (by omega)
      omega
    obtain ⟨P, rfl⟩ : ∃ P : Nat, p' = P := ⟨p'.toNat, by omega⟩
    have e3 : h * Q = P * 100 := by
      have : ((h * Q : Nat) : Int) = ((P * 100 : Nat) : Int) := by rw [Int.natCast_mul, Int.natCast_mul]; exact e2
      exact Int.ofNat.inj this
    have hg : Nat.gcd P Q = 1 := by simpa using v5
    have hd : Q ∣ 100 := by
      have h1 : Q ∣ P * 100 := ⟨h, by rw [← e3, Nat.mul_comm]⟩
      exact Nat.Coprime.dvd_of_dvd_mul_left (by rw [Nat.Coprime, Nat.gcd_comm]; exact hg) h1
    have hle := Nat.le_of_dvd (by decide) hd
    obtain ⟨k, hk⟩ := hd
    have hQ : 0 < Q := by omega
    refine ⟨hp0, v2, v3, by omega, ?_, ?_, by simpa using hg⟩
    · rw [Int.toNat_natCast, hk, Nat.mul_mod_right]
    · rw [Int.toNat_natCast, Int.toNat_natCast]
      have : 100 / Q = k := by rw [hk, Nat.mul_div_cancel_left _ hQ]
      rw [this]
      have h2 : (P * k) * Q = h * Q := by rw [e3, hk]; rw [Nat.mul_assoc, Nat.mul_comm k Q]
      exact Nat.eq_of_mul_eq_mul_right hQ h2
/-- The denominator is 1 for whole numbers alone. -/
theorem Vh_one {h : Nat} {p q : Int} (hv : Vh h = (p, q, 0)) : (q.toNat = 1 ↔ h % 100 = 0) ∧ (q.toNat = 1 → p.toNat = h / 100) := by
  obtain ⟨h1, h2, h3, h4, h5, h6, h7⟩ := Vh_ok hv
  refine ⟨⟨fun e => ?_, fun e => ?_⟩, fun e => ?_⟩
  · rw [e] at h6; omega
  · have hd : q.toNat ∣ 100 := Nat.dvd_of_mod_eq_zero h5
    obtain ⟨k, hk⟩ := hd
    have hq0 : 0 < q.toNat := by omega
    have hk2 : 100 / q.toNat = k := by rw [hk, Nat.mul_div_cancel_left _ hq0]
    rw [hk2] at h6
    have hk0 : 0 < k := by
      rcases Nat.eq_zero_or_pos k with z | z
      · rw [z] at hk; omega
      · exact z
    have h8 : q.toNat * k ∣ p.toNat * k := by rw [h6, ← hk]; exact Nat.dvd_of_mod_eq_zero e
    have h9 : q.toNat ∣ p.toNat := Nat.dvd_of_mul_dvd_mul_right hk0 h8
    have := Nat.gcd_eq_right h9
    omega
  · rw [e] at h6; omega

theorem dec_digs {n k : Nat} (hk : 1 ≤ k) (h : n < 10 ^ k) : digs (Lib.decDigits n) k = true := by
  obtain ⟨a1, a2, a3⟩ := dec_allD n
  unfold digs
  rw [decide_eq_true a2, decide_eq_true (dec_len k n hk h), a1]; rfl
/-- What hundredths of a text that has the form are made of. -/
theorem hun_parts {x : List UInt8} (hf : frm x = true) : hun x / 100 < 10 ^ (whole x).length ∧ 1 ≤ (whole x).length ∧ (whole x).length ≤ 9 ∧ (hun x % 100 ≠ 0 → (whole x).length + 2 ≤ x.length) ∧ (hun x % 10 ≠ 0 → (whole x).length + 3 ≤ x.length) ∧ (whole x).length ≤ x.length := by
  unfold frm at hf
  rw [Bool.and_eq_true, Bool.or_eq_true, decide_eq_true_eq] at hf
  obtain ⟨a1, a2, a3⟩ := digs_all hf.1
  have hp := cut_parts x
  have hl := congrArg List.length hp
  rw [List.length_append] at hl
  have hv := val_lt _ 0 a3
  have hw1 : 1 ≤ (whole x).length := by
    cases hx : whole x with
    | nil => exact absurd hx a1
    | cons _ _ => simp
  have z48 : (48 : UInt8).toNat = 48 := rfl
  have hval : ∀ c d : UInt8, valD (whole x ++ [c, d]) = valD (whole x) * 100 + (c.toNat - 48) * 10 + (d.toNat - 48) := fun c d => by
    rw [show whole x ++ [c, d] = (whole x ++ [c]) ++ [d] by simp, valD_snoc, valD_snoc]; omega
  have hv' : valD (whole x) < 10 ^ (whole x).length := by unfold valD; omega
  rcases hf.2 with hb | hb
  · have hh : hun x = valD (whole x) * 100 := by
      unfold hun; rw [hb]
      show valD (whole x ++ [48, 48]) = _
      rw [hval, z48]; omega
    refine ⟨by rw [hh]; omega, hw1, a2, fun h => by omega, fun h => by omega, by omega⟩
  · obtain ⟨b1, b2, b3⟩ := digs_all hb
    have hbl : (behind x).length = (behind x).tail.length + 1 := by
      cases hx : behind x with
      | nil => rw [hx] at b1; simp at b1
      | cons _ _ => simp
    have hd9 : ∀ c ∈ (behind x).tail, c.toNat - 48 ≤ 9 := fun c hc => by
      have := List.all_eq_true.1 b3 c hc
      unfold dgt at this
      simp only [Bool.and_eq_true, decide_eq_true_eq] at this
      omega
    obtain ⟨T, hT⟩ : ∃ T, (behind x).tail = T := ⟨_, rfl⟩
    rw [hT] at b1 b2 hbl hd9
    match T, hT, b1, b2, hd9, hbl with
    | [], _, b1, _, _, _ => exact absurd rfl b1
    | [c], hT, _, _, hd9, hbl =>
      have h1 := hd9 c (by simp)
      have hh : hun x = valD (whole x) * 100 + (c.toNat - 48) * 10 := by
        unfold hun
        rw [hT]
        show valD (whole x ++ [c, 48]) = _
        rw [hval, z48]; omega
      simp only [List.length_singleton] at hbl
      refine ⟨by rw [hh]; omega, hw1, a2, fun h => by omega, fun h => by omega, by omega⟩
    | [c, d], hT, _, _, hd9, hbl =>
      have h1 := hd9 c (by simp)
      have h2 := hd9 d (by simp)
      have hh : hun x = valD (whole x) * 100 + (c.toNat - 48) * 10 + (d.toNat - 48) := by
        unfold hun
        rw [hT]
        show valD (whole x ++ [c, d]) = _
        rw [hval]
      simp only [List.length_cons, List.length_nil] at hbl
      refine ⟨by rw [hh]; omega, hw1, a2, fun h => by omega, fun h => by omega, by omega⟩
    | _ :: _ :: _ :: _, _, _, b2, _, _ => simp at b2
/-- A number that is written is a number with the same hundredths, and no longer than it was. -/
theorem wrQ_num {x : List UInt8} {p q : Int} (hf : frm x = true) (hv : Vh (hun x) = (p, q, 0)) : Num (wrQ p.toNat q.toNat) (hun x) ∧ (wrQ p.toNat q.toNat).length ≤ x.length := by
  obtain ⟨h1, h2, h3, h4, h5, h6, h7⟩ := Vh_ok hv
  obtain ⟨g1, g2⟩ := Vh_one hv
  obtain ⟨w1, w2, w3, w4, w5, w6⟩ := hun_parts hf
  have h9 : hun x / 100 < 10 ^ 9 := Nat.lt_of_lt_of_le w1 (Nat.pow_le_pow_right (by decide) w3)
  have hd := dec_digs (k := 9) (by decide) h9
  have hdl := dec_len _ _ w2 w1
  obtain ⟨a1, a2, a3⟩ := dec_allD (hun x / 100)
  unfold wrQ
  rw [h6]
  by_cases hq : q.toNat = 1
  · rw [if_pos hq, g2 hq]
    have := num0 hd
    rw [a3] at this
    have e := g1.1 hq
    rw [show 100 * (hun x / 100) = hun x by omega] at this
    exact ⟨this, by omega⟩
  · rw [if_neg hq]
    have e : hun x % 100 ≠ 0 := fun e => hq (g1.2 e)
    have hx2 := w4 e
    have d1 : Lib.decDigits (hun x / 10 % 10) = [UInt8.ofNat (48 + hun x / 10 % 10)] := dec_small (by omega)
    have d2 : Lib.decDigits (hun x % 10) = [UInt8.ofNat (48 + hun x % 10)] := dec_small (by omega)
    rw [d1, d2]
    by_cases h10 : 0 < hun x % 10
    · rw [if_pos h10]
      have := num2 hd (d := hun x / 10 % 10) (e := hun x % 10) (by omega) (by omega)
      rw [a3, show 100 * (hun x / 100) + 10 * (hun x / 10 % 10) + hun x % 10 = hun x by omega] at this
      refine ⟨this, ?_⟩
      have := w5 (by omega)
      simp only [List.length_append, List.length_cons, List.length_nil]
      omega
    · rw [if_neg h10]
      have := num1 hd (d := hun x / 10 % 10) (by omega)
      rw [a3, show 100 * (hun x / 100) + 10 * (hun x / 10 % 10) = hun x by omega] at this
      refine ⟨this, ?_⟩
      simp only [List.length_append, List.length_cons, List.length_nil]
      omega
theorem blk_no : ∀ c : UInt8, blk c = true → c.toNat ≠ 33 ∧ c.toNat ≠ 60 ∧ c.toNat ≠ 62 ∧ isS1 c = false := all_bytes (by decide +kernel)
theorem sgn_blk (c : UInt8) (l : List UInt8) (h : blk c = true) : sgn (c :: l) = 0 := by
  obtain ⟨h1, h2, h3, h4⟩ := blk_no c h
  simp only [sgn]
  rw [if_neg h1, if_neg (by omega), if_neg (by rw [h4]; simp)]
/-- What a token is, and what is written for it. -/
theorem nx_wr {l : List UInt8} {t : Tok} {n : Nat} (h : nx Vh l = .ok t n) : Wok t ∧ (wr t).length ≤ n ∧ (∀ i, wr (mov i t) = wr t) ∧ gp false (wr t) = 0 ∧ ∀ r, nx Vh (wr t ++ 32 :: r) = .ok t (wr t).length := by
  have hpos := nx_pos h
  have hy : ∀ (x : List UInt8) (r : List UInt8), Nxt x (32 :: r) := fun x r => Or.inr (Or.inl ⟨32, r, rfl, by decide⟩)
  have hmv : ∀ i, wr (mov i t) = wr t := fun i => rfl
  have hh := h
  cases l with
  | nil => simp [nx] at h
  | cons c l =>
    simp only [nx] at h
    split at h
    · rename_i hl
      split at h
      · cases h
      · injection h with e1 e2
        have hwr : wr t = (c :: l).takeWhile wrd := by rw [← e1]; rfl
        have hpt : wr t = (c :: l).take n := by rw [hwr, ← e2, tw_take]
        refine ⟨fun hk => by rw [← e1] at hk; simp at hk, by rw [hwr, e2]; exact Nat.le_refl _, hmv, ?_, fun r => ?_⟩
        · rw [hwr, List.takeWhile_cons, (ltr_not c hl).2.2.2, if_pos rfl]
          simp only [gp]
          rw [if_neg (ltr_not c hl).2.1, if_neg (by rw [(ltr_not c hl).1]; simp)]
        · have := nx_any hh (y := 32 :: r) (hy _ r)
          rw [← hpt] at this
          rw [this, hpt, List.length_take, Nat.min_eq_left hpos.2.1]
    · rename_i hl
      split at h
      · rename_i hd
        split at h
        · rename_i hf
          split at h
          · rename_i hv
            injection h with e1 e2
            obtain ⟨p, q, e, hV⟩ : ∃ p q e, Vh (hun ((c :: l).takeWhile nmb)) = (p, q, e) := ⟨_, _, _, rfl⟩
            rw [hV] at hv e1
            simp only at hv
            subst hv
            obtain ⟨k1, k2⟩ := wrQ_num hf hV
            obtain ⟨h1, h2, h3, h4, h5, h6, h7⟩ := Vh_ok hV
            have hwr : wr t = wrQ p.toNat q.toNat := by rw [← e1]; rfl
            have hnx := num_nx k1
            rw [hV] at hnx
            simp only [if_true] at hnx
            rw [e1] at hnx
            refine ⟨fun _ => by rw [← e1]; exact ⟨h1, h2, h3, h4, h5⟩, by rw [hwr, ← e2]; exact k2, hmv, ?_, fun r => ?_⟩
            · rw [hwr]
              obtain ⟨c', r', hcr, hc⟩ := k1.hd
              rw [hcr]; simp only [gp]
              rw [if_neg (dgt_not c' hc).2.1, if_neg (by rw [(dgt_not c' hc).1]; simp)]
            · rw [hwr]
              have := nx_next (w := wrQ p.toNat q.toNat) (x := []) (y := 32 :: r) (t := t) (by rw [List.append_nil]; exact hnx) (hy _ r)
              exact this
          · cases h
        · cases h
      · rename_i hd
        split at h
        · cases h
        · rename_i h0
          injection h with e1 e2
          have hpt : wr t = (c :: l).take n := by rw [← e1, ← e2]; rfl
          refine ⟨fun hk => by rw [← e1] at hk; simp at hk, by rw [hpt, List.length_take]; omega, hmv, ?_, fun r => ?_⟩
          · have hc : blk c = false ∧ c.toNat ≠ 35 := by
              simp only [sgn] at h0
              constructor
              · cases hb : blk c with
                | false => rfl
                | true =>
                  exfalso; apply h0
                  have q := sgn_blk c l hb
                  simpa only [sgn] using q
              · intro e
                apply h0
                rw [if_neg (by omega), if_neg (by omega), if_neg]
                intro hs
                exact (isS1_not c hs).2.1 e
            obtain ⟨m, rfl⟩ : ∃ m, n = m + 1 := ⟨n - 1, by omega⟩
            rw [hpt, List.take_succ_cons]
            simp only [gp]
            rw [if_neg hc.2, if_neg (by rw [hc.1]; simp)]
          · have := nx_any hh (y := 32 :: r) (hy _ r)
            rw [← hpt] at this
            rw [this, hpt, List.length_take, Nat.min_eq_left hpos.2.1]

/-- The text of tokens. -/
def wrX : List Tok → List UInt8
  | [] => []
  | t :: us => wr t ++ 32 :: wrX us
/-- The tokens with the offsets at which they are written. -/
def wrW : Nat → List Tok → List Tok
  | _, [] => []
  | o, t :: us => { t with a := (o : Int) } :: wrW (o + (wr t).length + 1) us
theorem wrW_len : ∀ (us : List Tok) (o : Nat), (wrW o us).length = us.length
  | [], _ => rfl
  | t :: us, o => by rw [wrW, List.length_cons, wrW_len us, List.length_cons]
theorem gp_wr {w : List UInt8} (h : gp false w = 0) (hw : w ≠ []) (r : List UInt8) : gp false (w ++ r) = 0 := by
  cases w with
  | nil => exact absurd rfl hw
  | cons c w =>
    simp only [gp, List.cons_append] at h ⊢
    split at h
    · omega
    · rename_i e
      rw [if_neg e]
      split at h
      · omega
      · rename_i e2; rw [if_neg e2]
theorem gp_sp (r : List UInt8) : gp false (32 :: r) = 1 + gp false r := by
  simp only [gp]; rw [if_neg (by decide), if_pos (by decide)]
/-- Reading on does not hang on a blank that comes first. -/
theorem lx_sp (f i : Nat) (l : List UInt8) : lx Vh f i (32 :: l) = lx Vh f (i + 1) l := by
  have hg := gp_sp l
  cases f with
  | zero =>
    simp only [lx, hg, List.length_cons]
    by_cases e : gp false l = l.length
    · rw [if_pos (by omega), if_pos e]
    · rw [if_neg (by omega), if_neg e]; congr 1; omega
  | succ f =>
    simp only [lx, hg, List.length_cons]
    by_cases e : gp false l = l.length
    · rw [if_pos (by omega), if_pos e]
    · rw [if_neg (by omega), if_neg e]
      have h1 : (32 :: l).drop (1 + gp false l) = l.drop (gp false l) := by rw [Nat.add_comm, List.drop_succ_cons]
      rw [h1]
      cases nx Vh (l.drop (gp false l)) with
      | er e => simp only []; congr 1; omega
      | ok t n =>
        simp only []
        have h2 : (32 :: l).drop (1 + gp false l + n) = l.drop (gp false l + n) := by rw [show 1 + gp false l + n = (gp false l + n) + 1 by omega, List.drop_succ_cons]
        rw [h2, show i + (1 + gp false l) + n = i + 1 + gp false l + n by omega, show i + (1 + gp false l) = i + 1 + gp false l by omega]
theorem lx_wr : ∀ (f i o : Nat) (l : List UInt8) (ts : List Tok), lx Vh f i l = .ok ts → lx Vh f o (wrX ts) = .ok (wrW o ts) ∧ (∀ t ∈ ts, Wok t) ∧ (wrX ts).length ≤ 2 * l.length := by
  intro f
  induction f with
  | zero =>
    intro i o l ts h
    rcases lx_ok h with ⟨hg, rfl⟩ | ⟨f', t, n, us, hf, _⟩
    · exact ⟨lx_end rfl, by simp, by simp [wrX]⟩
    · omega
  | succ f ih =>
    intro i o l ts h
    rcases lx_ok h with ⟨hg, rfl⟩ | ⟨f', t, n, us, hf, hg, hn, hr, rfl⟩
    · exact ⟨lx_end rfl, by simp, by simp [wrX]⟩
    · obtain rfl : f = f' := by omega
      obtain ⟨n1, n2, n3⟩ := nx_pos hn
      rw [List.length_drop] at n2
      obtain ⟨k1, k2, k3, k4, k5⟩ := nx_wr hn
      obtain ⟨i1, i2, i3⟩ := ih _ (o + (wr t).length + 1) _ _ hr
      rw [List.length_drop] at i3
      have hne : wr t ≠ [] := by
        intro e
        have := (nx_pos (k5 [])).1
        rw [e] at this; simp at this
      have hg0 := gp_wr k4 hne (32 :: wrX us)
      have hm : ∀ t' ∈ mov (i + gp false l : Nat) t :: us, Wok t' := by
        intro t' ht
        rw [List.mem_cons] at ht
        rcases ht with rfl | ht
        · exact k1
        · exact i2 _ ht
      refine ⟨?_, hm, ?_⟩
      · have hx : wrX (mov (i + gp false l : Nat) t :: us) = wr t ++ 32 :: wrX us := by rw [wrX, k3]
        rw [hx]
        have := lx_cons (V := Vh) (f := f) (i := o) (l := wr t ++ 32 :: wrX us) (t := t) (n := (wr t).length) (by rw [hg0, List.length_append, List.length_cons]; omega) (by rw [hg0, List.drop_zero]; exact k5 _)
        rw [this, hg0, Nat.add_zero, Nat.zero_add, List.drop_left, lx_sp, i1]
        simp only [Res.app, wrW, k3, List.cons_append, List.nil_append]
        congr 2
        unfold mov
        simp only [n3, Int.zero_add]
      · rw [wrX, k3, List.length_append, List.length_cons]
        omega
theorem lex_wr {l : List UInt8} {ts : List Tok} (h : lex Vh l = .ok ts) (hl : l.length ≤ 4000) : lex Vh (wrX ts) = .ok (wrW 0 ts) ∧ (∀ t ∈ ts, Wok t) ∧ (wrX ts).length ≤ 8000 := by
  unfold lex at h
  rw [if_neg (by omega)] at h
  obtain ⟨h1, h2, h3⟩ := lx_wr _ _ 0 _ _ h
  refine ⟨?_, h2, by omega⟩
  unfold lex
  rw [if_neg (by omega)]; exact h1
end Go.Proofs.YtoaeceeookknnaaDoor
