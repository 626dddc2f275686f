/-
  Mathematics of layer 7: kinds of bytes, gaps, tokens, and the tokens of a source. No program in it.
-/
import Derived.Test.YtoaeceeookknnaaDoorMath
namespace Go.Proofs.YtoaeceeookknnaaDoor
namespace Lx

/-! ### Kinds of bytes -/
def ltr (c : UInt8) : Bool := decide (97 ≤ c.toNat) && decide (c.toNat ≤ 122)
def dgt (c : UInt8) : Bool := decide (48 ≤ c.toNat) && decide (c.toNat ≤ 57)
def wrd (c : UInt8) : Bool := ltr c || dgt c || decide (c.toNat = 95)
def nmb (c : UInt8) : Bool := wrd c || decide (c.toNat = 46)
def lin (c : UInt8) : Bool := decide (c.toNat ≠ 10)
def blk (c : UInt8) : Bool := decide (c.toNat = 32) || decide (c.toNat = 9) || decide (c.toNat = 10) || decide (c.toNat = 13)
theorem all_bytes {p : UInt8 → Prop} (h : ∀ k : Fin 256, p (UInt8.ofNat k.val)) (c : UInt8) : p c := by
  have := h ⟨c.toNat, c.toNat_lt⟩
  simpa using this
theorem blk_lin_wrd : ∀ c : UInt8, blk c = true → wrd c = false ∧ nmb c = false ∧ ltr c = false ∧ dgt c = false ∧ c.toNat ≠ 61 ∧ c.toNat ≠ 35 :=
  all_bytes (by decide +kernel)
theorem ltr_not : ∀ c : UInt8, ltr c = true → blk c = false ∧ c.toNat ≠ 35 ∧ dgt c = false ∧ wrd c = true := all_bytes (by decide +kernel)
theorem dgt_not : ∀ c : UInt8, dgt c = true → blk c = false ∧ c.toNat ≠ 35 ∧ ltr c = false ∧ nmb c = true ∧ c.toNat ≠ 46 := all_bytes (by decide +kernel)

/-! ### Gaps -/
/-- The length of the gap with which bytes begin; the first argument: within a comment. -/
def gp : Bool → List UInt8 → Nat
  | _, [] => 0
  | true, c :: l => if c.toNat = 10 then 1 + gp false l else 1 + gp true l
  | false, c :: l => if c.toNat = 35 then 1 + gp true l else if blk c = true then 1 + gp false l else 0
theorem gp_le : ∀ (l : List UInt8) (b : Bool), gp b l ≤ l.length
  | [], b => by cases b <;> simp [gp]
  | c :: l, true => by
    have h1 := gp_le l false; have h2 := gp_le l true
    simp only [gp, List.length_cons]; split <;> omega
  | c :: l, false => by
    have h1 := gp_le l false; have h2 := gp_le l true
    simp only [gp, List.length_cons]; split
    · omega
    · split <;> omega
theorem gp_take : ∀ (l : List UInt8) (b : Bool) (k : Nat), k ≤ gp b l → gp b (l.take k) = k
  | [], b, k, h => by cases b <;> simp [gp] at h ⊢ <;> omega
  | c :: l, b, 0, h => by cases b <;> simp [gp]
  | c :: l, true, k + 1, h => by
    simp only [gp, List.take_succ_cons] at h ⊢
    split at h
    · rename_i e; rw [if_pos e, gp_take l false k (by omega)]; omega
    · rename_i e; rw [if_neg e, gp_take l true k (by omega)]; omega
  | c :: l, false, k + 1, h => by
    simp only [gp, List.take_succ_cons] at h ⊢
    split at h
    · rename_i e; rw [if_pos e, gp_take l true k (by omega)]; omega
    · rename_i e
      rw [if_neg e]
      split at h
      · rename_i e2; rw [if_pos e2, gp_take l false k (by omega)]; omega
      · omega
/-- Behind a gap that ends before something, what stands there is in no gap. -/
theorem gp_drop : ∀ (l : List UInt8) (b : Bool), gp b l < l.length → gp false (l.drop (gp b l)) = 0 ∧ ∀ x, gp b (l.take (gp b l) ++ x) = gp b l + gp false x
  | [], b, h => by simp at h
  | c :: l, true, h => by
    simp only [gp, List.length_cons] at h ⊢
    split at h
    · rename_i e
      obtain ⟨h1, h2⟩ := gp_drop l false (by omega)
      rw [if_pos e, Nat.add_comm 1, List.drop_succ_cons, List.take_succ_cons]
      refine ⟨h1, fun x => ?_⟩
      rw [List.cons_append, gp, if_pos e, h2]; omega
    · rename_i e
      obtain ⟨h1, h2⟩ := gp_drop l true (by omega)
      rw [if_neg e, Nat.add_comm 1, List.drop_succ_cons, List.take_succ_cons]
      refine ⟨h1, fun x => ?_⟩
      rw [List.cons_append, gp, if_neg e, h2]; omega
  | c :: l, false, h => by
    simp only [gp, List.length_cons] at h ⊢
    split at h
    · rename_i e
      obtain ⟨h1, h2⟩ := gp_drop l true (by omega)
      rw [if_pos e, Nat.add_comm 1, List.drop_succ_cons, List.take_succ_cons]
      refine ⟨h1, fun x => ?_⟩
      rw [List.cons_append, gp, if_pos e, h2]; omega
    · rename_i e
      rw [if_neg e]
      split at h
      · rename_i e2
        obtain ⟨h1, h2⟩ := gp_drop l false (by omega)
        rw [if_pos e2, Nat.add_comm 1, List.drop_succ_cons, List.take_succ_cons]
        refine ⟨h1, fun x => ?_⟩
        rw [List.cons_append, gp, if_neg e, if_pos e2, h2]; omega
      · rename_i e2
        rw [if_neg e2]
        refine ⟨?_, fun x => ?_⟩
        · simp only [List.drop_zero, gp]; rw [if_neg e, if_neg e2]
        · simp
/-- A line feed ends every gap. -/
theorem gp_join : ∀ (l : List UInt8) (b : Bool), gp b l = l.length → ∀ x, gp b (l ++ 10 :: x) = l.length + 1 + gp false x
  | [], b, _, x => by
    cases b
    · simp only [List.nil_append, gp]; rw [if_neg (by decide), if_pos (by decide)]; simp
    · simp only [List.nil_append, gp]; rw [if_pos (by decide)]; simp
  | c :: l, true, h, x => by
    simp only [gp, List.length_cons, List.cons_append] at h ⊢
    split at h
    · rename_i e; rw [if_pos e, gp_join l false (by omega)]; omega
    · rename_i e; rw [if_neg e, gp_join l true (by omega)]; omega
  | c :: l, false, h, x => by
    simp only [gp, List.length_cons, List.cons_append] at h ⊢
    split at h
    · rename_i e; rw [if_pos e, gp_join l true (by omega)]; omega
    · rename_i e
      rw [if_neg e]
      split at h
      · rename_i e2; rw [if_pos e2, gp_join l false (by omega)]; omega
      · omega
/-- What comes ahead of something that is in no gap, is the same whatever comes behind. -/
theorem gp_short : ∀ (l x y : List UInt8) (b : Bool), gp b (l ++ x) < l.length → gp b (l ++ y) = gp b (l ++ x)
  | [], _, _, _, h => by simp at h
  | c :: l, x, y, true, h => by
    simp only [gp, List.length_cons, List.cons_append] at h ⊢
    split at h
    · rename_i e; rw [if_pos e, if_pos e, gp_short l x y false (by omega)]
    · rename_i e; rw [if_neg e, if_neg e, gp_short l x y true (by omega)]
  | c :: l, x, y, false, h => by
    simp only [gp, List.length_cons, List.cons_append] at h ⊢
    split at h
    · rename_i e; rw [if_pos e, if_pos e, gp_short l x y true (by omega)]
    · rename_i e
      rw [if_neg e, if_neg e]
      split at h
      · rename_i e2; rw [if_pos e2, if_pos e2, gp_short l x y false (by omega)]
      · rename_i e2; rw [if_neg e2, if_neg e2]
/-- A gap that ends, whatever comes behind it. -/
def Shut (g : List UInt8) : Prop := ∀ x, gp false (g ++ x) = g.length + gp false x

/-! ### Signs -/
def isS1 (c : UInt8) : Bool := [123, 125, 40, 41, 59, 44, 58, 43, 45, 42, 47, 61].contains c.toNat
/-- The length of the sign with which bytes begin. -/
def sgn : List UInt8 → Nat
  | [] => 0
  | c :: l =>
    if c.toNat = 33 then (if l.head? = some 61 then 2 else 0)
    else if c.toNat = 60 ∨ c.toNat = 62 then (if l.head? = some 61 then 2 else 1)
    else if isS1 c = true then 1 else 0
theorem sgn_le (l : List UInt8) : sgn l ≤ l.length := by
  cases l with
  | nil => simp [sgn]
  | cons c l =>
    have h : l.head? = some 61 → 1 ≤ l.length := by
      intro h; cases l with
      | nil => simp at h
      | cons _ _ => simp
    simp only [sgn, List.length_cons]
    split
    · split
      · have := h (by assumption); omega
      · omega
    · split
      · split
        · have := h (by assumption); omega
        · omega
      · split <;> omega
theorem sgn_le2 (l : List UInt8) : sgn l ≤ 2 := by
  cases l with
  | nil => simp [sgn]
  | cons c l => simp only [sgn]; repeat' split
                all_goals omega
theorem isS1_not : ∀ c : UInt8, isS1 c = true → blk c = false ∧ c.toNat ≠ 35 ∧ ltr c = false ∧ dgt c = false := all_bytes (by decide +kernel)

/-! ### Numbers -/
/-- The value of decimal digits. -/
def valD (l : List UInt8) : Nat := l.foldl (fun a c => a * 10 + (c.toNat - 48)) 0
def allD (l : List UInt8) : Bool := l.all dgt
/-- Digits, at least one and at most k of them. -/
def digs (l : List UInt8) (k : Nat) : Bool := decide (l ≠ []) && decide (l.length ≤ k) && allD l
/-- The part before the first point, and what comes behind it. -/
def whole (l : List UInt8) : List UInt8 := l.takeWhile (fun c => decide (c.toNat ≠ 46))
def behind (l : List UInt8) : List UInt8 := l.dropWhile (fun c => decide (c.toNat ≠ 46))
/-- Is it a number's form? -/
def frm (l : List UInt8) : Bool := digs (whole l) 9 && (decide (behind l = []) || digs (behind l).tail 2)
/-- The hundredths of a number that has the form. -/
def hun (l : List UInt8) : Nat := valD (whole l ++ ((behind l).tail ++ [48, 48]).take 2)

/-! ### Tokens -/
structure Tok where
  k : Int
  a : Int
  t : List UInt8
  n : Int
  d : Int
/-- What a source begins with: an error, or a token (at 0) and its length. -/
inductive Nx where
  | er (e : Int)
  | ok (t : Tok) (n : Nat)
/-- The token with which bytes begin that are in no gap; V: what a number of hundredths is (numerator, denominator, error). -/
def nx (V : Nat → Int × Int × Int) : List UInt8 → Nx
  | [] => .er 0
  | c :: l =>
    if ltr c = true then
      (if 16 < ((c :: l).takeWhile wrd).length then .er 2 else .ok ⟨1, 0, (c :: l).takeWhile wrd, 0, 0⟩ ((c :: l).takeWhile wrd).length)
    else if dgt c = true then
      (if frm ((c :: l).takeWhile nmb) = true then
        (if (V (hun ((c :: l).takeWhile nmb))).2.2 = 0 then .ok ⟨2, 0, [], (V (hun ((c :: l).takeWhile nmb))).1, (V (hun ((c :: l).takeWhile nmb))).2.1⟩ ((c :: l).takeWhile nmb).length else .er 3)
        else .er 8)
    else if sgn (c :: l) = 0 then .er 10 else .ok ⟨3, 0, (c :: l).take (sgn (c :: l)), 0, 0⟩ (sgn (c :: l))

def mov (i : Int) (t : Tok) : Tok := { t with a := t.a + i }
inductive Res where
  | er (e : Int) (a : Nat)
  | ok (l : List Tok)
def Res.app (l : List Tok) : Res → Res
  | .er e a => .er e a
  | .ok m => .ok (l ++ m)
/-- Reads on: f tokens may still come, i is the offset. -/
def lx (V : Nat → Int × Int × Int) : Nat → Nat → List UInt8 → Res
  | 0, i, l => if gp false l = l.length then .ok [] else .er 2 (i + gp false l)
  | f + 1, i, l =>
    if gp false l = l.length then .ok [] else
    match nx V (l.drop (gp false l)) with
    | .er e => .er e (i + gp false l)
    | .ok t n => (lx V f (i + gp false l + n) (l.drop (gp false l + n))).app [mov (i + gp false l : Nat) t]
/-- What Lex returns. -/
def lex (V : Nat → Int × Int × Int) (l : List UInt8) : Res := if 8000 < l.length then .er 2 0 else lx V 2000 0 l
end Lx
end Go.Proofs.YtoaeceeookknnaaDoor
