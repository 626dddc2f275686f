/-
  Mathematics of gaps that are put into a source.
-/
import Derived.Test.YtoaeceeookknnaaDoorLErrorsW
namespace Go.Proofs.YtoaeceeookknnaaDoor
open Go.RowKit Lx

/-- The blank of a byte. -/
def gb (c : UInt8) : UInt8 := if c.toNat % 4 = 0 then 32 else if c.toNat % 4 = 1 then 9 else if c.toNat % 4 = 2 then 10 else 13
theorem gb_blk (c : UInt8) : blk (gb c) = true ∧ (gb c).toNat ≠ 35 := by
  unfold gb
  repeat' split
  all_goals decide
/-- What a comment keeps of bytes. -/
def gc (l : List UInt8) : List UInt8 := l.filter (fun c => c.toNat ≠ 10)
/-- The gap that is made of bytes. -/
def gapL (l : List UInt8) : List UInt8 := (l.take 20).map gb ++ (if l ≠ [] ∧ (l.getD (l.length - 1) 0).toNat % 2 = 1 then 35 :: (gc (l.take 20) ++ [10]) else [])
theorem gp_blanks : ∀ (l y : List UInt8), gp false (l.map gb ++ y) = l.length + gp false y
  | [], y => by simp
  | c :: l, y => by
    rw [List.map_cons, List.cons_append]
    simp only [gp]
    rw [if_neg (gb_blk c).2, if_pos (gb_blk c).1, gp_blanks l y, List.length_cons]; omega
theorem gp_comment : ∀ (l x : List UInt8), (∀ c ∈ l, c.toNat ≠ 10) → gp true (l ++ 10 :: x) = l.length + 1 + gp false x
  | [], x, _ => by simp only [List.nil_append, gp]; rw [if_pos (by decide)]; simp
  | c :: l, x, h => by
    rw [List.cons_append]
    simp only [gp]
    rw [if_neg (h c (by simp)), gp_comment l x (fun d hd => h d (by simp [hd])), List.length_cons]; omega
theorem gc_not (l : List UInt8) : ∀ c ∈ gc l, c.toNat ≠ 10 := by
  intro c hc
  unfold gc at hc
  rw [List.mem_filter] at hc
  simpa using hc.2
theorem gapL_shut (l : List UInt8) : Shut (gapL l) := by
  intro x
  unfold gapL
  split
  · rw [List.append_assoc, gp_blanks, List.cons_append, List.append_assoc, List.singleton_append]
    have : ∀ y, gp false (35 :: y) = 1 + gp true y := fun y => by simp only [gp]; rw [if_pos (by decide)]
    rw [this, gp_comment _ _ (gc_not _)]
    simp only [List.length_append, List.length_map, List.length_cons, List.length_nil]; omega
  · rw [List.append_nil, gp_blanks]; simp
theorem gapL_len (l : List UInt8) : (gapL l).length ≤ 42 := by
  unfold gapL
  have h1 : (gc (l.take 20)).length ≤ (l.take 20).length := List.length_filter_le _ _
  rw [List.length_take] at h1
  split
  · simp only [List.length_append, List.length_map, List.length_cons, List.length_nil, List.length_take]; omega
  · simp only [List.length_append, List.length_map, List.length_nil, List.length_take]; omega
theorem gapL_hd (l : List UInt8) : gapL l = [] ∨ ∃ c r, gapL l = c :: r ∧ blk c = true := by
  cases l with
  | nil => left; rfl
  | cons c l => right; exact ⟨gb c, _, rfl, (gb_blk c).1⟩
/-- A gap before a token. -/
theorem lex_gap {l g : List UInt8} {ts : List Tok} (h : lex Vh l = .ok ts) (hl : l.length ≤ 7900) (hg : g.length ≤ 42) (hS : Shut g) (hb : g = [] ∨ ∃ c r, g = c :: r ∧ blk c = true) (k : Nat) (hk : k < ts.length) :
    0 ≤ ts[k].a ∧ ts[k].a ≤ l.length ∧ lex Vh (l.take ts[k].a.toNat ++ g ++ l.drop ts[k].a.toNat) = .ok (ts.take k ++ (ts.drop k).map (mov g.length)) := by
  unfold lex at h
  rw [if_neg (by omega)] at h
  have ha := lx_at _ _ _ _ h k hk
  refine ⟨by omega, by omega, ?_⟩
  have := lx_gap _ _ _ _ g k hk h hS hb
  have e : (ts[k].a - ((0 : Nat) : Int)).toNat = ts[k].a.toNat := by simp
  rw [e] at this
  unfold lex
  rw [if_neg (by simp only [List.length_append, List.length_take, List.length_drop]; omega)]
  exact this
/-- A gap at the end, with a line feed before it. -/
theorem lex_gap_end {l g : List UInt8} {ts : List Tok} (h : lex Vh l = .ok ts) (hl : l.length ≤ 7900) (hg : g.length ≤ 42) (hS : Shut g) : lex Vh (l ++ 10 :: g) = .ok ts := by
  unfold lex at h
  rw [if_neg (by omega)] at h
  have hj := lx_join _ _ _ _ g h
  have hg0 : gp false g = g.length := by have := hS []; simpa [gp] using this
  rw [lx_end hg0] at hj
  unfold lex
  rw [if_neg (by simp only [List.length_append, List.length_cons]; omega), hj]
  simp [Res.app]
end Go.Proofs.YtoaeceeookknnaaDoor
