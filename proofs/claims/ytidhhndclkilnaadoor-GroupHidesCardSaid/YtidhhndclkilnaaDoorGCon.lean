/-
  The contracts of package group, as one structure; what signatures and proofs that were made are.
-/
import Derived.Test.YtidhhndclkilnaaDoorGRefF
namespace Go.Proofs.YtidhhndclkilnaaDoor
open Go.RowKit Dg Gr

/-- What the functions of package group return. -/
structure Con : Prop where
  member : ∀ (a : Int) (w : World), Calls Tryd.prog 14 #[.int .i64 a] w fun e w' => e = .returned (.bool (memZ a)) ∧ RowKit.Below w.heap.size w w'
  mul : ∀ (a b : Int) (w : World), Calls Tryd.prog 12 #[.int .i64 a, .int .i64 b] w fun e w' => e = .returned (.tuple #[.int .i64 (mulR a b).1, .int .i64 (mulR a b).2]) ∧ RowKit.Below w.heap.size w w'
  exp : ∀ (a b : Int) (w : World), Calls Tryd.prog 16 #[.int .i64 a, .int .i64 b] w fun e w' => e = .returned (.tuple #[.int .i64 (expR a b).1, .int .i64 (expR a b).2]) ∧ RowKit.Below w.heap.size w w'
  commit : ∀ (a b c : Int) (w : World), Calls Tryd.prog 18 #[.int .i64 a, .int .i64 b, .int .i64 c] w fun e w' => e = .returned (.tuple #[.int .i64 (comR a b c).1, .int .i64 (comR a b c).2]) ∧ RowKit.Below w.heap.size w w'
  sign : ∀ (key once : Int) (l : List Int) (p : Option Addr) (b off cap len : Nat) (w : World), SlF i64v w p b off len l → I64s l → len ≤ 900 → Tab w →
    Calls Tryd.prog 20 #[.int .i64 key, .int .i64 once, .slice p len cap] w fun e w' => e = .returned (.tuple #[.agg #[.int .i64 (sigR key once l).1, .int .i64 (sigR key once l).2.1], .int .i64 (sigR key once l).2.2]) ∧ RowKit.Below w.heap.size w w'
  verify : ∀ (pub C S : Int) (l : List Int) (p : Option Addr) (b off cap len : Nat) (w : World), SlF i64v w p b off len l → I64s l → len ≤ 900 → Tab w →
    Calls Tryd.prog 22 #[.int .i64 pub, .agg #[.int .i64 C, .int .i64 S], .slice p len cap] w fun e w' => e = .returned (.tuple #[.bool (verR pub C S l).1, .int .i64 (verR pub C S l).2]) ∧ RowKit.Below w.heap.size w w'
  same : ∀ (b o x once : Int) (w : World), Tab w →
    Calls Tryd.prog 24 #[.int .i64 b, .int .i64 o, .int .i64 x, .int .i64 once] w fun e w' => e = .returned (.tuple #[.agg #[.int .i64 (samR b o x once).1, .int .i64 (samR b o x once).2.1], .int .i64 (samR b o x once).2.2]) ∧ RowKit.Below w.heap.size w w'
  equal : ∀ (b x o y C S : Int) (w : World), Tab w →
    Calls Tryd.prog 26 #[.int .i64 b, .int .i64 x, .int .i64 o, .int .i64 y, .agg #[.int .i64 C, .int .i64 S]] w fun e w' => e = .returned (.tuple #[.bool (eqlR b x o y C S).1, .int .i64 (eqlR b x o y C S).2]) ∧ RowKit.Below w.heap.size w w'

theorem expZ_of {n : Nat} (h : n < 1073741789) : expZ n = true := by unfold expZ; rw [decide_eq_true (by omega), decide_eq_true (by omega)]; rfl
theorem secZ_of {n : Nat} (h1 : 1 ≤ n) (h : n < 1073741789) : secZ n = true := by unfold secZ; rw [decide_eq_true (by omega), decide_eq_true (by omega)]; rfl
theorem basZ_of {n : Nat} (h : mem n) (h1 : n ≠ 1) : basZ n = true := by unfold basZ; rw [memZ_of h, decide_eq_true (by omega)]; rfl
theorem mul_ok {a b : Nat} (ha : mem a) (hb : mem b) : mulR a b = (((a * b % P : Nat) : Int), 0) := by
  unfold mulR
  rw [if_pos ⟨memZ_of ha, memZ_of hb⟩, cast_mulmod]; rfl
theorem exp_ok {a x : Nat} (ha : mem a) (hx : x < 1073741789) : expR a x = (((pw a x P : Nat) : Int), 0) := by
  unfold expR
  rw [if_pos ⟨memZ_of ha, expZ_of hx⟩, Int.toNat_natCast, Int.toNat_natCast]; rfl
theorem com_ok {h v r : Nat} (hh : mem h) (h1 : h ≠ 1) (hv : v < 1073741789) (hr : r < 1073741789) : comR h v r = (((pw 4 v P * pw h r P % P : Nat) : Int), 0) := by
  unfold comR
  rw [if_pos ⟨basZ_of hh h1, expZ_of hv, expZ_of hr⟩, Int.toNat_natCast, Int.toNat_natCast, Int.toNat_natCast]; rfl
/-- A power of G, of an exponent that is not 0. -/
theorem pub_ok {k : Nat} (h1 : 1 ≤ k) (hk : k < 1073741789) : mem (pw 4 k P) ∧ pw 4 k P ≠ 1 := by
  refine ⟨mem_pw four_Q k, four_ne ?_⟩
  rw [Nat.mod_eq_of_lt (show k < Q from hk)]; omega
/-- The numbers of a signature. -/
def sgS (c o k : Nat) : Nat := (o + c * k) % 1073741789
theorem sgS_lt (c o k : Nat) : sgS c o k < 1073741789 := Nat.mod_lt _ (by decide)
theorem sgS_cast (c o k : Nat) : ((o : Int) + (c : Int) * (k : Int)) % 1073741789 = (sgS c o k : Nat) := by
  unfold sgS; rw [Int.natCast_emod, Int.natCast_add, Int.natCast_mul]; rfl
theorem sig_ok {k o : Nat} (hk1 : 1 ≤ k) (hk : k < 1073741789) (ho1 : 1 ≤ o) (ho : o < 1073741789) (l : List Int) : sigR k o l = (((sigC k o l : Nat) : Int), ((sgS (sigC k o l) o k : Nat) : Int), 0) := by
  unfold sigR
  rw [if_pos ⟨secZ_of hk1 hk, secZ_of ho1 ho⟩, sgS_cast]
theorem sigC_lt (k o : Int) (l : List Int) : sigC k o l < 1073741789 := chl_lt _
theorem sig_right {k o : Nat} (l : List Int) : verR (pw 4 k P : Nat) (sigC k o l : Nat) (sgS (sigC k o l) o k : Nat) l = (true, 0) := by
  have hc := sigC_lt k o l
  unfold verR
  rw [if_pos ⟨memZ_of (mem_pw four_Q k), by rw [expZ_of hc, expZ_of (sgS_lt _ _ _)]; rfl⟩, Int.toNat_natCast, Int.toNat_natCast, Int.toNat_natCast]
  have e : bck 4 (pw 4 k P) (sigC k o l) (sgS (sigC k o l) o k) = pw 4 o P := bck_sig four_Q hc
  rw [e]
  have e2 : chl ((pw 4 o P : Nat) :: (pw 4 k P : Nat) :: l) = sigC k o l := by
    unfold sigC; rw [Int.toNat_natCast, Int.toNat_natCast]; rfl
  rw [e2]; simp
theorem samC_lt (b o x s : Nat) : samC b o x s < 1073741789 := chl_lt _
theorem sam_ok {b o x s : Nat} (hb : mem b) (hb1 : b ≠ 1) (ho : mem o) (ho1 : o ≠ 1) (hx1 : 1 ≤ x) (hx : x < 1073741789) (hs1 : 1 ≤ s) (hs : s < 1073741789) : samR b o x s = (((samC b o x s : Nat) : Int), ((sgS (samC b o x s) s x : Nat) : Int), 0) := by
  unfold samR
  rw [if_pos (by rw [basZ_of hb hb1, basZ_of ho ho1, secZ_of hx1 hx, secZ_of hs1 hs]; rfl)]
  simp only [Int.toNat_natCast]
  rw [sgS_cast]
theorem sam_right {b o x s : Nat} (hb : mem b) (hb1 : b ≠ 1) (ho : mem o) (ho1 : o ≠ 1) : eqlR b (pw b x P : Nat) o (pw o x P : Nat) (samC b o x s : Nat) (sgS (samC b o x s) s x : Nat) = (true, 0) := by
  have hc := samC_lt b o x s
  unfold eqlR
  rw [if_pos (by rw [basZ_of hb hb1, basZ_of ho ho1, memZ_of (mem_pw hb.2.2 x), memZ_of (mem_pw ho.2.2 x), expZ_of hc, expZ_of (sgS_lt _ _ _)]; rfl)]
  simp only [Int.toNat_natCast]
  have e1 : bck b (pw b x P) (samC b o x s) (sgS (samC b o x s) s x) = pw b s P := bck_sig hb.2.2 hc
  have e2 : bck o (pw o x P) (samC b o x s) (sgS (samC b o x s) s x) = pw o s P := bck_sig ho.2.2 hc
  have e3 : eqlC b (pw b x P) o (pw o x P) (samC b o x s) (sgS (samC b o x s) s x) = samC b o x s := by
    unfold eqlC
    rw [e1, e2]; rfl
  rw [e3]; simp
end Go.Proofs.YtidhhndclkilnaaDoor
