/- Texts on units: UMath UFind UCheck UKit -/
import Derived.KernelRfl
import Derived.Test.YtoaonficdkgfiaaProg
import Derived.WalkKit
import Derived.WalkSpells
import Derived.WalkLawsBesides
import Derived.Lib.Hide
import Derived.Lib.IndexBytes
import Derived.Deep.Draws
import Derived.Deep.LoopGhost
import Derived.Deep.QuietTactic
import Derived.Deep.OwnRows
import Derived.Deep.AppendLies
import Derived.BigQuiet
import Derived.OwnWalkIn
import Derived.Laws.OwnMore
import Derived.Shelf.SlSortCmp.QuietGrown
import Derived.Defers
import Derived.Recover
import Derived.Laws.Pointers
import Derived.Deep.RegionHeld3
import Derived.Deep.WholeRow
import Derived.Deep.MidRow
import Derived.Maps.Own
import Derived.MapKept
import Derived.Laws.StructEq
import Derived.Maps.AppendAt
namespace Go.Proofs.Ytoaonficdkgfiaa
namespace Un

/-- A unit. -/
structure U where
 f : Bool
 m : Int
 a : Int
 d : Int
deriving DecidableEq
/-- A node of an expression, with its operands. -/
inductive Nd where
 | mk (op pl : Int) (nm : List UInt8) (n d : Int) (u : U) (ks : List Nd)
namespace Nd
def op : Nd → Int | .mk o _ _ _ _ _ _ => o
def pl : Nd → Int | .mk _ p _ _ _ _ _ => p
def nm : Nd → List UInt8 | .mk _ _ s _ _ _ _ => s
def n : Nd → Int | .mk _ _ _ x _ _ _ => x
def d : Nd → Int | .mk _ _ _ _ x _ _ => x
def u : Nd → U | .mk _ _ _ _ _ u _ => u
def ks : Nd → List Nd | .mk _ _ _ _ _ _ k => k
end Nd
def uFlag : U := ⟨true, 0, 0, 0⟩
def uNum : U := ⟨false, 0, 0, 0⟩
def uMoney : U := ⟨false, 1, 0, 0⟩
def uArea : U := ⟨false, 0, 1, 0⟩
def uDays : U := ⟨false, 0, 0, 1⟩
def basic (u : U) : Bool := u == uFlag || u == uNum || u == uMoney || u == uArea || u == uDays
def letter (c : UInt8) : Bool := decide (97 ≤ c.toNat) && decide (c.toNat ≤ 122)
def digit (c : UInt8) : Bool := decide (48 ≤ c.toNat) && decide (c.toNat ≤ 57)
def inName (c : UInt8) : Bool := letter c || digit c || c == 95
/-- The words that are no names. -/
def reserved : List (List UInt8) := [[97, 98, 111, 117, 116], [102, 114, 111, 109], [117, 110, 116, 105, 108], [107, 110, 111, 119, 110], [119, 104, 101, 110], [103, 105, 118, 101], [105, 102], [116, 104, 101, 110], [101, 108, 115, 101], [111, 114], [97, 110, 100], [110, 111, 116], [116, 114, 117, 101], [109, 105, 110], [109, 97, 120], [116, 111], [102, 108, 97, 103], [110, 117, 109, 98, 101, 114], [109, 111, 110, 101, 121], [97, 114, 101, 97], [100, 97, 121, 115]]
def isName (s : List UInt8) : Bool := match s with
 | [] => false
 | c :: r => decide (r.length + 1 ≤ 16) && letter c && r.all inName && !(reserved.contains (c :: r))
/-- How many operands an operator has. -/
def arity (op : Int) : Int := if op = 1 ∨ op = 2 ∨ op = 17 then 0 else if op = 15 then 1 else if op = 16 then 3 else if 3 ≤ op ∧ op ≤ 14 then 2 else -1
/-- A node has the fields of its operator, V: whether a pair is a number. -/
def okNode (V : Int → Int → Bool) : Nd → Bool
 | .mk op _ nm n d u ks => decide ((ks.length : Int) = arity op) && (if op = 1 then nm.isEmpty && (V n d && decide (0 ≤ n) && basic u) else if op = 2 then isName nm && (n == 0 && d == 0 && u == uNum) else nm.isEmpty && (n == 0 && d == 0 && u == uNum))
mutual
/-- How many nodes there are. -/
def size : Nd → Nat
 | .mk _ _ _ _ _ _ ks => 1 + sizes ks
def sizes : List Nd → Nat
 | [] => 0
 | k :: ks => size k + sizes ks
end
mutual
/-- Each node is as it must be, and the depth is at most that. -/
def wf (V : Int → Int → Bool) : Nat → Nd → Bool
 | g, .mk op pl nm n d u ks => decide (1 ≤ g) && okNode V (.mk op pl nm n d u ks) && wfs V (g - 1) ks
def wfs (V : Int → Int → Bool) : Nat → List Nd → Bool
 | _, [] => true
 | g, k :: ks => wf V g k && wfs V g ks
end
variable {V : Int → Int → Bool}
theorem size_pos (t : Nd) : 1 ≤ size t := by cases t; simp only [size]; omega
theorem wf_ks {g : Nat} {t : Nd} (h : wf V g t = true) : 1 ≤ g ∧ okNode V t = true ∧ wfs V (g - 1) t.ks = true := by
 cases t
 simp only [wf, Bool.and_eq_true, decide_eq_true_eq] at h
 exact ⟨h.1.1, h.1.2, h.2⟩
theorem wfs_get {g : Nat} : ∀ {ks : List Nd}, wfs V g ks = true → ∀ k ∈ ks, wf V g k = true
 | [], _, k, hk => absurd hk List.not_mem_nil
 | k0 :: ks, h, k, hk => by
  simp only [wfs, Bool.and_eq_true] at h
  rcases List.mem_cons.1 hk with rfl | hk
  ·exact h.1
  ·exact wfs_get h.2 k hk
/-- An expression is well-formed. -/
def form (V : Int → Int → Bool) (t : Nd) : Bool := wf V 20 t && decide (size t ≤ 200)
/-! ### The program's and the reference's ways to count -/
mutual
/-- The program's: nodes are counted on the way down; whether all is right, and the number of nodes. -/
def tr (V : Int → Int → Bool) : Int → Nat → Nd → Bool × Nat
 | dep, c, .mk op pl nm n d u ks => if 200 < c + 1 ∨ 20 < dep ∨ okNode V (.mk op pl nm n d u ks) = false then (false, c + 1) else trs V (dep + 1) (c + 1) ks
def trs (V : Int → Int → Bool) : Int → Nat → List Nd → Bool × Nat
 | _, c, [] => (true, c)
 | dep, c, k :: ks => if (tr V dep c k).1 = false then (false, (tr V dep c k).2) else trs V dep (tr V dep c k).2 ks
end
mutual
theorem tr_eq (dep : Int) (h1 : 1 ≤ dep) : ∀ (t : Nd) (c : Nat), ((tr V dep c t).1 = true ↔ wf V (21 - dep).toNat t = true ∧ c + size t ≤ 200) ∧ ((tr V dep c t).1 = true → (tr V dep c t).2 = c + size t)
 | .mk op pl nm n d u ks, c => by
  obtain ⟨ih1, ih2⟩ := trs_eq (dep + 1) (by omega) ks (c + 1)
  simp only [tr, wf, size, Bool.and_eq_true, decide_eq_true_eq]
  rw [show (21 - (dep + 1)).toNat = (21 - dep).toNat - 1 by omega] at ih1
  split
  ·rename_i h
   refine ⟨⟨(fun h => by cases h), fun h2 => ?_⟩, fun h => by cases h⟩
   rcases h with h | h | h
   ·omega
   ·omega
   ·rw [h2.1.1.2] at h; cases h
  ·rename_i h
   have hc : ¬ 200 < c + 1 := fun e => h (.inl e)
   have hd : ¬ 20 < dep := fun e => h (.inr (.inl e))
   have ho : okNode V (.mk op pl nm n d u ks) = true := by
    cases ho : okNode V (.mk op pl nm n d u ks) with
    | true => rfl
    | false => exact absurd (.inr (.inr ho)) h
   refine ⟨⟨fun h => ?_, fun h => ih1.2 ⟨h.1.2, .inl (by omega)⟩⟩, fun h => by rw [ih2 h]; omega⟩
   obtain ⟨a, b⟩ := ih1.1 h
   refine ⟨⟨⟨by omega, ho⟩, a⟩, ?_⟩
   rcases b with b | b
   ·omega
   ·subst b; simp only [sizes]; omega
theorem trs_eq (dep : Int) (h1 : 1 ≤ dep) : ∀ (ks : List Nd) (c : Nat), ((trs V dep c ks).1 = true ↔ wfs V (21 - dep).toNat ks = true ∧ (c + sizes ks ≤ 200 ∨ ks = [])) ∧ ((trs V dep c ks).1 = true → (trs V dep c ks).2 = c + sizes ks)
 | [], c => by simp [trs, wfs, sizes]
 | k :: ks, c => by
  obtain ⟨a1, a2⟩ := tr_eq dep h1 k c
  simp only [trs, wfs, sizes, Bool.and_eq_true]
  split
  ·rename_i h
   refine ⟨⟨(fun h => by cases h), fun h2 => ?_⟩, fun h => by cases h⟩
   rw [a1.2 ⟨h2.1.1, by have := h2.2.resolve_right (by simp); omega⟩] at h
   cases h
  ·rename_i h
   have h : (tr V dep c k).1 = true := by simpa using h
   have a := a1.1 h
   have e := a2 h
   obtain ⟨b1, b2⟩ := trs_eq dep h1 ks (tr V dep c k).2
   rw [e] at b1 b2 ⊢
   refine ⟨⟨fun h => ?_, fun h => b1.2 ⟨h.1.2, .inl (by have := h.2.resolve_right (by simp); omega)⟩⟩, fun h => by rw [b2 h]; omega⟩
   obtain ⟨x, y⟩ := b1.1 h
   refine ⟨⟨a.1, x⟩, .inl ?_⟩
   rcases y with y | y
   ·omega
   ·subst y; simp only [sizes]; omega
end
theorem tr_form (t : Nd) : (tr V 1 0 t).1 = form V t := by
 have h := (tr_eq (V := V) 1 (by omega) t 0).1
 rw [Nat.zero_add] at h
 unfold form
 rw [Bool.eq_iff_iff, h, Bool.and_eq_true, decide_eq_true_eq]
 exact Iff.rfl
mutual
/-- The reference's: -1, or how many nodes. -/
def cnt (V : Int → Int → Bool) : Nat → Nd → Int
 | g, .mk op pl nm n d u ks => if g < 1 ∨ okNode V (.mk op pl nm n d u ks) = false then -1 else cnts V (g - 1) 1 ks
def cnts (V : Int → Int → Bool) : Nat → Int → List Nd → Int
 | _, s, [] => s
 | g, s, k :: ks => if cnt V g k < 0 ∨ 200 < s then -1 else cnts V g (s + cnt V g k) ks
end
mutual
theorem cnt_eq : ∀ (g : Nat) (t : Nd), (cnt V g t = -1 ∨ cnt V g t = size t) ∧ (0 ≤ cnt V g t → wf V g t = true) ∧ (wf V g t = true → size t ≤ 200 → cnt V g t = size t)
 | g, .mk op pl nm n d u ks => by
  obtain ⟨a1, a2, a3⟩ := cnts_eq (g - 1) ks 1
  simp only [cnt, wf, size]
  split
  ·rename_i h
   refine ⟨.inl rfl, fun h => absurd h (by omega), fun hw => ?_⟩
   simp only [Bool.and_eq_true, decide_eq_true_eq] at hw
   rcases h with h | h
   ·omega
   ·rw [hw.1.2] at h; cases h
  ·rename_i h
   have h1 : ¬ g < 1 := fun e => h (.inl e)
   have h2 : okNode V (.mk op pl nm n d u ks) = true := by
    cases ho : okNode V (.mk op pl nm n d u ks) with
    | true => rfl
    | false => exact absurd (.inr ho) h
   refine ⟨a1.imp id (fun e => by rw [e]; omega), fun hc => ?_, fun hw hs => ?_⟩
   ·simp only [h2, a2 (by omega) hc, Bool.and_true, decide_eq_true_eq]; omega
   ·simp only [Bool.and_eq_true, decide_eq_true_eq] at hw
    rw [a3 (by omega) hw.2 (by omega)]
    omega
theorem cnts_eq : ∀ (g : Nat) (ks : List Nd) (s : Int), (cnts V g s ks = -1 ∨ cnts V g s ks = s + sizes ks) ∧ (0 ≤ s → 0 ≤ cnts V g s ks → wfs V g ks = true) ∧ (0 ≤ s → wfs V g ks = true → s + sizes ks ≤ 200 → cnts V g s ks = s + sizes ks)
 | g, [], s => by simp [cnts, wfs, sizes]
 | g, k :: ks, s => by
  obtain ⟨k1, k2, k3⟩ := cnt_eq g k
  have kp := size_pos k
  simp only [cnts, wfs, sizes]
  split
  ·rename_i h
   refine ⟨.inl rfl, fun _ h => absurd h (by omega), fun hs hw hl => ?_⟩
   simp only [Bool.and_eq_true] at hw
   have := k3 hw.1 (by omega)
   omega
  ·rename_i h
   have h1 : ¬ cnt V g k < 0 := fun e => h (.inl e)
   have h2 : ¬ 200 < s := fun e => h (.inr e)
   obtain ⟨b1, b2, b3⟩ := cnts_eq g ks (s + cnt V g k)
   have e : cnt V g k = size k := by rcases k1 with e | e <;> omega
   refine ⟨b1.imp id (fun h => by rw [h, e]; omega), fun hs hc => ?_, fun hs hw hl => ?_⟩
   ·rw [k2 (by omega), b2 (by omega) hc]; rfl
   ·simp only [Bool.and_eq_true] at hw
    rw [b3 (by omega) hw.2 (by rw [e]; omega), e]
    omega
end
theorem cnt_form (t : Nd) : (decide (0 < cnt V 20 t) && decide (cnt V 20 t ≤ 200)) = form V t := by
 obtain ⟨h1, h2, h3⟩ := cnt_eq (V := V) 20 t
 have hp := size_pos t
 unfold form
 cases hw : wf V 20 t with
 | false =>
  have : ¬ 0 ≤ cnt V 20 t := fun h => by rw [h2 h] at hw; cases hw
  rw [decide_eq_false (by omega)]; rfl
 | true =>
  rw [Bool.true_and]
  by_cases hs : size t ≤ 200
  ·rw [h3 hw hs, decide_eq_true (by omega), Bool.true_and]
   exact decide_eq_decide.2 (by omega)
  ·rw [decide_eq_false hs]
   rcases h1 with e | e
   ·rw [e]; rfl
   ·rw [e, decide_eq_true (by omega), Bool.true_and]; exact decide_eq_false (by omega)
mutual
/-- The statements' own: how many nodes are left of most, or a negative number. -/
def left : Int → Int → Nd → Int
 | g, m, .mk _ _ nm _ _ _ ks => if g < 1 ∨ 100 < nm.length then -1 else lefts (g - 1) (m - 1) ks
def lefts : Int → Int → List Nd → Int
 | _, m, [] => m
 | g, m, k :: ks => if 0 ≤ m then lefts g (left g m k) ks else m
end
end Un
end Go.Proofs.Ytoaonficdkgfiaa
namespace Go.Proofs.Ytoaonficdkgfiaa
namespace Un

/-- A unit, or an error and its place. -/
inductive Got where
 | ok (u : U)
 | er (e pl : Int)
def expo (x : Int) : Bool := decide (-3 ≤ x) && decide (x ≤ 3)
/-- What units come out as: flags, or quantities with small exponents. -/
def good (u : U) : Bool := (u == uFlag) || (!u.f && expo u.m && expo u.a && expo u.d)
def mulU (s : Int) (a b : U) : U := ⟨false, a.m + s * b.m, a.a + s * b.a, a.d + s * b.d⟩
/-- A product, or a quotient. -/
def prodU (s : Int) (a b : U) : Option U := if a.f = false ∧ b.f = false ∧ expo (mulU s a b).m = true ∧ expo (mulU s a b).a = true ∧ expo (mulU s a b).d = true then some (mulU s a b) else none
/-- The unit that comes from those of operands. -/
def opU (op : Int) : List U → Option U
 | [] => if op = 17 then some uFlag else none
 | [a] => if op = 15 ∧ a.f = true then some uFlag else none
 | [a, b] =>
  if op = 5 then prodU 1 a b else if op = 6 then prodU (-1) a b
  else if op = 3 ∨ op = 4 ∨ op = 7 ∨ op = 8 then (if a = b ∧ a.f = false then some a else none)
  else if op = 9 ∨ op = 10 then (if a = b then some uFlag else none)
  else if op = 11 ∨ op = 12 then (if a = b ∧ a.f = false then some uFlag else none)
  else if op = 13 ∨ op = 14 then (if a.f = true ∧ b.f = true then some uFlag else none)
  else none
 | [a, b, c] => if op = 16 ∧ a.f = true ∧ b = c then some b else none
 | _ => none
def look (fs : List (List UInt8 × U)) (s : List UInt8) : Option U := (fs.find? fun e => e.1 == s).map (·.2)
mutual
/-- The unit of an expression, or its first error. -/
def fnd (fs : List (List UInt8 × U)) : Nd → Got
 | .mk op pl nm _ d u ks =>
  if op = 1 then (if u.f = true ∨ (u.m ≠ 0 ∧ d ≠ 1) then .er 12 pl else .ok u)
  else if op = 2 then (match look fs nm with | some u => .ok u | none => .er 11 pl)
  else match fnds fs ks with
   | .inl (e, p) => .er e p
   | .inr us => match opU op us with | some u => .ok u | none => .er 12 pl
def fnds (fs : List (List UInt8 × U)) : List Nd → (Int × Int) ⊕ List U
 | [] => .inr []
 | k :: ks => match fnd fs k with
  | .er e p => .inl (e, p)
  | .ok u => match fnds fs ks with
   | .inl x => .inl x
   | .inr us => .inr (u :: us)
end
variable {V : Int → Int → Bool} {fs : List (List UInt8 × U)}
theorem good_expo {u : U} (h : good u = true) : -3 ≤ u.m ∧ u.m ≤ 3 ∧ -3 ≤ u.a ∧ u.a ≤ 3 ∧ -3 ≤ u.d ∧ u.d ≤ 3 := by
 simp only [good, Bool.or_eq_true, beq_iff_eq, Bool.and_eq_true, expo, decide_eq_true_eq] at h
 rcases h with rfl | h
 ·decide
 ·omega
theorem good_flag {u : U} (h : good u = true) (hf : u.f = true) : u = uFlag := by
 simp only [good, Bool.or_eq_true, beq_iff_eq, Bool.and_eq_true, Bool.not_eq_true'] at h
 rcases h with h | h
 ·exact h
 ·rw [hf] at h; exact absurd h.1.1.1 (by simp)
theorem basic_good {u : U} (h : basic u = true) : good u = true := by
 simp only [basic, Bool.or_eq_true, beq_iff_eq] at h
 rcases h with (((rfl | rfl) | rfl) | rfl) | rfl <;> decide
theorem prodU_good {s : Int} {a b u : U} (h : prodU s a b = some u) : good u = true := by
 unfold prodU at h
 split at h
 ·rename_i hh
  simp only [Option.some.injEq] at h
  rw [← h]
  simp only [good, hh.2.2.1, hh.2.2.2.1, hh.2.2.2.2]
  simp [mulU]
 ·cases h
theorem opU_good {op : Int} {l : List U} {u : U} (h : opU op l = some u) (hl : ∀ x ∈ l, good x = true) : good u = true := by
 match l, h with
 | [], h => simp only [opU] at h; split at h <;> cases h; rfl
 | [a], h => simp only [opU] at h; split at h <;> cases h; rfl
 | [a, b], h =>
  simp only [opU] at h
  split at h
  ·exact prodU_good h
  ·split at h
   ·exact prodU_good h
   ·split at h
    ·split at h
     ·cases h; exact hl _ (by simp)
     ·cases h
    ·split at h
     ·split at h <;> cases h; rfl
     ·split at h
      ·split at h <;> cases h; rfl
      ·split at h
       ·split at h <;> cases h; rfl
       ·cases h
 | [a, b, c], h => simp only [opU] at h; split at h <;> cases h; exact hl _ (by simp)
 | _ :: _ :: _ :: _ :: _, h => simp [opU] at h
mutual
theorem fnd_good (hfs : ∀ e ∈ fs, good e.2 = true) : ∀ (t : Nd) (g : Nat) (u : U), wf V g t = true → fnd fs t = .ok u → good u = true
 | .mk op pl nm n d u0 ks, g, u, hw, h => by
  obtain ⟨-, ho, hk⟩ := wf_ks hw
  simp only [Nd.ks] at hk
  simp only [fnd] at h
  split at h
  ·rename_i h1
   subst h1
   simp only [okNode, if_true, Bool.and_eq_true] at ho
   split at h
   ·cases h
   ·cases h; exact basic_good ho.2.2.2
  ·split at h
   ·simp only [look] at h
    cases hf : fs.find? (fun e => e.1 == nm) with
    | none => rw [hf] at h; cases h
    | some e =>
     rw [hf] at h
     cases h
     exact hfs e (List.mem_of_find?_eq_some hf)
   ·cases hx : fnds fs ks with
    | inl x => rw [hx] at h; cases h
    | inr us =>
     rw [hx] at h
     simp only at h
     cases ho : opU op us with
     | none => rw [ho] at h; cases h
     | some v =>
      rw [ho] at h
      cases h
      exact opU_good ho (fnds_good hfs ks _ us hk hx)
theorem fnds_good (hfs : ∀ e ∈ fs, good e.2 = true) : ∀ (ks : List Nd) (g : Nat) (us : List U), wfs V g ks = true → fnds fs ks = .inr us → ∀ u ∈ us, good u = true
 | [], g, us, hw, h, u, hu => by simp only [fnds, Sum.inr.injEq] at h; subst h; cases hu
 | k :: ks, g, us, hw, h, u, hu => by
  simp only [wfs, Bool.and_eq_true] at hw
  simp only [fnds] at h
  cases hk : fnd fs k with
  | er e p => rw [hk] at h; cases h
  | ok v =>
   rw [hk] at h
   simp only at h
   cases hx : fnds fs ks with
   | inl x => rw [hx] at h; cases h
   | inr vs =>
    rw [hx] at h
    cases h
    rcases List.mem_cons.1 hu with rfl | hu
    ·exact fnd_good hfs k g u hw.1 hk
    ·exact fnds_good hfs ks g vs hw.2 hx u hu
end
/-- One after the other. -/
theorem fnds_snoc : ∀ (l : List Nd) (k : Nd), fnds fs (l ++ [k]) = (match fnds fs l with | .inl x => .inl x | .inr us => match fnd fs k with | .er e p => .inl (e, p) | .ok u => .inr (us ++ [u]))
 | [], k => by simp only [List.nil_append, fnds]
 | k0 :: l, k => by
  simp only [List.cons_append, fnds, fnds_snoc l k]
  cases fnd fs k0 with
  | er e p => rfl
  | ok u =>
   simp only
   cases fnds fs l with
   | inl x => rfl
   | inr us =>
    simp only
    cases fnd fs k <;> rfl
theorem fnds_er_app : ∀ (l r : List Nd) {x : Int × Int}, fnds fs l = .inl x → fnds fs (l ++ r) = .inl x
 | [], r, x, h => by simp [fnds] at h
 | k0 :: l, r, x, h => by
  simp only [List.cons_append, fnds] at h ⊢
  cases hk : fnd fs k0 with
  | er e p => rw [hk] at h; exact h
  | ok u =>
   rw [hk] at h
   simp only at h ⊢
   cases hl : fnds fs l with
   | inl y => rw [hl] at h; rw [fnds_er_app l r hl]; exact h
   | inr us => rw [hl] at h; cases h
theorem fnds_mem : ∀ {ks : List Nd} {us : List U}, fnds fs ks = .inr us → ∀ k ∈ ks, ∃ u, fnd fs k = .ok u
 | [], _, _, k, hk => absurd hk List.not_mem_nil
 | k0 :: ks, us, h, k, hk => by
  simp only [fnds] at h
  cases h0 : fnd fs k0 with
  | er e p => rw [h0] at h; cases h
  | ok u0 =>
   rw [h0] at h
   simp only at h
   cases hx : fnds fs ks with
   | inl y => rw [hx] at h; cases h
   | inr vs =>
    rcases List.mem_cons.1 hk with rfl | hk
    ·exact ⟨u0, h0⟩
    ·exact fnds_mem hx k hk
/-- If an expression has a unit, so has each of its operands. -/
theorem parts {t k : Nd} {u : U} (hf : form V t = true) (h : fnd fs t = .ok u) (hk : k ∈ t.ks) : ∃ v, fnd fs k = .ok v := by
 simp only [form, Bool.and_eq_true] at hf
 obtain ⟨-, ho, -⟩ := wf_ks hf.1
 cases t with
 | mk op pl nm n d u0 ks =>
  simp only [Nd.ks] at hk
  have hl : 0 < ks.length := List.length_pos_of_mem hk
  simp only [okNode, Bool.and_eq_true, decide_eq_true_eq] at ho
  simp only [fnd] at h
  split at h
  ·rename_i h1; subst h1; have h0 := ho.1; rw [show arity 1 = 0 from rfl] at h0; omega
  ·split at h
   ·rename_i h1; subst h1; have h0 := ho.1; rw [show arity 2 = 0 from rfl] at h0; omega
   ·cases hx : fnds fs ks with
    | inl x => rw [hx] at h; cases h
    | inr us => exact fnds_mem hx k hk
def small (u : U) : Bool := !u.f && decide (-1 ≤ u.m) && decide (u.m ≤ 1) && decide (-1 ≤ u.a) && decide (u.a ≤ 1) && decide (-1 ≤ u.d) && decide (u.d ≤ 1)
/-- Multiplied and divided by another one. -/
theorem products {a b : Nd} {u v : U} {p q : Int} {s s' : List UInt8} {n d n' d' : Int} {w w' : U} (h1 : fnd fs a = .ok u) (h2 : fnd fs b = .ok v) (su : small u = true) (sv : small v = true) : fnd fs (.mk 6 p s n d w [.mk 5 q s' n' d' w' [a, b], b]) = .ok u := by
 simp only [small, Bool.and_eq_true, decide_eq_true_eq, Bool.not_eq_true'] at su sv
 obtain ⟨uf, um, ua, ud⟩ := u
 obtain ⟨vf, vm, va, vd⟩ := v
 simp only at su sv
 obtain ⟨hu, hv⟩ : uf = false ∧ vf = false := ⟨su.1.1.1.1.1.1, sv.1.1.1.1.1.1⟩
 subst hu
 subst hv
 have ex : ∀ x : Int, -3 ≤ x → x ≤ 3 → expo x = true := fun x h1 h2 => by simp only [expo, Bool.and_eq_true, decide_eq_true_eq]; exact ⟨h1, h2⟩
 have e5 : opU 5 [⟨false, um, ua, ud⟩, ⟨false, vm, va, vd⟩] = some ⟨false, um + 1 * vm, ua + 1 * va, ud + 1 * vd⟩ :=
  if_pos ⟨rfl, rfl, ex _ (by show -3 ≤ um + 1 * vm; omega) (by show um + 1 * vm ≤ 3; omega), ex _ (by show -3 ≤ ua + 1 * va; omega) (by show ua + 1 * va ≤ 3; omega), ex _ (by show -3 ≤ ud + 1 * vd; omega) (by show ud + 1 * vd ≤ 3; omega)⟩
 have e6 : opU 6 [⟨false, um + 1 * vm, ua + 1 * va, ud + 1 * vd⟩, ⟨false, vm, va, vd⟩] = some ⟨false, um, ua, ud⟩ := by
  have h : opU 6 [⟨false, um + 1 * vm, ua + 1 * va, ud + 1 * vd⟩, ⟨false, vm, va, vd⟩] = some ⟨false, um + 1 * vm + -1 * vm, ua + 1 * va + -1 * va, ud + 1 * vd + -1 * vd⟩ :=
   if_pos ⟨rfl, rfl, ex _ (by show -3 ≤ um + 1 * vm + -1 * vm; omega) (by show um + 1 * vm + -1 * vm ≤ 3; omega), ex _ (by show -3 ≤ ua + 1 * va + -1 * va; omega) (by show ua + 1 * va + -1 * va ≤ 3; omega), ex _ (by show -3 ≤ ud + 1 * vd + -1 * vd; omega) (by show ud + 1 * vd + -1 * vd ≤ 3; omega)⟩
  rw [h, show um + 1 * vm + -1 * vm = um by omega, show ua + 1 * va + -1 * va = ua by omega, show ud + 1 * vd + -1 * vd = ud by omega]
 have k5 : fnd fs (.mk 5 q s' n' d' w' [a, b]) = .ok ⟨false, um + 1 * vm, ua + 1 * va, ud + 1 * vd⟩ := by
  simp only [fnd, fnds, h1, h2]
  rw [if_neg (by decide), if_neg (by decide), e5]
 simp only [fnd, fnds, h2] at k5 ⊢
 rw [if_neg (by decide), if_neg (by decide)] at k5
 rw [if_neg (by decide), if_neg (by decide), if_neg (by decide), if_neg (by decide)]
 simp only [h1] at k5 ⊢
 rw [e5]
 simp only
 rw [e6]
mutual
/-- A name occurs. -/
def mentions (s : List UInt8) : Nd → Bool
 | .mk op _ nm _ _ _ ks => (decide (op = 2) && nm == s) || mentionss s ks
def mentionss (s : List UInt8) : List Nd → Bool
 | [] => false
 | k :: ks => mentions s k || mentionss s ks
end
end Un
end Go.Proofs.Ytoaonficdkgfiaa
namespace Go.Proofs.Ytoaonficdkgfiaa
namespace Un

/-- A declaration. -/
structure Dc where
 nm : List UInt8
 u : U
 lo : Int
 hi : Int
 pl : Int
/-- A rule. -/
structure Ru where
 nm : List UInt8
 ver : Int
 kind : Int
 act : List UInt8
 fr : Int
 un : Int
 known : Int
 whn : Nd
 giv : Nd
 pl : Int
def facts (l : List Dc) : List (List UInt8 × U) := l.map fun d => (d.nm, d.u)
/-- Declarations are well-formed. -/
def formD (l : List Dc) : Bool := decide (l.length ≤ 12) && l.all fun d => isName d.nm && basic d.u
/-- The bounds of a declaration are right. -/
def bounded (d : Dc) : Bool := decide (0 ≤ d.lo) && decide (d.lo ≤ d.hi) && decide (d.hi ≤ 1000000) && (!d.u.f || decide (d.hi ≤ 1))
/-- The product, as far as it matters. -/
def cases1 (c : Int) (d : Dc) : Int := if bounded d then min (c * (d.hi - d.lo + 1)) 4097 else c
/-- What is wrong with one declaration; 0: nothing. -/
def errD (pre : List Dc) (c : Int) (d : Dc) : Int := if pre.any (fun e => e.nm == d.nm) then 5 else if !bounded d then 3 else if 4096 < cases1 c d then 2 else 0
def prodC (l : List Dc) : Int := l.foldl cases1 1
/-- What is wrong with declarations that come behind others. -/
def errsD (pre : List Dc) : List Dc → List (Int × Int)
 | [] => []
 | d :: l => (if errD pre (prodC pre) d = 0 then [] else [(d.pl, errD pre (prodC pre) d)]) ++ errsD (pre ++ [d]) l
def rightD (l : List Dc) : Bool := formD l && (errsD [] l).isEmpty
def ofV (V : Int → Int → Bool) (l : List Dc) (n : Nd) : Got := if rightD l && form V n then fnd (facts l) n else .er 1 0
/-- A rule is as it must be in by-laws that are well-formed. -/
def formR (V : Int → Int → Bool) (r : Ru) : Bool := decide (1 ≤ r.kind) && decide (r.kind ≤ 7) && isName r.nm && (r.act.isEmpty || isName r.act) && form V r.whn && form V r.giv
def formC (V : Int → Int → Bool) (ds : List Dc) (rs : List Ru) : Bool := formD ds && decide (rs.length ≤ 100) && rs.all (formR V)
def hasAct (k : Int) : Bool := decide (k = 3) || decide (k = 4) || decide (k = 6) || decide (k = 7)
def timed (r : Ru) : Bool := decide (1 ≤ r.ver) && decide (r.ver ≤ 999) && decide (0 ≤ r.fr) && decide (r.fr < r.un) && decide (r.un ≤ 36525) && decide (0 ≤ r.known) && decide (r.known ≤ 36524)
/-- What is wrong with a rule but for its expressions; prev: the earlier ones with its name. -/
def headR (prev : List Ru) (r : Ru) : Int :=
 if timed r = false then 3 else if prev.any (fun v => v.ver == r.ver) then 5
 else if (hasAct r.kind != r.act.isEmpty) && !prev.any (fun v => v.kind != r.kind || !(v.act == r.act)) then
  (match prev.getLast? with | none => if r.ver = 1 then 0 else 6 | some v => if v.ver = r.ver - 1 ∧ v.known ≤ r.known then 0 else 6)
 else 13
def isNothing (t : Nd) : Bool := decide (t.op = 1) && decide (t.n = 0) && t.u == uNum
def giveE (r : Ru) (u : U) : Int :=
 if r.kind = 1 ∨ r.kind = 2 then (if u = uMoney then 0 else 12) else if r.kind = 5 ∨ r.kind = 6 then (if u = uNum then 0 else 12)
 else if r.kind = 7 then (if u = uDays then 0 else 12) else if isNothing r.giv = true then 0 else 13
/-- What is wrong with a rule, and where; 0: nothing. -/
def errR (fs : List (List UInt8 × U)) (prev : List Ru) (r : Ru) : Int × Int :=
 if headR prev r ≠ 0 then (r.pl, headR prev r) else match fnd fs r.whn with
 | .er e p => (p, e)
 | .ok u => if u.f = false then (r.whn.pl, 12) else match fnd fs r.giv with
  | .er e p => (p, e)
  | .ok u => if giveE r u = 0 then (0, 0) else (r.giv.pl, giveE r u)
def before (pre : List Ru) (r : Ru) : List Ru := pre.filter fun v => v.nm == r.nm
def errsR (fs : List (List UInt8 × U)) (pre : List Ru) : List Ru → List (Int × Int)
 | [] => []
 | r :: l => (if (errR fs (before pre r) r).2 = 0 then [] else [errR fs (before pre r) r]) ++ errsR fs (pre ++ [r]) l
/-- What is wrong with by-laws. -/
def checkV (V : Int → Int → Bool) (ds : List Dc) (rs : List Ru) : List (Int × Int) :=
 if formC V ds rs = false then [(0, 1)] else if (errsD [] ds).isEmpty then (errsR (facts ds) [] rs).take 20 else (errsD [] ds).take 20
variable {V : Int → Int → Bool} {fs : List (List UInt8 × U)}
theorem errsR_snoc (pre : List Ru) : ∀ (l : List Ru) (r : Ru), errsR fs pre (l ++ [r]) = errsR fs pre l ++ (if (errR fs (before (pre ++ l) r) r).2 = 0 then [] else [errR fs (before (pre ++ l) r) r])
 | [], r => by simp [errsR]
 | r0 :: l, r => by simp only [List.cons_append, errsR, errsR_snoc (pre ++ [r0]) l r, List.append_assoc, List.cons_append, List.nil_append]
mutual
theorem fnd_ne : ∀ (t : Nd) (e p : Int), fnd fs t = .er e p → e = 11 ∨ e = 12
 | .mk op pl nm n d u ks, e, p, h => by
  simp only [fnd] at h
  split at h
  ·split at h <;> cases h; exact .inr rfl
  ·split at h
   ·split at h <;> cases h; exact .inl rfl
   ·cases hx : fnds fs ks with
    | inl x =>
     obtain ⟨e', p'⟩ := x
     rw [hx] at h
     cases h
     exact fnds_ne ks _ _ hx
    | inr us =>
     rw [hx] at h
     simp only at h
     split at h <;> cases h; exact .inr rfl
theorem fnds_ne : ∀ (ks : List Nd) (e p : Int), fnds fs ks = .inl (e, p) → e = 11 ∨ e = 12
 | [], e, p, h => by simp [fnds] at h
 | k :: ks, e, p, h => by
  simp only [fnds] at h
  cases hk : fnd fs k with
  | er e' p' => rw [hk] at h; cases h; exact fnd_ne k _ _ hk
  | ok u =>
   rw [hk] at h
   simp only at h
   cases hx : fnds fs ks with
   | inl x => rw [hx] at h; cases h; exact fnds_ne ks _ _ hx
   | inr us => rw [hx] at h; cases h
end
end Un
end Go.Proofs.Ytoaonficdkgfiaa
namespace Go.Proofs.Ytoaonficdkgfiaa
open Go.RowKit Un
theorem zA {α : Type _} (xs : List α) (i : Nat) (a : α) : xs.toArray.setIfInBounds i a = (xs.set i a).toArray := List.setIfInBounds_toArray xs i a
theorem zB {α : Type _} (x : α) (xs : List α) (a : α) : (x :: xs).set 0 a = a :: xs := List.set_cons_zero
theorem zC {α : Type _} (x : α) (xs : List α) (i : Nat) (a : α) : (x :: xs).set (i + 1) a = x :: xs.set i a := List.set_cons_succ

/-- The worlds behind w in which all that lay lies as it lay. -/
structure Bw (w : World) where
 w' : World
 h : RowKit.Below w.heap.size w w'
instance (w : World) : Inhabited (Bw w) := ⟨⟨w, Below.refl _ _⟩⟩
theorem mixed : Try.prog.follows .mixedOrders = true := by kernel_rfl
theorem ret_bool {a b : Bool} (h : a = b) : Ending.returned (.bool a) = .returned (.bool b) := by rw [h]
theorem ret_i64 {a b : Int} (h : a = b) : Ending.returned (.int .i64 a) = .returned (.int .i64 b) := by rw [h]
theorem addr_add (b off i : Nat) : (⟨b, off, none⟩ : Addr).add i = ⟨b, off + i, none⟩ := by unfold Addr.add; split <;> simp_all

/-! ### Strings as lists -/
def bs (l : List UInt8) : ByteArray := ⟨l.toArray⟩
theorem bs_of (s : ByteArray) : s = bs s.data.toList := by apply ByteArray.ext; simp [bs]
theorem bs_list (l : List UInt8) : (bs l).toList = l := by rw [Lib.toList_data]; simp [bs]
theorem bs_data (l : List UInt8) : (bs l).data.toList = l := by simp [bs]
theorem bs_size (l : List UInt8) : (bs l).size = l.length := by simp [bs, ByteArray.size]
theorem bs_inj {l m : List UInt8} : bs l = bs m ↔ l = m := ⟨fun h => by rw [← bs_data l, h, bs_data], fun h => by rw [h]⟩
/-! ### Blocks -/
/-- Block b begins with two cells that may be written. -/
structure At2 (w : World) (b : Nat) (x y : Value) : Prop where
 c0 : w.cell? ⟨b, 0, none⟩ = some x
 c1 : w.cell? ⟨b, 1, none⟩ = some y
 f0 : w.frozen? ⟨b, 0, none⟩ = false
 f1 : w.frozen? ⟨b, 1, none⟩ = false
theorem At2.new (w : World) (x y : Value) (T : Nat) : At2 (w.alloc (.cells #[x, y] T)) w.heap.size x y := ⟨by simp, by simp, by simp, by simp⟩
theorem At2.below {w w1 : World} {b B : Nat} {x y : Value} (h : At2 w b x y) (hB : RowKit.Below B w w1) (hb : b < B) : At2 w1 b x y :=
 ⟨(hB.cell (p := ⟨b, 0, none⟩) hb).trans h.c0, (hB.cell (p := ⟨b, 1, none⟩) hb).trans h.c1, (hB.frozen (p := ⟨b, 0, none⟩) hb).trans h.f0, (hB.frozen (p := ⟨b, 1, none⟩) hb).trans h.f1⟩
theorem At2.lt {w : World} {b : Nat} {x y : Value} (h : At2 w b x y) : b < w.heap.size := World.block_lt_of_cell? _ _ h.c0
theorem At2.bel {w w1 : World} {b : Nat} {x y : Value} (h : At2 w b x y) (hB : RowKit.Below w.heap.size w w1) : At2 w1 b x y := h.below hB h.lt
/-- What lay lies as it lay, but for one block. -/
structure Kept (b : Nat) (w w' : World) : Prop where
 os : w'.os = w.os
 tape : w'.tape = w.tape
 output : w'.output = w.output
 size : w.heap.size ≤ w'.heap.size
 block : ∀ k, k < w.heap.size → k ≠ b → w'.heap[k]? = w.heap[k]?
theorem Kept.of {b : Nat} {w w' : World} (h : RowKit.Below w.heap.size w w') : Kept b w w' := ⟨h.os, h.tape, h.output, h.size, fun k hk _ => h.block k hk⟩
theorem Kept.refl (b : Nat) (w : World) : Kept b w w := Kept.of (Below.refl _ _)
theorem Kept.trans {b : Nat} {w u v : World} (h : Kept b w u) (k : Kept b u v) : Kept b w v :=
 ⟨k.os.trans h.os, k.tape.trans h.tape, k.output.trans h.output, Nat.le_trans h.size k.size, fun j hj hn => (k.block j (Nat.lt_of_lt_of_le hj h.size) hn).trans (h.block j hj hn)⟩
theorem Kept.bel {b : Nat} {w u v : World} (h : Kept b w u) (k : RowKit.Below u.heap.size u v) : Kept b w v := h.trans (Kept.of k)
theorem Kept.setCell {b : Nat} {w u : World} (h : Kept b w u) (o : Nat) (s : Option Nat) (x : Value) : Kept b w (u.setCell ⟨b, o, s⟩ x) :=
 h.trans ⟨rfl, rfl, rfl, by simp [World.setCell], fun k _ hn => Below.heap_setCell _ _ _ _ hn⟩
theorem Kept.below {b B : Nat} {w w' : World} (h : Kept b w w') (hb : B ≤ b) (hB : B ≤ w.heap.size) : RowKit.Below B w w' :=
 ⟨h.os, h.tape, h.output, h.size, fun k hk => h.block k (by omega) (by omega)⟩
/-- A box with a list of cells. -/
def BoxL (w : World) (b : Nat) (l : List Value) : Prop := ∀ (j : Nat) (v : Value), l[j]? = some v → w.cell? ⟨b, j, none⟩ = some v ∧ w.frozen? ⟨b, j, none⟩ = false
theorem BoxL.new (w : World) (l : List Value) (T : Nat) : BoxL (w.alloc (.cells l.toArray T)) w.heap.size l := fun j v hv => ⟨by rw [cell_of_row _ _ _ _ _ _ (heap_alloc_new w _), List.getElem?_toArray]; exact hv, by simp⟩
theorem BoxL.of {w w1 : World} {b : Nat} {l : List Value} (h : BoxL w b l) (hb : w1.heap[b]? = w.heap[b]?) : BoxL w1 b l := fun j v hv =>
 ⟨(World.cell?_of_block (w := w) (a := ⟨b, j, none⟩) hb).trans (h j v hv).1, (World.frozen?_of_block (w := w) (a := ⟨b, j, none⟩) hb).trans (h j v hv).2⟩
theorem BoxL.set {w : World} {b : Nat} {l : List Value} (h : BoxL w b l) (i : Nat) (y : Value) : BoxL (w.setCell ⟨b, i, none⟩ y) b (l.set i y) := fun j v hv => by
 rw [List.getElem?_set] at hv
 split at hv
 ·rename_i e
  subst e
  split at hv
  ·rename_i hl
   obtain ⟨h1, h2⟩ := h i l[i] (List.getElem?_eq_getElem hl)
   injection hv with hv
   subst hv
   exact ⟨World.cell?_setCell_same _ _ _ h1, by rw [World.frozen?_setCell]; exact h2⟩
  ·cases hv
 ·rename_i e
  obtain ⟨h1, h2⟩ := h j v hv
  exact ⟨by rw [World.cell?_setCell_other _ _ _ _ (by intro q; injection q with _ q _; omega)]; exact h1, by rw [World.frozen?_setCell]; exact h2⟩
theorem BoxL.other {w : World} {b r : Nat} {l : List Value} (h : BoxL w b l) (hr : b ≠ r) (o : Nat) (y : Value) : BoxL (w.setCell ⟨r, o, none⟩ y) b l := h.of (Below.heap_setCell _ _ _ _ hr)
theorem BoxL.lt {w : World} {b : Nat} {l : List Value} (h : BoxL w b l) (hl : 0 < l.length) : b < w.heap.size := World.block_lt_of_cell? _ _ (h 0 l[0] (List.getElem?_eq_getElem hl)).1
theorem BoxL.bel {w w1 : World} {b : Nat} {l : List Value} (h : BoxL w b l) (hl : 0 < l.length) (hB : RowKit.Below w.heap.size w w1) : BoxL w1 b l := h.of (hB.block b (h.lt hl))
theorem BoxL.call {w w1 : World} {b r : Nat} {l : List Value} (h : BoxL w r l) (hl : 0 < l.length) (hk : Kept b w w1) (hr : r ≠ b) : BoxL w1 r l := h.of (hk.block r (h.lt hl) hr)
theorem wp_app {P : Program} {sl : Nat} {o : Oper} {a : Act} {w w' : World} {K : Act → World → Prop} {Q : Exit → Act → World → Prop} {v y v' : Value} (s z : Operand)
  (ho : o.op = .call { callee := .builtin .append, args := #[s, z], argTypes := #[sl, sl] }) (hs : a.eval s = v) (hz : a.eval z = y) (hr : (Builtin.append_ #[sl, sl] o.type #[v, y]).run P w = .ok v' w') (h : K (a.put o.dst v') w') : Oper.wp P o a w K Q := by
 unfold Oper.wp execOp
 simp only [ho, resolve, invoke, builtin, Sem.run_bind, Sem.run_pure, Result.andThen_ok, List.map_toArray, List.map_cons, List.map_nil, hs, hz, hr]
 exact h
theorem own_slice {w : World} {base E size n : Nat} {v : Value} {xs : List Value} (h : w.ownsRow base E size v n xs) : ∃ q cap, v = .slice q n cap := by
 rcases h.2 with ⟨rfl, rfl⟩ | ⟨g, cap, cur, rfl, _⟩
 ·exact ⟨none, 0, rfl⟩
 ·exact ⟨_, cap, rfl⟩
section
variable {P : Program} {o : Oper} {a : Act} {w w' : World} {K : Act → World → Prop} {Q : Exit → Act → World → Prop} {t : TypeId} {v : Value}
theorem wp_build {l : List (Nat × Operand)} (ho : o.op = .build t l.toArray) (hr : (Instr.build t (l.map fun (i, x) => (i, a.eval x)).toArray).run P w = .ok v w') (h : K (a.put o.dst v) w') : Oper.wp P o a w K Q := by
 unfold Oper.wp execOp
 simp only [ho, Sem.run_bind, Sem.run_pure, List.map_toArray, hr]
 exact h
theorem wp_alloc (ho : o.op = .alloc t) (hr : (Instr.alloc t true (.tuple #[])).run P w = .ok v w') (h : K (a.put o.dst v) w') : Oper.wp P o a w K Q := by
 unfold Oper.wp execOp
 simp only [ho, Sem.run_bind, Sem.run_pure, hr]
 exact h
theorem wp_load {x : Operand} {y : Value} (ho : o.op = .load t x) (hx : a.eval x = y) (hr : (Instr.loadAt t y).run P w = .ok v w') (h : K (a.put o.dst v) w') : Oper.wp P o a w K Q := by
 unfold Oper.wp execOp
 simp only [ho, Sem.run_bind, Sem.run_pure, hx, hr]
 exact h
theorem ex_load {x : Operand} {y : Value} {ρ : Operand → Value} (ho : o.op = .load t x) (hx : ρ x = y) (hr : (Instr.loadAt t y).run P w = .ok v w') : (execOp ρ o).run P w = .ok (.value v) w' := by
 unfold execOp
 simp only [ho, Sem.run_bind, Sem.run_pure, hx, hr]
 rfl
theorem wp_store {x z : Operand} {y u : Value} (ho : o.op = .store t x z) (hx : a.eval x = y) (hz : a.eval z = u) (hr : (Instr.storeAt t y u).run P w = .ok () w') (h : K (a.put o.dst undef) w') : Oper.wp P o a w K Q := by
 unfold Oper.wp execOp
 simp only [ho, Sem.run_bind, Sem.run_pure, hx, hz, hr]
 exact h
theorem wp_slice1 {x : Operand} {y : Value} (ho : o.op = .buildSlice t 1 #[(0, x)]) (hx : a.eval x = y) (hr : (Instr.buildSlice t 1 #[(0, y)]).run P w = .ok v w') (h : K (a.put o.dst v) w') : Oper.wp P o a w K Q := by
 unfold Oper.wp execOp
 simp only [ho, Sem.run_bind, Sem.run_pure, List.map_toArray, List.map_cons, List.map_nil, hx, hr]
 exact h
end
section
variable {P : Program} {ops : Array Oper} {rest : List Oper} {o : Oper} {a : Act} {w w' : World} {Q : Exit → Act → World → Prop} {t : TypeId} {v : Value}
theorem wl_build {l : List (Nat × Operand)} (hgd : o.guard = none) (ho : o.op = .build t l.toArray) (hr : (Instr.build t (l.map fun (i, x) => (i, a.eval x)).toArray).run P w = .ok v w') (h : wpList P ops Q rest (a.put o.dst v) w') : wpList P ops Q (o :: rest) a w := wpList_plain hgd fun _ hK => wp_build ho hr (hK _ _ h)
theorem wl_alloc (hgd : o.guard = none) (ho : o.op = .alloc t) (hr : (Instr.alloc t true (.tuple #[])).run P w = .ok v w') (h : wpList P ops Q rest (a.put o.dst v) w') : wpList P ops Q (o :: rest) a w := wpList_plain hgd fun _ hK => wp_alloc ho hr (hK _ _ h)
theorem wl_store {x z : Operand} {y u : Value} (hgd : o.guard = none) (ho : o.op = .store t x z) (hx : a.eval x = y) (hz : a.eval z = u) (hr : (Instr.storeAt t y u).run P w = .ok () w') (h : wpList P ops Q rest (a.put o.dst undef) w') : wpList P ops Q (o :: rest) a w := wpList_plain hgd fun _ hK => wp_store ho hx hz hr (hK _ _ h)
end
theorem load_row (T n : Nat) (hu : (Try.prog.underlying T).map (fun d => match d with | .struct _ | .array _ _ => true | _ => false) = some true) (hi : (Try.prog.info? T).map (·.size) = some n) (w : World) (b : Nat) (l : List Value) (hl : l.length = n) (h : ∀ j v, l[j]? = some v → w.cell? ⟨b, j, none⟩ = some v) : (Instr.loadAt T (.pointer (some ⟨b, 0, none⟩))).run Try.prog w = .ok (.agg l.toArray) w := by
 have hc : (loadCells ⟨b, 0, none⟩ l.length).run Try.prog w = .ok l.toArray w := run_loadCells_list (P := Try.prog) w ⟨b, 0, none⟩ l (fun j v hv => by
   have hadd : (⟨b, 0, none⟩ : Addr).add j = ⟨b, j, none⟩ := by unfold Addr.add; split <;> simp_all
   rw [hadd]; exact h j v hv)
 obtain ⟨d, hd, hd2⟩ := Option.map_eq_some_iff.1 hu
 obtain ⟨i, hi1, hi2⟩ := Option.map_eq_some_iff.1 hi
 subst hl
 have hagg : (isAgg T).run Try.prog w = .ok true w := by
  unfold isAgg
  rw [Sem.run_bind, run_underlying hd w]
  cases d <;> simp_all
 simp [Instr.loadAt, Instr.sureAddr, loadVar, Sem.run_bind, hagg, sizeOf, typeInfo, hi1, hi2, hc]
theorem kept_setCells {b : Nat} {w : World} : ∀ (vs : List Value) (o : Nat) (v : World), Kept b w v → Kept b w (v.setCells b o vs)
 | [], _, _, h => h
 | _ :: vs, o, _, h => kept_setCells vs (o + 1) _ (h.setCell o none _)
theorem BoxL.cells {w : World} {b : Nat} {l L : List Value} (h : BoxL w b l) (e : L.length = l.length) : BoxL (w.setCells b 0 L) b L := fun j v hv => by
 have hj : j < L.length := (List.getElem?_eq_some_iff.1 hv).1
 have h1 := World.cell?_setCells_in b L 0 w (fun i hi => by
  rw [Nat.zero_add]
  exact Option.isSome_iff_exists.2 ⟨_, (h i l[i] (List.getElem?_eq_getElem (by omega))).1⟩) j hj
 rw [Nat.zero_add] at h1
 refine ⟨h1.trans (by rw [← hv]; exact (List.getElem?_eq_getElem hj).symm), ?_⟩
 rw [World.frozen?_setCells]
 exact (h j l[j] (List.getElem?_eq_getElem (by omega))).2
theorem store_row (T n : Nat) (hi : (Try.prog.info? T).map (·.size) = some n) (w : World) (b : Nat) (l L : List Value) (h : BoxL w b l) (hl : l.length = n) (hL : L.length = n) (h1 : ∀ u ∈ L, u.oneCell' = true) :
  (Instr.storeAt T (.pointer (some ⟨b, 0, none⟩)) (.agg L.toArray)).run Try.prog w = .ok () (w.setCells b 0 L) := by
 have ht : w.there b 0 L.toArray.size := fun j hj => by
  rw [List.size_toArray] at hj
  have := h j l[j] (List.getElem?_eq_getElem (by omega))
  rw [Nat.zero_add]
  exact ⟨Option.isSome_iff_exists.2 ⟨_, this.1⟩, this.2⟩
 exact run_storeAt_mid w b 0 T L.toArray ht (by rw [hi, List.size_toArray, hL]) (by rw [List.all_toArray, List.all_eq_true]; exact h1)
theorem setCells_size {b : Nat} : ∀ (vs : List Value) (o : Nat) (v : World), (v.setCells b o vs).heap.size = v.heap.size
 | [], _, _ => rfl
 | x :: vs, o, v => (setCells_size vs (o + 1) _).trans (by simp [World.setCell])
section
variable {ops : Array Oper} {rest : List Oper} {o1 o2 o3 o4 : Oper} {a : Act} {v : World} {Q : Exit → Act → World → Prop} {T S : TypeId} {n m : Nat} {Z Y L M : List Value}
theorem wl_loadP {x : Operand} {y u : Value} (hgd : o1.guard = none) (ho : o1.op = .load T x) (hx : a.eval x = y) (hr : (Instr.loadAt T y).run Try.prog v = .ok u v) (h : wpList Try.prog ops Q rest (a.put o1.dst u) v) : wpList Try.prog ops Q (o1 :: rest) a v := wpList_plain hgd fun _ hK => wp_load ho hx hr (hK _ _ h)
theorem wl_sliceP {x : Operand} {y u : Value} {v' : World} (hgd : o1.guard = none) (ho : o1.op = .buildSlice T 1 #[(0, x)]) (hx : a.eval x = y) (hr : (Instr.buildSlice T 1 #[(0, y)]).run Try.prog v = .ok u v') (h : wpList Try.prog ops Q rest (a.put o1.dst u) v') : wpList Try.prog ops Q (o1 :: rest) a v := wpList_plain hgd fun _ hK => wp_slice1 ho hx hr (hK _ _ h)
end
theorem wl_app {P : Program} {sl : Nat} {ops : Array Oper} {rest : List Oper} {o : Oper} {a : Act} {w w' : World} {Q : Exit → Act → World → Prop} {v y v' : Value} (s z : Operand) (hgd : o.guard = none)
  (ho : o.op = .call { callee := .builtin .append, args := #[s, z], argTypes := #[sl, sl] }) (hs : a.eval s = v) (hz : a.eval z = y) (hr : (Builtin.append_ #[sl, sl] o.type #[v, y]).run P w = .ok v' w') (h : wpList P ops Q rest (a.put o.dst v') w') : wpList P ops Q (o :: rest) a w :=
 wpList_plain hgd fun _ hK => wp_app s z ho hs hz hr (hK _ _ h)
/-- One element is appended onto a slice of the call's own. -/
theorem run_app1 (sl E size : Nat) (hsl : Try.prog.underlying sl = some (.slice E)) (hi : (Try.prog.info? E).map (fun i => (i.zero.map (·.cells.size), i.size, decide (i.bytes ≤ 1000))) = some (some size, size, true)) (hs : 0 < size)
  (w : World) (base : Nat) (ty : TypeId) (v : Value) (n : Nat) (xs : List Value) (hown : w.ownsRow base E size v n xs) (b : Nat) (news : List Value) (hl : news.length = size) (hc : ∀ j u, news[j]? = some u → w.cell? ⟨b, j, none⟩ = some u) (h1 : ∀ u ∈ news, u.oneCell' = true) (hn : n ≤ 1000000) (hbase : base ≤ w.heap.size) :
  ∃ v' w', (Builtin.append_ #[sl, sl] ty #[v, .slice (some ⟨b, 0, none⟩) 1 1]).run Try.prog w = .ok v' w' ∧ w'.ownsRow base E size v' (n + 1) (xs ++ news) ∧ w.grownBy w' v.ownBlock ∧ (v'.ownBlock = v.ownBlock ∨ v'.ownBlock = some w.heap.size) := by
 obtain ⟨i, hi, hz⟩ := Option.map_eq_some_iff.1 hi
 simp only [Prod.mk.injEq, decide_eq_true_eq] at hz
 obtain ⟨hz1, hz2, hz3⟩ := hz
 obtain ⟨z, hz, hzs⟩ := Option.map_eq_some_iff.1 hz1
 obtain ⟨v', w', hr, h3, h4, _, h6⟩ := run_append_own_at (P := Try.prog) w base sl ty E i z size i.bytes hsl hi hz hz2 rfl hzs hs v n xs hown ⟨b, 0, none⟩ 1 1 news (by rw [hl]; omega)
  (fun j u hu => by rw [addr_add, Nat.zero_add]; exact hc j u hu) h1 (by unfold maxLen; omega) (by
   have : (n + 1) * i.bytes ≤ 1000001 * 1000 := Nat.mul_le_mul (by omega) hz3
   omega) hbase
 exact ⟨v', w', hr, h3, h4, h6⟩
theorem wp_seq_cut {P : Program} {c d : Code} {Q : Exit → Act → World → Prop} {a : Act} {w : World} (J0 : Act → World → Prop) (hK : ∀ a w, J0 a w → d.wp P Q a w)
  (h : ∀ (J : Nat → Act → World → Prop) (K : Act → World → Prop), (∀ k a w, J0 a w → J k a w) → (∀ a w, Handed J 1 a w → K a w) → c.wp P (Exit.then K Q) a w) : (c.seq d).wp P Q a w := by
 refine wp_seq ?_
 refine Code.wp_mono (fun e a w h => ?_) (h (fun _ => J0) (fun a w => Handed (fun _ => J0) 1 a w) (fun _ _ _ h => h) (fun _ _ h => h))
 cases e with
 | normal => obtain ⟨n, -, h⟩ := h; exact hK _ _ h
 | exit id => exact h
 | goto l => exact h
 | ret => exact h
 | panic ch => exact h
 | outgrown => exact h

/-! ### Slices of rows -/
/-- A slice of rows of n cells each. -/
structure SlR (w : World) (p : Option Addr) (b off len n : Nat) (L : List (List Value)) : Prop where
 ln : L.length = len
 ptr : 0 < len → p = some ⟨b, off, none⟩
 at_ : ∀ (i : Nat) (r : List Value), L[i]? = some r → r.length = n ∧ ∀ (j : Nat) (v : Value), r[j]? = some v → w.cell? ⟨b, off + i * n + j, none⟩ = some v
 lt : 0 < len → b < w.heap.size
 max : len ≤ 9223372036854775807
theorem SlR.bel {w w1 : World} {p : Option Addr} {b off len n : Nat} {L : List (List Value)} (h : SlR w p b off len n L) (hB : RowKit.Below w.heap.size w w1) : SlR w1 p b off len n L :=
 ⟨h.ln, h.ptr, fun i r hr => ⟨(h.at_ i r hr).1, fun j v hv => (hB.cell (p := ⟨b, off + i * n + j, none⟩) (h.lt (by have := (List.getElem?_eq_some_iff.1 hr).1; have := h.ln; omega))).trans ((h.at_ i r hr).2 j v hv)⟩, fun x => Nat.lt_of_lt_of_le (h.lt x) hB.size, h.max⟩
theorem SlR.of_block {w w1 : World} {p : Option Addr} {b off len n : Nat} {L : List (List Value)} (h : SlR w p b off len n L) (hb : 0 < len → w1.heap[b]? = w.heap[b]?) (hs : w.heap.size ≤ w1.heap.size) : SlR w1 p b off len n L :=
 ⟨h.ln, h.ptr, fun i r hr => ⟨(h.at_ i r hr).1, fun j v hv => (World.cell?_of_block (w := w) (a := ⟨b, off + i * n + j, none⟩) (hb (by have := (List.getElem?_eq_some_iff.1 hr).1; have := h.ln; omega))).trans ((h.at_ i r hr).2 j v hv)⟩, fun x => Nat.lt_of_lt_of_le (h.lt x) hs, h.max⟩
theorem SlR.nil (w : World) (p : Option Addr) (b off n : Nat) : SlR w p b off 0 n [] := ⟨rfl, fun h => by omega, fun i r h => by simp at h, fun h => by omega, by omega⟩

/-! ### Nodes in memory -/
/-- A unit's four cells. -/
def uC (u : U) : List Value := [.bool u.f, .int .i64 u.m, .int .i64 u.a, .int .i64 u.d]
def uV (u : U) : Value := .agg (uC u).toArray
/-- Where a node's operands lie. -/
structure Kd where
 q : Option Addr
 c : Nat
/-- A node's ten cells. -/
def nC : Nd → Kd → List Value
 | .mk op pl nm n d u ks, x => [.int .i64 op, .int .i64 pl, .string (bs nm), .int .i64 n, .int .i64 d, .bool u.f, .int .i64 u.m, .int .i64 u.a, .int .i64 u.d, .slice x.q ks.length x.c]
def nV (t : Nd) (x : Kd) : Value := .agg (nC t x).toArray
theorem nC_len (t : Nd) (x : Kd) : (nC t x).length = 10 := by cases t; rfl
mutual
/-- The operands of a node lie in memory, each with its own operands; A: the blocks that they may lie in. -/
def NdM (w : World) (A : Nat → Prop) : Nd → Kd → Prop
 | .mk _ _ _ _ _ _ ks, x => ∃ b off, (0 < ks.length → x.q = some ⟨b, off, none⟩ ∧ A b ∧ b < w.heap.size) ∧ ks.length ≤ 9223372036854775807 ∧ KdM w A b off ks
def KdM (w : World) (A : Nat → Prop) (b : Nat) : Nat → List Nd → Prop
 | _, [] => True
 | off, k :: ks => (∃ x : Kd, (∀ (j : Nat) (v : Value), (nC k x)[j]? = some v → w.cell? ⟨b, off + j, none⟩ = some v) ∧ NdM w A k x) ∧ KdM w A b (off + 10) ks
end
mutual
theorem NdM.keep {w w1 : World} {A A' : Nat → Prop} (hs : w.heap.size ≤ w1.heap.size) (hB : ∀ j, A j → j < w.heap.size → w1.heap[j]? = w.heap[j]?) (hA : ∀ j, A j → j < w.heap.size → A' j) : ∀ (t : Nd) (x : Kd), NdM w A t x → NdM w1 A' t x
 | .mk op pl nm n d u ks, x, h => by
  simp only [NdM] at h ⊢
  obtain ⟨b, off, h2, hm, h3⟩ := h
  by_cases hk : 0 < ks.length
  ·exact ⟨b, off, fun h => ⟨(h2 h).1, hA _ (h2 h).2.1 (h2 h).2.2, Nat.lt_of_lt_of_le (h2 h).2.2 hs⟩, hm, KdM.keep hs hB hA b (h2 hk).2.1 (h2 hk).2.2 off ks h3⟩
  ·have : ks = [] := List.length_eq_zero_iff.1 (by omega)
   subst this
   exact ⟨b, off, fun h => absurd h hk, hm, by simp only [KdM]⟩
theorem KdM.keep {w w1 : World} {A A' : Nat → Prop} (hs : w.heap.size ≤ w1.heap.size) (hB : ∀ j, A j → j < w.heap.size → w1.heap[j]? = w.heap[j]?) (hA : ∀ j, A j → j < w.heap.size → A' j) (b : Nat) (hb0 : A b) (hb : b < w.heap.size) : ∀ (off : Nat) (ks : List Nd), KdM w A b off ks → KdM w1 A' b off ks
 | _, [], _ => by simp only [KdM]
 | off, k :: ks, h => by
  simp only [KdM] at h ⊢
  obtain ⟨⟨x, h1, h2⟩, h3⟩ := h
  exact ⟨⟨x, fun j v hv => (World.cell?_of_block (w := w) (a := ⟨b, off + j, none⟩) (hB b hb0 hb)).trans (h1 j v hv), NdM.keep hs hB hA k x h2⟩, KdM.keep hs hB hA b hb0 hb (off + 10) ks h3⟩
end
theorem NdM.bel {w w1 : World} {A : Nat → Prop} (hB : RowKit.Below w.heap.size w w1) {t : Nd} {x : Kd} (h : NdM w A t x) : NdM w1 A t x := NdM.keep hB.size (fun j _ hj => hB.block j hj) (fun _ h _ => h) t x h
/-- An operand by its number. -/
theorem KdM.get {w : World} {A : Nat → Prop} {b : Nat} : ∀ {ks : List Nd} {off : Nat}, KdM w A b off ks → ∀ (i : Nat) (h : i < ks.length), ∃ x : Kd, (∀ (j : Nat) (v : Value), (nC ks[i] x)[j]? = some v → w.cell? ⟨b, off + i * 10 + j, none⟩ = some v) ∧ NdM w A ks[i] x
 | [], _, _, i, h => absurd h (Nat.not_lt_zero _)
 | k :: ks, off, h, i, hi => by
  simp only [KdM] at h
  cases i with
  | zero => simpa using h.1
  | succ i =>
   obtain ⟨x, h1, h2⟩ := KdM.get h.2 i (by simpa using hi)
   refine ⟨x, fun j v hv => ?_, h2⟩
   have := h1 j v hv
   rwa [show off + 10 + i * 10 + j = off + (i + 1) * 10 + j by omega] at this
end Go.Proofs.Ytoaonficdkgfiaa
