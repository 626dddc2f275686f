/-
  ZA: several texts in one.
-/
import Derived.KernelRfl
import Derived.Test.YtjifiijgghpniaaProg
import Derived.WalkKit
import Derived.WalkSpells
import Derived.WalkLawsBesides
import Derived.Lib.Hide
import Derived.Lib.IndexBytes
import Derived.Deep.Draws
import Derived.Deep.LoopGhost
import Derived.Deep.QuietTactic
import Derived.Deep.OwnRows
import Derived.Deep.AppendLies
import Derived.BigQuiet
import Derived.OwnWalkIn
import Derived.Laws.OwnMore
import Derived.Shelf.SlSortCmp.QuietGrown
import Derived.Defers
import Derived.Recover
import Derived.Laws.Pointers
import Derived.Deep.RegionHeld3
import Derived.Deep.WholeRow
import Derived.Deep.MidRow
import Derived.Maps.Own
import Derived.MapKept
import Derived.Laws.StructEq
import Derived.Maps.AppendAt
/-
  Mathematics of units: nodes as data, their form, their units; no program in it.
-/
namespace Go.Proofs.Ytjifiijgghpniaa
namespace Un

/-- A unit. -/
structure U where
  f : Bool
  m : Int
  a : Int
  d : Int
deriving DecidableEq
/-- A node of an expression, with its operands. -/
inductive Nd where
  | mk (op pl : Int) (nm : List UInt8) (n d : Int) (u : U) (ks : List Nd)
namespace Nd
def op : Nd → Int | .mk o _ _ _ _ _ _ => o
def pl : Nd → Int | .mk _ p _ _ _ _ _ => p
def nm : Nd → List UInt8 | .mk _ _ s _ _ _ _ => s
def n : Nd → Int | .mk _ _ _ x _ _ _ => x
def d : Nd → Int | .mk _ _ _ _ x _ _ => x
def u : Nd → U | .mk _ _ _ _ _ u _ => u
def ks : Nd → List Nd | .mk _ _ _ _ _ _ k => k
end Nd
def uFlag : U := ⟨true, 0, 0, 0⟩
def uNum : U := ⟨false, 0, 0, 0⟩
def uMoney : U := ⟨false, 1, 0, 0⟩
def uArea : U := ⟨false, 0, 1, 0⟩
def uDays : U := ⟨false, 0, 0, 1⟩
def basic (u : U) : Bool := u == uFlag || u == uNum || u == uMoney || u == uArea || u == uDays
def letter (c : UInt8) : Bool := decide (97 ≤ c.toNat) && decide (c.toNat ≤ 122)
def digit (c : UInt8) : Bool := decide (48 ≤ c.toNat) && decide (c.toNat ≤ 57)
def inName (c : UInt8) : Bool := letter c || digit c || c == 95
/-- The words that are no names. -/
def reserved : List (List UInt8) := [[97, 98, 111, 117, 116], [102, 114, 111, 109], [117, 110, 116, 105, 108], [107, 110, 111, 119, 110], [119, 104, 101, 110], [103, 105, 118, 101], [105, 102], [116, 104, 101, 110], [101, 108, 115, 101], [111, 114], [97, 110, 100], [110, 111, 116], [116, 114, 117, 101], [109, 105, 110], [109, 97, 120], [116, 111], [102, 108, 97, 103], [110, 117, 109, 98, 101, 114], [109, 111, 110, 101, 121], [97, 114, 101, 97], [100, 97, 121, 115]]
def isName (s : List UInt8) : Bool := match s with
  | [] => false
  | c :: r => decide (r.length + 1 ≤ 16) && letter c && r.all inName && !(reserved.contains (c :: r))
/-- How many operands an operator has. -/
def arity (op : Int) : Int := if op = 1 ∨ op = 2 ∨ op = 17 then 0 else if op = 15 then 1 else if op = 16 then 3 else if 3 ≤ op ∧ op ≤ 14 then 2 else -1
/-- A node has the fields of its operator, V: whether a pair is a number. -/
def okNode (V : Int → Int → Bool) : Nd → Bool
  | .mk op _ nm n d u ks => decide ((ks.length : Int) = arity op) && (if op = 1 then nm.isEmpty && (V n d && decide (0 ≤ n) && basic u) else if op = 2 then isName nm && (n == 0 && d == 0 && u == uNum) else nm.isEmpty && (n == 0 && d == 0 && u == uNum))
mutual
/-- How many nodes there are. -/
def size : Nd → Nat
  | .mk _ _ _ _ _ _ ks => 1 + sizes ks
def sizes : List Nd → Nat
  | [] => 0
  | k :: ks => size k + sizes ks
end
mutual
/-- Each node is as it must be, and the depth is at most that. -/
def wf (V : Int → Int → Bool) : Nat → Nd → Bool
  | g, .mk op pl nm n d u ks => decide (1 ≤ g) && okNode V (.mk op pl nm n d u ks) && wfs V (g - 1) ks
def wfs (V : Int → Int → Bool) : Nat → List Nd → Bool
  | _, [] => true
  | g, k :: ks => wf V g k && wfs V g ks
end
variable {V : Int → Int → Bool}
theorem size_pos (t : Nd) : 1 ≤ size t := by cases t; simp only [size]; omega
theorem wf_ks {g : Nat} {t : Nd} (h : wf V g t = true) : 1 ≤ g ∧ okNode V t = true ∧ wfs V (g - 1) t.ks = true := by
  cases t
  simp only [wf, Bool.and_eq_true, decide_eq_true_eq] at h
  exact ⟨h.1.1, h.1.2, h.2⟩
theorem wfs_get {g : Nat} : ∀ {ks : List Nd}, wfs V g ks = true → ∀ k ∈ ks, wf V g k = true
  | [], _, k, hk => absurd hk List.not_mem_nil
  | k0 :: ks, h, k, hk => by
    simp only [wfs, Bool.and_eq_true] at h
    rcases List.mem_cons.1 hk with rfl | hk
    · exact h.1
    · exact wfs_get h.2 k hk
mutual
theorem wf_mono {g g' : Nat} (hg : g ≤ g') : ∀ (t : Nd), wf V g t = true → wf V g' t = true
  | .mk op pl nm n d u ks, h => by
    simp only [wf, Bool.and_eq_true, decide_eq_true_eq] at h ⊢
    exact ⟨⟨by omega, h.1.2⟩, wfs_mono (by omega) ks h.2⟩
theorem wfs_mono {g g' : Nat} (hg : g ≤ g') : ∀ (ks : List Nd), wfs V g ks = true → wfs V g' ks = true
  | [], _ => by simp only [wfs]
  | k :: ks, h => by
    simp only [wfs, Bool.and_eq_true] at h ⊢
    exact ⟨wf_mono hg k h.1, wfs_mono hg ks h.2⟩
end
theorem size_mem : ∀ {ks : List Nd} {k : Nd}, k ∈ ks → size k ≤ sizes ks
  | [], _, h => absurd h List.not_mem_nil
  | k0 :: ks, k, h => by
    simp only [sizes]
    rcases List.mem_cons.1 h with rfl | h
    · omega
    · have := size_mem h; omega
theorem size_eq (t : Nd) : size t = 1 + sizes t.ks := by cases t; simp only [size, Nd.ks]
/-- An expression is well-formed. -/
def form (V : Int → Int → Bool) (t : Nd) : Bool := wf V 20 t && decide (size t ≤ 200)
theorem form_kid {t k : Nd} (h : form V t = true) (hk : k ∈ t.ks) : form V k = true := by
  simp only [form, Bool.and_eq_true, decide_eq_true_eq] at h ⊢
  refine ⟨wf_mono (by omega) k (wfs_get (wf_ks h.1).2.2 k hk), ?_⟩
  have := size_mem hk
  have := size_eq t
  omega

/-! ### The program's and the reference's ways to count -/
mutual
/-- The program's: nodes are counted on the way down; whether all is right, and the number of nodes. -/
def tr (V : Int → Int → Bool) : Int → Nat → Nd → Bool × Nat
  | dep, c, .mk op pl nm n d u ks => if 200 < c + 1 ∨ 20 < dep ∨ okNode V (.mk op pl nm n d u ks) = false then (false, c + 1) else trs V (dep + 1) (c + 1) ks
def trs (V : Int → Int → Bool) : Int → Nat → List Nd → Bool × Nat
  | _, c, [] => (true, c)
  | dep, c, k :: ks => if (tr V dep c k).1 = false then (false, (tr V dep c k).2) else trs V dep (tr V dep c k).2 ks
end
mutual
theorem tr_eq (dep : Int) (h1 : 1 ≤ dep) : ∀ (t : Nd) (c : Nat), ((tr V dep c t).1 = true ↔ wf V (21 - dep).toNat t = true ∧ c + size t ≤ 200) ∧ ((tr V dep c t).1 = true → (tr V dep c t).2 = c + size t)
  | .mk op pl nm n d u ks, c => by
    obtain ⟨ih1, ih2⟩ := trs_eq (dep + 1) (by omega) ks (c + 1)
    simp only [tr, wf, size, Bool.and_eq_true, decide_eq_true_eq]
    rw [show (21 - (dep + 1)).toNat = (21 - dep).toNat - 1 by omega] at ih1
    split
    · rename_i h
      refine ⟨⟨(fun h => by cases h), fun h2 => ?_⟩, fun h => by cases h⟩
      rcases h with h | h | h
      · omega
      · omega
      · rw [h2.1.1.2] at h; cases h
    · rename_i h
      have hc : ¬ 200 < c + 1 := fun e => h (.inl e)
      have hd : ¬ 20 < dep := fun e => h (.inr (.inl e))
      have ho : okNode V (.mk op pl nm n d u ks) = true := by
        cases ho : okNode V (.mk op pl nm n d u ks) with
        | true => rfl
        | false => exact absurd (.inr (.inr ho)) h
      refine ⟨⟨fun h => ?_, fun h => ih1.2 ⟨h.1.2, .inl (by omega)⟩⟩, fun h => by rw [ih2 h]; omega⟩
      obtain ⟨a, b⟩ := ih1.1 h
      refine ⟨⟨⟨by omega, ho⟩, a⟩, ?_⟩
      rcases b with b | b
      · omega
      · subst b; simp only [sizes]; omega
theorem trs_eq (dep : Int) (h1 : 1 ≤ dep) : ∀ (ks : List Nd) (c : Nat), ((trs V dep c ks).1 = true ↔ wfs V (21 - dep).toNat ks = true ∧ (c + sizes ks ≤ 200 ∨ ks = [])) ∧ ((trs V dep c ks).1 = true → (trs V dep c ks).2 = c + sizes ks)
  | [], c => by simp [trs, wfs, sizes]
  | k :: ks, c => by
    obtain ⟨a1, a2⟩ := tr_eq dep h1 k c
    simp only [trs, wfs, sizes, Bool.and_eq_true]
    split
    · rename_i h
      refine ⟨⟨(fun h => by cases h), fun h2 => ?_⟩, fun h => by cases h⟩
      rw [a1.2 ⟨h2.1.1, by have := h2.2.resolve_right (by simp); omega⟩] at h
      cases h
    · rename_i h
      have h : (tr V dep c k).1 = true := by simpa using h
      have a := a1.1 h
      have e := a2 h
      obtain ⟨b1, b2⟩ := trs_eq dep h1 ks (tr V dep c k).2
      rw [e] at b1 b2 ⊢
      refine ⟨⟨fun h => ?_, fun h => b1.2 ⟨h.1.2, .inl (by have := h.2.resolve_right (by simp); omega)⟩⟩, fun h => by rw [b2 h]; omega⟩
      obtain ⟨x, y⟩ := b1.1 h
      refine ⟨⟨a.1, x⟩, .inl ?_⟩
      rcases y with y | y
      · omega
      · subst y; simp only [sizes]; omega
end
theorem tr_form (t : Nd) : (tr V 1 0 t).1 = form V t := by
  have h := (tr_eq (V := V) 1 (by omega) t 0).1
  rw [Nat.zero_add] at h
  unfold form
  rw [Bool.eq_iff_iff, h, Bool.and_eq_true, decide_eq_true_eq]
  exact Iff.rfl
mutual
/-- The reference's: -1, or how many nodes. -/
def cnt (V : Int → Int → Bool) : Nat → Nd → Int
  | g, .mk op pl nm n d u ks => if g < 1 ∨ okNode V (.mk op pl nm n d u ks) = false then -1 else cnts V (g - 1) 1 ks
def cnts (V : Int → Int → Bool) : Nat → Int → List Nd → Int
  | _, s, [] => s
  | g, s, k :: ks => if cnt V g k < 0 ∨ 200 < s then -1 else cnts V g (s + cnt V g k) ks
end
mutual
theorem cnt_eq : ∀ (g : Nat) (t : Nd), (cnt V g t = -1 ∨ cnt V g t = size t) ∧ (0 ≤ cnt V g t → wf V g t = true) ∧ (wf V g t = true → size t ≤ 200 → cnt V g t = size t)
  | g, .mk op pl nm n d u ks => by
    obtain ⟨a1, a2, a3⟩ := cnts_eq (g - 1) ks 1
    simp only [cnt, wf, size]
    split
    · rename_i h
      refine ⟨.inl rfl, fun h => absurd h (by omega), fun hw => ?_⟩
      simp only [Bool.and_eq_true, decide_eq_true_eq] at hw
      rcases h with h | h
      · omega
      · rw [hw.1.2] at h; cases h
    · rename_i h
      have h1 : ¬ g < 1 := fun e => h (.inl e)
      have h2 : okNode V (.mk op pl nm n d u ks) = true := by
        cases ho : okNode V (.mk op pl nm n d u ks) with
        | true => rfl
        | false => exact absurd (.inr ho) h
      refine ⟨a1.imp id (fun e => by rw [e]; omega), fun hc => ?_, fun hw hs => ?_⟩
      · simp only [h2, a2 (by omega) hc, Bool.and_true, decide_eq_true_eq]; omega
      · simp only [Bool.and_eq_true, decide_eq_true_eq] at hw
        rw [a3 (by omega) hw.2 (by omega)]
        omega
theorem cnts_eq : ∀ (g : Nat) (ks : List Nd) (s : Int), (cnts V g s ks = -1 ∨ cnts V g s ks = s + sizes ks) ∧ (0 ≤ s → 0 ≤ cnts V g s ks → wfs V g ks = true) ∧ (0 ≤ s → wfs V g ks = true → s + sizes ks ≤ 200 → cnts V g s ks = s + sizes ks)
  | g, [], s => by simp [cnts, wfs, sizes]
  | g, k :: ks, s => by
    obtain ⟨k1, k2, k3⟩ := cnt_eq g k
    have kp := size_pos k
    simp only [cnts, wfs, sizes]
    split
    · rename_i h
      refine ⟨.inl rfl, fun _ h => absurd h (by omega), fun hs hw hl => ?_⟩
      simp only [Bool.and_eq_true] at hw
      have := k3 hw.1 (by omega)
      omega
    · rename_i h
      have h1 : ¬ cnt V g k < 0 := fun e => h (.inl e)
      have h2 : ¬ 200 < s := fun e => h (.inr e)
      obtain ⟨b1, b2, b3⟩ := cnts_eq g ks (s + cnt V g k)
      have e : cnt V g k = size k := by rcases k1 with e | e <;> omega
      refine ⟨b1.imp id (fun h => by rw [h, e]; omega), fun hs hc => ?_, fun hs hw hl => ?_⟩
      · rw [k2 (by omega), b2 (by omega) hc]; rfl
      · simp only [Bool.and_eq_true] at hw
        rw [b3 (by omega) hw.2 (by rw [e]; omega), e]
        omega
end
theorem cnt_form (t : Nd) : (decide (0 < cnt V 20 t) && decide (cnt V 20 t ≤ 200)) = form V t := by
  obtain ⟨h1, h2, h3⟩ := cnt_eq (V := V) 20 t
  have hp := size_pos t
  unfold form
  cases hw : wf V 20 t with
  | false =>
    have : ¬ 0 ≤ cnt V 20 t := fun h => by rw [h2 h] at hw; cases hw
    rw [decide_eq_false (by omega)]; rfl
  | true =>
    rw [Bool.true_and]
    by_cases hs : size t ≤ 200
    · rw [h3 hw hs, decide_eq_true (by omega), Bool.true_and]
      exact decide_eq_decide.2 (by omega)
    · rw [decide_eq_false hs]
      rcases h1 with e | e
      · rw [e]; rfl
      · rw [e, decide_eq_true (by omega), Bool.true_and]; exact decide_eq_false (by omega)
mutual
/-- The statements' own: how many nodes are left of most, or a negative number. -/
def left : Int → Int → Nd → Int
  | g, m, .mk _ _ nm _ _ _ ks => if g < 1 ∨ 100 < nm.length then -1 else lefts (g - 1) (m - 1) ks
def lefts : Int → Int → List Nd → Int
  | _, m, [] => m
  | g, m, k :: ks => if 0 ≤ m then lefts g (left g m k) ks else m
end
end Un
end Go.Proofs.Ytjifiijgghpniaa
/-
  Mathematics of units: the unit of an expression, and what changes nothing about it; no program in it.
-/
namespace Go.Proofs.Ytjifiijgghpniaa
namespace Un

/-- A unit, or an error and its place. -/
inductive Got where
  | ok (u : U)
  | er (e pl : Int)
def expo (x : Int) : Bool := decide (-3 ≤ x) && decide (x ≤ 3)
/-- What units come out as: flags, or quantities with small exponents. -/
def good (u : U) : Bool := (u == uFlag) || (!u.f && expo u.m && expo u.a && expo u.d)
def mulU (s : Int) (a b : U) : U := ⟨false, a.m + s * b.m, a.a + s * b.a, a.d + s * b.d⟩
/-- A product, or a quotient. -/
def prodU (s : Int) (a b : U) : Option U := if a.f = false ∧ b.f = false ∧ expo (mulU s a b).m = true ∧ expo (mulU s a b).a = true ∧ expo (mulU s a b).d = true then some (mulU s a b) else none
/-- The unit that comes from those of operands. -/
def opU (op : Int) : List U → Option U
  | [] => if op = 17 then some uFlag else none
  | [a] => if op = 15 ∧ a.f = true then some uFlag else none
  | [a, b] =>
    if op = 5 then prodU 1 a b else if op = 6 then prodU (-1) a b
    else if op = 3 ∨ op = 4 ∨ op = 7 ∨ op = 8 then (if a = b ∧ a.f = false then some a else none)
    else if op = 9 ∨ op = 10 then (if a = b then some uFlag else none)
    else if op = 11 ∨ op = 12 then (if a = b ∧ a.f = false then some uFlag else none)
    else if op = 13 ∨ op = 14 then (if a.f = true ∧ b.f = true then some uFlag else none)
    else none
  | [a, b, c] => if op = 16 ∧ a.f = true ∧ b = c then some b else none
  | _ => none
def look (fs : List (List UInt8 × U)) (s : List UInt8) : Option U := (fs.find? fun e => e.1 == s).map (·.2)
mutual
/-- The unit of an expression, or its first error. -/
def fnd (fs : List (List UInt8 × U)) : Nd → Got
  | .mk op pl nm _ d u ks =>
    if op = 1 then (if u.f = true ∨ (u.m ≠ 0 ∧ d ≠ 1) then .er 12 pl else .ok u)
    else if op = 2 then (match look fs nm with | some u => .ok u | none => .er 11 pl)
    else match fnds fs ks with
      | .inl (e, p) => .er e p
      | .inr us => match opU op us with | some u => .ok u | none => .er 12 pl
def fnds (fs : List (List UInt8 × U)) : List Nd → (Int × Int) ⊕ List U
  | [] => .inr []
  | k :: ks => match fnd fs k with
    | .er e p => .inl (e, p)
    | .ok u => match fnds fs ks with
      | .inl x => .inl x
      | .inr us => .inr (u :: us)
end
variable {V : Int → Int → Bool} {fs : List (List UInt8 × U)}
theorem good_expo {u : U} (h : good u = true) : -3 ≤ u.m ∧ u.m ≤ 3 ∧ -3 ≤ u.a ∧ u.a ≤ 3 ∧ -3 ≤ u.d ∧ u.d ≤ 3 := by
  simp only [good, Bool.or_eq_true, beq_iff_eq, Bool.and_eq_true, expo, decide_eq_true_eq] at h
  rcases h with rfl | h
  · decide
  · omega
theorem good_flag {u : U} (h : good u = true) (hf : u.f = true) : u = uFlag := by
  simp only [good, Bool.or_eq_true, beq_iff_eq, Bool.and_eq_true, Bool.not_eq_true'] at h
  rcases h with h | h
  · exact h
  · rw [hf] at h; exact absurd h.1.1.1 (by simp)
theorem basic_good {u : U} (h : basic u = true) : good u = true := by
  simp only [basic, Bool.or_eq_true, beq_iff_eq] at h
  rcases h with (((rfl | rfl) | rfl) | rfl) | rfl <;> decide
theorem prodU_good {s : Int} {a b u : U} (h : prodU s a b = some u) : good u = true := by
  unfold prodU at h
  split at h
  · rename_i hh
    simp only [Option.some.injEq] at h
    rw [← h]
    simp only [good, hh.2.2.1, hh.2.2.2.1, hh.2.2.2.2]
    simp [mulU]
  · cases h
theorem opU_good {op : Int} {l : List U} {u : U} (h : opU op l = some u) (hl : ∀ x ∈ l, good x = true) : good u = true := by
  match l, h with
  | [], h => simp only [opU] at h; split at h <;> cases h; rfl
  | [a], h => simp only [opU] at h; split at h <;> cases h; rfl
  | [a, b], h =>
    simp only [opU] at h
    split at h
    · exact prodU_good h
    · split at h
      · exact prodU_good h
      · split at h
        · split at h
          · cases h; exact hl _ (by simp)
          · cases h
        · split at h
          · split at h <;> cases h; rfl
          · split at h
            · split at h <;> cases h; rfl
            · split at h
              · split at h <;> cases h; rfl
              · cases h
  | [a, b, c], h => simp only [opU] at h; split at h <;> cases h; exact hl _ (by simp)
  | _ :: _ :: _ :: _ :: _, h => simp [opU] at h
mutual
theorem fnd_good (hfs : ∀ e ∈ fs, good e.2 = true) : ∀ (t : Nd) (g : Nat) (u : U), wf V g t = true → fnd fs t = .ok u → good u = true
  | .mk op pl nm n d u0 ks, g, u, hw, h => by
    obtain ⟨-, ho, hk⟩ := wf_ks hw
    simp only [Nd.ks] at hk
    simp only [fnd] at h
    split at h
    · rename_i h1
      subst h1
      simp only [okNode, if_true, Bool.and_eq_true] at ho
      split at h
      · cases h
      · cases h; exact basic_good ho.2.2.2
    · split at h
      · simp only [look] at h
        cases hf : fs.find? (fun e => e.1 == nm) with
        | none => rw [hf] at h; cases h
        | some e =>
          rw [hf] at h
          cases h
          exact hfs e (List.mem_of_find?_eq_some hf)
      · cases hx : fnds fs ks with
        | inl x => rw [hx] at h; cases h
        | inr us =>
          rw [hx] at h
          simp only at h
          cases ho : opU op us with
          | none => rw [ho] at h; cases h
          | some v =>
            rw [ho] at h
            cases h
            exact opU_good ho (fnds_good hfs ks _ us hk hx)
theorem fnds_good (hfs : ∀ e ∈ fs, good e.2 = true) : ∀ (ks : List Nd) (g : Nat) (us : List U), wfs V g ks = true → fnds fs ks = .inr us → ∀ u ∈ us, good u = true
  | [], g, us, hw, h, u, hu => by simp only [fnds, Sum.inr.injEq] at h; subst h; cases hu
  | k :: ks, g, us, hw, h, u, hu => by
    simp only [wfs, Bool.and_eq_true] at hw
    simp only [fnds] at h
    cases hk : fnd fs k with
    | er e p => rw [hk] at h; cases h
    | ok v =>
      rw [hk] at h
      simp only at h
      cases hx : fnds fs ks with
      | inl x => rw [hx] at h; cases h
      | inr vs =>
        rw [hx] at h
        cases h
        rcases List.mem_cons.1 hu with rfl | hu
        · exact fnd_good hfs k g u hw.1 hk
        · exact fnds_good hfs ks g vs hw.2 hx u hu
end
theorem fnds_len : ∀ {ks : List Nd} {us : List U}, fnds fs ks = .inr us → us.length = ks.length
  | [], us, h => by simp only [fnds, Sum.inr.injEq] at h; subst h; rfl
  | k :: ks, us, h => by
    simp only [fnds] at h
    split at h
    · cases h
    · split at h
      · cases h
      · rename_i hx
        cases h
        simp [fnds_len hx]
/-- One after the other. -/
theorem fnds_snoc : ∀ (l : List Nd) (k : Nd), fnds fs (l ++ [k]) = (match fnds fs l with | .inl x => .inl x | .inr us => match fnd fs k with | .er e p => .inl (e, p) | .ok u => .inr (us ++ [u]))
  | [], k => by simp only [List.nil_append, fnds]
  | k0 :: l, k => by
    simp only [List.cons_append, fnds, fnds_snoc l k]
    cases fnd fs k0 with
    | er e p => rfl
    | ok u =>
      simp only
      cases fnds fs l with
      | inl x => rfl
      | inr us =>
        simp only
        cases fnd fs k <;> rfl
theorem fnds_er_app : ∀ (l r : List Nd) {x : Int × Int}, fnds fs l = .inl x → fnds fs (l ++ r) = .inl x
  | [], r, x, h => by simp [fnds] at h
  | k0 :: l, r, x, h => by
    simp only [List.cons_append, fnds] at h ⊢
    cases hk : fnd fs k0 with
    | er e p => rw [hk] at h; exact h
    | ok u =>
      rw [hk] at h
      simp only at h ⊢
      cases hl : fnds fs l with
      | inl y => rw [hl] at h; rw [fnds_er_app l r hl]; exact h
      | inr us => rw [hl] at h; cases h
theorem fnds_mem : ∀ {ks : List Nd} {us : List U}, fnds fs ks = .inr us → ∀ k ∈ ks, ∃ u, fnd fs k = .ok u
  | [], _, _, k, hk => absurd hk List.not_mem_nil
  | k0 :: ks, us, h, k, hk => by
    simp only [fnds] at h
    cases h0 : fnd fs k0 with
    | er e p => rw [h0] at h; cases h
    | ok u0 =>
      rw [h0] at h
      simp only at h
      cases hx : fnds fs ks with
      | inl y => rw [hx] at h; cases h
      | inr vs =>
        rcases List.mem_cons.1 hk with rfl | hk
        · exact ⟨u0, h0⟩
        · exact fnds_mem hx k hk
/-- If an expression has a unit, so has each of its operands. -/
theorem parts {t k : Nd} {u : U} (hf : form V t = true) (h : fnd fs t = .ok u) (hk : k ∈ t.ks) : ∃ v, fnd fs k = .ok v := by
  simp only [form, Bool.and_eq_true] at hf
  obtain ⟨-, ho, -⟩ := wf_ks hf.1
  cases t with
  | mk op pl nm n d u0 ks =>
    simp only [Nd.ks] at hk
    have hl : 0 < ks.length := List.length_pos_of_mem hk
    simp only [okNode, Bool.and_eq_true, decide_eq_true_eq] at ho
    simp only [fnd] at h
    split at h
    · rename_i h1; subst h1; have h0 := ho.1; rw [show arity 1 = 0 from rfl] at h0; omega
    · split at h
      · rename_i h1; subst h1; have h0 := ho.1; rw [show arity 2 = 0 from rfl] at h0; omega
      · cases hx : fnds fs ks with
        | inl x => rw [hx] at h; cases h
        | inr us => exact fnds_mem hx k hk
theorem fnds_set : ∀ {ks : List Nd} {us : List U} {i : Nat} {m : Nd} {u : U}, fnds fs ks = .inr us → us[i]? = some u → fnd fs m = .ok u → fnds fs (ks.set i m) = .inr us
  | [], us, i, m, u, h, hu, hm => by simp only [List.set_nil]; exact h
  | k0 :: ks, us, i, m, u, h, hu, hm => by
    simp only [fnds] at h
    cases h0 : fnd fs k0 with
    | er e p => rw [h0] at h; cases h
    | ok u0 =>
      rw [h0] at h
      simp only at h
      cases hx : fnds fs ks with
      | inl y => rw [hx] at h; cases h
      | inr vs =>
        rw [hx] at h
        cases h
        cases i with
        | zero =>
          simp only [List.getElem?_cons_zero, Option.some.injEq] at hu
          subst hu
          simp only [List.set_cons_zero, fnds, hm, hx]
        | succ i =>
          simp only [List.getElem?_cons_succ] at hu
          simp only [List.set_cons_succ, fnds, h0, fnds_set hx hu hm]
theorem fnds_get : ∀ {ks : List Nd} {us : List U} {i : Nat} {k : Nd}, fnds fs ks = .inr us → ks[i]? = some k → ∃ u, us[i]? = some u ∧ fnd fs k = .ok u
  | [], us, i, k, h, hk => by simp at hk
  | k0 :: ks, us, i, k, h, hk => by
    simp only [fnds] at h
    cases h0 : fnd fs k0 with
    | er e p => rw [h0] at h; cases h
    | ok u0 =>
      rw [h0] at h
      simp only at h
      cases hx : fnds fs ks with
      | inl y => rw [hx] at h; cases h
      | inr vs =>
        rw [hx] at h
        cases h
        cases i with
        | zero => simp only [List.getElem?_cons_zero, Option.some.injEq] at hk; subst hk; exact ⟨u0, rfl, h0⟩
        | succ i =>
          simp only [List.getElem?_cons_succ] at hk
          simp only [List.getElem?_cons_succ]
          exact fnds_get hx hk
def setK (t : Nd) (i : Nat) (m : Nd) : Nd := match t with | .mk op pl nm n d u ks => .mk op pl nm n d u (ks.set i m)
/-- An operand is replaced by an expression with the same unit. -/
theorem replaces {t k m : Nd} {i : Nat} {u v : U} (h : fnd fs t = .ok u) (hk : t.ks[i]? = some k) (h1 : fnd fs k = .ok v) (h2 : fnd fs m = .ok v) (hop : t.op ≠ 1 ∧ t.op ≠ 2) : fnd fs (setK t i m) = .ok u := by
  cases t with
  | mk op pl nm n d u0 ks =>
    simp only [Nd.ks, Nd.op] at hk hop
    simp only [fnd, if_neg hop.1, if_neg hop.2] at h
    simp only [setK, fnd, if_neg hop.1, if_neg hop.2]
    cases hx : fnds fs ks with
    | inl x => rw [hx] at h; cases h
    | inr us =>
      rw [hx] at h
      obtain ⟨w, hw, hkw⟩ := fnds_get hx hk
      rw [h1] at hkw
      cases hkw
      rw [fnds_set hx hw h2]
      exact h
theorem form_op {t k : Nd} (hf : form V t = true) (hk : k ∈ t.ks) : t.op ≠ 1 ∧ t.op ≠ 2 := by
  simp only [form, Bool.and_eq_true] at hf
  obtain ⟨-, ho, -⟩ := wf_ks hf.1
  cases t with
  | mk op pl nm n d u0 ks =>
    simp only [Nd.ks] at hk
    have hl : 0 < ks.length := List.length_pos_of_mem hk
    simp only [okNode, Bool.and_eq_true, decide_eq_true_eq] at ho
    simp only [Nd.op]
    refine ⟨fun h => ?_, fun h => ?_⟩
    · subst h; have h0 := ho.1; rw [show arity 1 = 0 from rfl] at h0; omega
    · subst h; have h0 := ho.1; rw [show arity 2 = 0 from rfl] at h0; omega
def small (u : U) : Bool := !u.f && decide (-1 ≤ u.m) && decide (u.m ≤ 1) && decide (-1 ≤ u.a) && decide (u.a ≤ 1) && decide (-1 ≤ u.d) && decide (u.d ≤ 1)
/-- Multiplied and divided by another one. -/
theorem products {a b : Nd} {u v : U} {p q : Int} {s s' : List UInt8} {n d n' d' : Int} {w w' : U} (h1 : fnd fs a = .ok u) (h2 : fnd fs b = .ok v) (su : small u = true) (sv : small v = true) : fnd fs (.mk 6 p s n d w [.mk 5 q s' n' d' w' [a, b], b]) = .ok u := by
  simp only [small, Bool.and_eq_true, decide_eq_true_eq, Bool.not_eq_true'] at su sv
  obtain ⟨uf, um, ua, ud⟩ := u
  obtain ⟨vf, vm, va, vd⟩ := v
  simp only at su sv
  obtain ⟨hu, hv⟩ : uf = false ∧ vf = false := ⟨su.1.1.1.1.1.1, sv.1.1.1.1.1.1⟩
  subst hu
  subst hv
  have ex : ∀ x : Int, -3 ≤ x → x ≤ 3 → expo x = true := fun x h1 h2 => by simp only [expo, Bool.and_eq_true, decide_eq_true_eq]; exact ⟨h1, h2⟩
  have e5 : opU 5 [⟨false, um, ua, ud⟩, ⟨false, vm, va, vd⟩] = some ⟨false, um + 1 * vm, ua + 1 * va, ud + 1 * vd⟩ :=
    if_pos ⟨rfl, rfl, ex _ (by show -3 ≤ um + 1 * vm; omega) (by show um + 1 * vm ≤ 3; omega), ex _ (by show -3 ≤ ua + 1 * va; omega) (by show ua + 1 * va ≤ 3; omega), ex _ (by show -3 ≤ ud + 1 * vd; omega) (by show ud + 1 * vd ≤ 3; omega)⟩
  have e6 : opU 6 [⟨false, um + 1 * vm, ua + 1 * va, ud + 1 * vd⟩, ⟨false, vm, va, vd⟩] = some ⟨false, um, ua, ud⟩ := by
    have h : opU 6 [⟨false, um + 1 * vm, ua + 1 * va, ud + 1 * vd⟩, ⟨false, vm, va, vd⟩] = some ⟨false, um + 1 * vm + -1 * vm, ua + 1 * va + -1 * va, ud + 1 * vd + -1 * vd⟩ :=
      if_pos ⟨rfl, rfl, ex _ (by show -3 ≤ um + 1 * vm + -1 * vm; omega) (by show um + 1 * vm + -1 * vm ≤ 3; omega), ex _ (by show -3 ≤ ua + 1 * va + -1 * va; omega) (by show ua + 1 * va + -1 * va ≤ 3; omega), ex _ (by show -3 ≤ ud + 1 * vd + -1 * vd; omega) (by show ud + 1 * vd + -1 * vd ≤ 3; omega)⟩
    rw [h, show um + 1 * vm + -1 * vm = um by omega, show ua + 1 * va + -1 * va = ua by omega, show ud + 1 * vd + -1 * vd = ud by omega]
  have k5 : fnd fs (.mk 5 q s' n' d' w' [a, b]) = .ok ⟨false, um + 1 * vm, ua + 1 * va, ud + 1 * vd⟩ := by
    simp only [fnd, fnds, h1, h2]
    rw [if_neg (by decide), if_neg (by decide), e5]
  simp only [fnd, fnds, h2] at k5 ⊢
  rw [if_neg (by decide), if_neg (by decide)] at k5
  rw [if_neg (by decide), if_neg (by decide), if_neg (by decide), if_neg (by decide)]
  simp only [h1] at k5 ⊢
  rw [e5]
  simp only
  rw [e6]
mutual
/-- All places are moved. -/
def shift (W : Int → Int) : Nd → Nd
  | .mk op pl nm n d u ks => .mk op (W pl) nm n d u (shifts W ks)
def shifts (W : Int → Int) : List Nd → List Nd
  | [] => []
  | k :: ks => shift W k :: shifts W ks
end
def Got.shift (W : Int → Int) : Got → Got
  | .ok u => .ok u
  | .er e p => .er e (W p)
def shiftX (W : Int → Int) : (Int × Int) ⊕ List U → (Int × Int) ⊕ List U
  | .inl (e, p) => .inl (e, W p)
  | .inr us => .inr us
mutual
theorem fnd_shift (W : Int → Int) : ∀ (t : Nd), fnd fs (shift W t) = (fnd fs t).shift W
  | .mk op pl nm n d u ks => by
    simp only [shift, fnd, fnds_shift W ks]
    split
    · split <;> rfl
    · split
      · cases look fs nm <;> rfl
      · cases fnds fs ks with
        | inl x => rfl
        | inr us => simp only [shiftX]; cases opU op us <;> rfl
theorem fnds_shift (W : Int → Int) : ∀ (ks : List Nd), fnds fs (shifts W ks) = shiftX W (fnds fs ks)
  | [] => rfl
  | k :: ks => by
    simp only [shifts, fnds, fnd_shift W k, fnds_shift W ks]
    cases fnd fs k with
    | er e p => rfl
    | ok u =>
      simp only [Got.shift]
      cases fnds fs ks <;> rfl
end
theorem shifts_len (W : Int → Int) : ∀ (ks : List Nd), (shifts W ks).length = ks.length
  | [] => rfl
  | k :: ks => by simp only [shifts, List.length_cons, shifts_len W ks]
mutual
theorem wf_shift (W : Int → Int) : ∀ (t : Nd) (g : Nat), wf V g (shift W t) = wf V g t
  | .mk op pl nm n d u ks, g => by simp only [shift, wf, okNode, shifts_len, wfs_shift W ks]
theorem wfs_shift (W : Int → Int) : ∀ (ks : List Nd) (g : Nat), wfs V g (shifts W ks) = wfs V g ks
  | [], _ => rfl
  | k :: ks, g => by simp only [shifts, wfs, wf_shift W k, wfs_shift W ks]
end
mutual
theorem size_shift (W : Int → Int) : ∀ (t : Nd), size (shift W t) = size t
  | .mk op pl nm n d u ks => by simp only [shift, size, sizes_shift W ks]
theorem sizes_shift (W : Int → Int) : ∀ (ks : List Nd), sizes (shifts W ks) = sizes ks
  | [] => rfl
  | k :: ks => by simp only [shifts, sizes, size_shift W k, sizes_shift W ks]
end
theorem form_shift (W : Int → Int) (t : Nd) : form V (shift W t) = form V t := by simp only [form, wf_shift, size_shift]
mutual
/-- A name occurs. -/
def mentions (s : List UInt8) : Nd → Bool
  | .mk op _ nm _ _ _ ks => (decide (op = 2) && nm == s) || mentionss s ks
def mentionss (s : List UInt8) : List Nd → Bool
  | [] => false
  | k :: ks => mentions s k || mentionss s ks
end
mutual
/-- A further fact that does not occur changes nothing. -/
theorem fnd_more (s : List UInt8) (w : U) : ∀ (t : Nd), mentions s t = false → fnd (fs ++ [(s, w)]) t = fnd fs t
  | .mk op pl nm n d u ks, h => by
    simp only [mentions, Bool.or_eq_false_iff] at h
    simp only [fnd, fnds_more s w ks h.2]
    split
    · rfl
    · split
      · rename_i h2
        have h1 := h.1
        simp only [h2, decide_true, Bool.true_and] at h1
        have : look (fs ++ [(s, w)]) nm = look fs nm := by
          simp only [look, List.find?_append]
          cases fs.find? (fun e => e.1 == nm) with
          | some e => rfl
          | none =>
            have h3 : (s == nm) = false := by
              have hne : ¬ nm = s := by simpa using h1
              exact beq_false_of_ne (fun e => hne e.symm)
            simp [List.find?, h3]
        rw [this]
      · rfl
theorem fnds_more (s : List UInt8) (w : U) : ∀ (ks : List Nd), mentionss s ks = false → fnds (fs ++ [(s, w)]) ks = fnds fs ks
  | [], _ => rfl
  | k :: ks, h => by
    simp only [mentionss, Bool.or_eq_false_iff] at h
    simp only [fnds, fnd_more s w k h.1, fnds_more s w ks h.2]
end
end Un
end Go.Proofs.Ytjifiijgghpniaa
/-
  Mathematics of units: what is wrong with by-laws; no program in it.
-/
namespace Go.Proofs.Ytjifiijgghpniaa
namespace Un

/-- A declaration. -/
structure Dc where
  nm : List UInt8
  u : U
  lo : Int
  hi : Int
  pl : Int
/-- A rule. -/
structure Ru where
  nm : List UInt8
  ver : Int
  kind : Int
  act : List UInt8
  fr : Int
  un : Int
  known : Int
  whn : Nd
  giv : Nd
  pl : Int
def facts (l : List Dc) : List (List UInt8 × U) := l.map fun d => (d.nm, d.u)
/-- Declarations are well-formed. -/
def formD (l : List Dc) : Bool := decide (l.length ≤ 12) && l.all fun d => isName d.nm && basic d.u
/-- The bounds of a declaration are right. -/
def bounded (d : Dc) : Bool := decide (0 ≤ d.lo) && decide (d.lo ≤ d.hi) && decide (d.hi ≤ 1000000) && (!d.u.f || decide (d.hi ≤ 1))
/-- The product, as far as it matters. -/
def cases1 (c : Int) (d : Dc) : Int := if bounded d then min (c * (d.hi - d.lo + 1)) 4097 else c
/-- What is wrong with one declaration; 0: nothing. -/
def errD (pre : List Dc) (c : Int) (d : Dc) : Int := if pre.any (fun e => e.nm == d.nm) then 5 else if !bounded d then 3 else if 4096 < cases1 c d then 2 else 0
def prodC (l : List Dc) : Int := l.foldl cases1 1
/-- What is wrong with declarations that come behind others. -/
def errsD (pre : List Dc) : List Dc → List (Int × Int)
  | [] => []
  | d :: l => (if errD pre (prodC pre) d = 0 then [] else [(d.pl, errD pre (prodC pre) d)]) ++ errsD (pre ++ [d]) l
def rightD (l : List Dc) : Bool := formD l && (errsD [] l).isEmpty
def ofV (V : Int → Int → Bool) (l : List Dc) (n : Nd) : Got := if rightD l && form V n then fnd (facts l) n else .er 1 0
/-- A rule is as it must be in by-laws that are well-formed. -/
def formR (V : Int → Int → Bool) (r : Ru) : Bool := decide (1 ≤ r.kind) && decide (r.kind ≤ 7) && isName r.nm && (r.act.isEmpty || isName r.act) && form V r.whn && form V r.giv
def formC (V : Int → Int → Bool) (ds : List Dc) (rs : List Ru) : Bool := formD ds && decide (rs.length ≤ 100) && rs.all (formR V)
def hasAct (k : Int) : Bool := decide (k = 3) || decide (k = 4) || decide (k = 6) || decide (k = 7)
def timed (r : Ru) : Bool := decide (1 ≤ r.ver) && decide (r.ver ≤ 999) && decide (0 ≤ r.fr) && decide (r.fr < r.un) && decide (r.un ≤ 36525) && decide (0 ≤ r.known) && decide (r.known ≤ 36524)
/-- What is wrong with a rule but for its expressions; prev: the earlier ones with its name. -/
def headR (prev : List Ru) (r : Ru) : Int :=
  if timed r = false then 3 else if prev.any (fun v => v.ver == r.ver) then 5
  else if (hasAct r.kind != r.act.isEmpty) && !prev.any (fun v => v.kind != r.kind || !(v.act == r.act)) then
    (match prev.getLast? with | none => if r.ver = 1 then 0 else 6 | some v => if v.ver = r.ver - 1 ∧ v.known ≤ r.known then 0 else 6)
  else 13
def isNothing (t : Nd) : Bool := decide (t.op = 1) && decide (t.n = 0) && t.u == uNum
def giveE (r : Ru) (u : U) : Int :=
  if r.kind = 1 ∨ r.kind = 2 then (if u = uMoney then 0 else 12) else if r.kind = 5 ∨ r.kind = 6 then (if u = uNum then 0 else 12)
  else if r.kind = 7 then (if u = uDays then 0 else 12) else if isNothing r.giv = true then 0 else 13
/-- What is wrong with a rule, and where; 0: nothing. -/
def errR (fs : List (List UInt8 × U)) (prev : List Ru) (r : Ru) : Int × Int :=
  if headR prev r ≠ 0 then (r.pl, headR prev r) else match fnd fs r.whn with
  | .er e p => (p, e)
  | .ok u => if u.f = false then (r.whn.pl, 12) else match fnd fs r.giv with
    | .er e p => (p, e)
    | .ok u => if giveE r u = 0 then (0, 0) else (r.giv.pl, giveE r u)
def before (pre : List Ru) (r : Ru) : List Ru := pre.filter fun v => v.nm == r.nm
def errsR (fs : List (List UInt8 × U)) (pre : List Ru) : List Ru → List (Int × Int)
  | [] => []
  | r :: l => (if (errR fs (before pre r) r).2 = 0 then [] else [errR fs (before pre r) r]) ++ errsR fs (pre ++ [r]) l
/-- What is wrong with by-laws. -/
def checkV (V : Int → Int → Bool) (ds : List Dc) (rs : List Ru) : List (Int × Int) :=
  if formC V ds rs = false then [(0, 1)] else if (errsD [] ds).isEmpty then (errsR (facts ds) [] rs).take 20 else (errsD [] ds).take 20
variable {V : Int → Int → Bool} {fs : List (List UInt8 × U)}
theorem errsD_len (pre : List Dc) : ∀ (l : List Dc), (errsD pre l).length ≤ l.length
  | [] => Nat.le_refl _
  | d :: l => by
    have := errsD_len (pre ++ [d]) l
    simp only [errsD, List.length_append, List.length_cons]
    split <;> simp <;> omega
theorem errsR_snoc (pre : List Ru) : ∀ (l : List Ru) (r : Ru), errsR fs pre (l ++ [r]) = errsR fs pre l ++ (if (errR fs (before (pre ++ l) r) r).2 = 0 then [] else [errR fs (before (pre ++ l) r) r])
  | [], r => by simp [errsR]
  | r0 :: l, r => by simp only [List.cons_append, errsR, errsR_snoc (pre ++ [r0]) l r, List.append_assoc, List.cons_append, List.nil_append]
theorem errsD_snoc (pre : List Dc) : ∀ (l : List Dc) (d : Dc), errsD pre (l ++ [d]) = errsD pre l ++ (if errD (pre ++ l) (prodC (pre ++ l)) d = 0 then [] else [(d.pl, errD (pre ++ l) (prodC (pre ++ l)) d)])
  | [], d => by simp [errsD]
  | d0 :: l, d => by simp only [List.cons_append, errsD, errsD_snoc (pre ++ [d0]) l d, List.append_assoc, List.cons_append, List.nil_append]
/-- By-laws without their last rule. -/
theorem beginnings {ds : List Dc} {rs : List Ru} {r : Ru} (h : formC V ds (rs ++ [r]) = true) : formC V ds rs = true ∧ ∃ t, checkV V ds (rs ++ [r]) = checkV V ds rs ++ t ∧ t.length ≤ 1 := by
  have h2 : formC V ds rs = true := by
    simp only [formC, Bool.and_eq_true, decide_eq_true_eq, List.length_append, List.length_cons, List.length_nil, List.all_append] at h ⊢
    exact ⟨⟨h.1.1, by omega⟩, h.2.1⟩
  refine ⟨h2, ?_⟩
  unfold checkV
  rw [h, h2]
  simp only [Bool.true_eq_false, if_false]
  by_cases hd : (errsD [] ds).isEmpty = true
  · rw [if_pos hd, if_pos hd, errsR_snoc]
    have hx : (if (errR (facts ds) (before ([] ++ rs) r) r).2 = 0 then [] else [errR (facts ds) (before ([] ++ rs) r) r] : List (Int × Int)).length ≤ 1 := by split <;> simp
    generalize (if (errR (facts ds) (before ([] ++ rs) r) r).2 = 0 then [] else [errR (facts ds) (before ([] ++ rs) r) r] : List (Int × Int)) = x at *
    rw [List.take_append]
    exact ⟨_, rfl, by rw [List.length_take]; omega⟩
  · rw [if_neg hd, if_neg hd]
    exact ⟨[], by simp, by simp⟩
theorem errsR_nil : ∀ (rs pre : List Ru), errsR fs pre rs = [] → ∀ (a : List Ru) (r : Ru) (b : List Ru), rs = a ++ r :: b → (errR fs (before (pre ++ a) r) r).2 = 0
  | [], _, _, a, r, b, e => by simp at e
  | r0 :: rs, pre, h, a, r, b, e => by
    simp only [errsR, List.append_eq_nil_iff] at h
    cases a with
    | nil =>
      simp only [List.nil_append, List.cons.injEq] at e
      obtain ⟨rfl, rfl⟩ := e
      rw [List.append_nil]
      have h1 := h.1
      split at h1
      · assumption
      · cases h1
    | cons a0 a =>
      simp only [List.cons_append, List.cons.injEq] at e
      obtain ⟨rfl, rfl⟩ := e
      have := errsR_nil _ (pre ++ [r0]) h.2 a r b rfl
      rwa [List.append_assoc] at this
/-- By-laws in which nothing is wrong. -/
theorem check_nil {ds : List Dc} {rs : List Ru} (h : checkV V ds rs = []) : formC V ds rs = true ∧ errsD [] ds = [] ∧ rightD ds = true ∧ ∀ r ∈ rs, ∃ prev, (errR (facts ds) prev r).2 = 0 := by
  unfold checkV at h
  split at h
  · cases h
  · rename_i hf
    have hf : formC V ds rs = true := by simpa using hf
    split at h
    · rename_i hd
      have hd : errsD [] ds = [] := by simpa using hd
      have h : errsR (facts ds) [] rs = [] := by
        rcases List.take_eq_nil_iff.1 h with h | h
        · omega
        · exact h
      refine ⟨hf, hd, ?_, fun r hr => ?_⟩
      · simp only [formC, Bool.and_eq_true] at hf
        simp only [rightD, hd, hf.1.1]
        rfl
      · obtain ⟨a, b, e⟩ := List.append_of_mem hr
        exact ⟨_, errsR_nil rs [] h a r b e⟩
    · rename_i hd
      rcases List.take_eq_nil_iff.1 h with h | h
      · omega
      · rw [h] at hd; exact absurd rfl hd
/-- A rule in which nothing is wrong. -/
theorem errR_zero {prev : List Ru} {r : Ru} (h : (errR fs prev r).2 = 0) (hne : ∀ t e p, fnd fs t = .er e p → e ≠ 0) : headR prev r = 0 ∧ (∃ u, fnd fs r.whn = .ok u ∧ u.f = true) ∧ ∃ u, fnd fs r.giv = .ok u ∧ giveE r u = 0 := by
  unfold errR at h
  by_cases h0 : headR prev r = 0
  · rw [if_neg (by simpa using h0)] at h
    refine ⟨h0, ?_⟩
    cases hw : fnd fs r.whn with
    | er e p => rw [hw] at h; exact absurd h (hne _ _ _ hw)
    | ok u =>
      rw [hw] at h
      simp only at h
      by_cases hf : u.f = false
      · rw [if_pos hf] at h; cases h
      · rw [if_neg hf] at h
        refine ⟨⟨u, rfl, by simpa using hf⟩, ?_⟩
        cases hg : fnd fs r.giv with
        | er e p => rw [hg] at h; exact absurd h (hne _ _ _ hg)
        | ok v =>
          rw [hg] at h
          simp only at h
          by_cases hz : giveE r v = 0
          · exact ⟨v, rfl, hz⟩
          · rw [if_neg hz] at h; exact absurd h hz
  · rw [if_pos h0] at h; exact absurd h h0
mutual
theorem fnd_ne : ∀ (t : Nd) (e p : Int), fnd fs t = .er e p → e = 11 ∨ e = 12
  | .mk op pl nm n d u ks, e, p, h => by
    simp only [fnd] at h
    split at h
    · split at h <;> cases h; exact .inr rfl
    · split at h
      · split at h <;> cases h; exact .inl rfl
      · cases hx : fnds fs ks with
        | inl x =>
          obtain ⟨e', p'⟩ := x
          rw [hx] at h
          cases h
          exact fnds_ne ks _ _ hx
        | inr us =>
          rw [hx] at h
          simp only at h
          split at h <;> cases h; exact .inr rfl
theorem fnds_ne : ∀ (ks : List Nd) (e p : Int), fnds fs ks = .inl (e, p) → e = 11 ∨ e = 12
  | [], e, p, h => by simp [fnds] at h
  | k :: ks, e, p, h => by
    simp only [fnds] at h
    cases hk : fnd fs k with
    | er e' p' => rw [hk] at h; cases h; exact fnd_ne k _ _ hk
    | ok u =>
      rw [hk] at h
      simp only at h
      cases hx : fnds fs ks with
      | inl x => rw [hx] at h; cases h; exact fnds_ne ks _ _ hx
      | inr us => rw [hx] at h; cases h
end
theorem headR_scoped {prev : List Ru} {r : Ru} (h : headR prev r = 0) : hasAct r.kind = !r.act.isEmpty := by
  unfold headR at h
  split at h
  · cases h
  · split at h
    · cases h
    · split at h
      · rename_i hh
        simp only [Bool.and_eq_true, bne_iff_ne, ne_eq] at hh
        have := hh.1
        revert this
        cases hasAct r.kind <;> cases r.act.isEmpty <;> simp
      · cases h
end Un
end Go.Proofs.Ytjifiijgghpniaa
/-
  What the walks of layer 11 share: regions whose callees make memory, boxes, rows that are loaded and stored, slices of rows, nodes in memory.
-/
namespace Go.Proofs.Ytjifiijgghpniaa
open Go.RowKit Un

/-- The worlds behind w in which all that lay lies as it lay. -/
structure Bw (w : World) where
  w' : World
  h : RowKit.Below w.heap.size w w'
instance (w : World) : Inhabited (Bw w) := ⟨⟨w, Below.refl _ _⟩⟩
theorem mixed : Try.prog.follows .mixedOrders = true := by kernel_rfl
/-- A region whose order is open, whose operations read, and whose callees make memory of their own: one walk in the text's order. -/
theorem wp_region_bw {P : Program} {id : Nat} {Q : Exit → Act → World → Prop} {a : Act} {w : World} {l : List Oper} (hm : P.follows .mixedOrders = true) (hB : Region.lexB .any l.toArray = true)
    (h : wpQuiet P l.toArray (fun w' => ∃ p : Bw w, w' = p.w') (fun a' => ∀ w', (∃ p : Bw w, w' = p.w') → Q .normal a' w') l a) : (Code.region id l.toArray true).wp P Q a w :=
  wp_region_quiet (C := fun w' => ∃ p : Bw w, w' = p.w') hm hB ⟨⟨_, (Below.refl _ w).drew⟩, rfl⟩ (by simpa using h)
theorem bw_out {w w' : World} (h : ∃ p : Bw w, w' = p.w') : RowKit.Below w.heap.size w w' := by obtain ⟨p, rfl⟩ := h; exact p.h
theorem cell_bw {w : World} {a : Addr} {v : Value} (hb : a.block < w.heap.size) (h : w.cell? a = some v) : ∀ p : Bw w, p.w'.cell? a = some v := fun p => (p.h.cell hb).trans h
theorem Calls.bw_of {P : Program} {f : FuncId} {args : Array Value} {w : World} {p : Bw w} {v : Value}
    (h : Calls P f args p.w' fun e w' => e = .returned v ∧ RowKit.Below p.w'.heap.size p.w' w') : Calls P f args p.w' fun e w'' => e = .returned v ∧ ∃ q : Bw w, w'' = q.w' :=
  h.mono fun _ w' ⟨he, hb⟩ => ⟨he, ⟨w', p.h.trans (hb.mono p.h.size)⟩, rfl⟩
theorem ret_bool {a b : Bool} (h : a = b) : Ending.returned (.bool a) = .returned (.bool b) := by rw [h]
theorem ret_i64 {a b : Int} (h : a = b) : Ending.returned (.int .i64 a) = .returned (.int .i64 b) := by rw [h]
theorem ret_str {a b : ByteArray} (h : a = b) : Ending.returned (.string a) = .returned (.string b) := by rw [h]
theorem addr_add (b off i : Nat) : (⟨b, off, none⟩ : Addr).add i = ⟨b, off + i, none⟩ := by unfold Addr.add; split <;> simp_all

/-! ### Strings as lists -/
def bs (l : List UInt8) : ByteArray := ⟨l.toArray⟩
theorem bs_of (s : ByteArray) : s = bs s.data.toList := by apply ByteArray.ext; simp [bs]
theorem bs_list (l : List UInt8) : (bs l).toList = l := by rw [Lib.toList_data]; simp [bs]
theorem bs_data (l : List UInt8) : (bs l).data.toList = l := by simp [bs]
theorem bs_size (l : List UInt8) : (bs l).size = l.length := by simp [bs, ByteArray.size]
theorem bs_inj {l m : List UInt8} : bs l = bs m ↔ l = m := ⟨fun h => by rw [← bs_data l, h, bs_data], fun h => by rw [h]⟩
theorem bs_take (l : List UInt8) (i : Nat) : (bs l).extract 0 i = bs (l.take i) := by
  apply ByteArray.ext; apply Array.ext'; simp [bs]
theorem bs_drop (l : List UInt8) (i : Nat) : (bs l).extract i (bs l).size = bs (l.drop i) := by
  apply ByteArray.ext; apply Array.ext'; rw [Lib.extract_to_end]; simp [bs]
theorem bs_app (l m : List UInt8) : bs l ++ bs m = bs (l ++ m) := by
  apply ByteArray.ext; apply Array.ext'; simp [bs]

/-! ### Blocks -/
/-- Block b begins with two cells that may be written. -/
structure At2 (w : World) (b : Nat) (x y : Value) : Prop where
  c0 : w.cell? ⟨b, 0, none⟩ = some x
  c1 : w.cell? ⟨b, 1, none⟩ = some y
  f0 : w.frozen? ⟨b, 0, none⟩ = false
  f1 : w.frozen? ⟨b, 1, none⟩ = false
theorem At2.new (w : World) (x y : Value) (T : Nat) : At2 (w.alloc (.cells #[x, y] T)) w.heap.size x y := ⟨by simp, by simp, by simp, by simp⟩
theorem At2.below {w w1 : World} {b B : Nat} {x y : Value} (h : At2 w b x y) (hB : RowKit.Below B w w1) (hb : b < B) : At2 w1 b x y :=
  ⟨(hB.cell (p := ⟨b, 0, none⟩) hb).trans h.c0, (hB.cell (p := ⟨b, 1, none⟩) hb).trans h.c1, (hB.frozen (p := ⟨b, 0, none⟩) hb).trans h.f0, (hB.frozen (p := ⟨b, 1, none⟩) hb).trans h.f1⟩
theorem At2.lt {w : World} {b : Nat} {x y : Value} (h : At2 w b x y) : b < w.heap.size := World.block_lt_of_cell? _ _ h.c0
theorem At2.bel {w w1 : World} {b : Nat} {x y : Value} (h : At2 w b x y) (hB : RowKit.Below w.heap.size w w1) : At2 w1 b x y := h.below hB h.lt
/-- What lay lies as it lay, but for one block. -/
structure Kept (b : Nat) (w w' : World) : Prop where
  os : w'.os = w.os
  tape : w'.tape = w.tape
  output : w'.output = w.output
  size : w.heap.size ≤ w'.heap.size
  block : ∀ k, k < w.heap.size → k ≠ b → w'.heap[k]? = w.heap[k]?
theorem Kept.of {b : Nat} {w w' : World} (h : RowKit.Below w.heap.size w w') : Kept b w w' := ⟨h.os, h.tape, h.output, h.size, fun k hk _ => h.block k hk⟩
theorem Kept.refl (b : Nat) (w : World) : Kept b w w := Kept.of (Below.refl _ _)
theorem Kept.trans {b : Nat} {w u v : World} (h : Kept b w u) (k : Kept b u v) : Kept b w v :=
  ⟨k.os.trans h.os, k.tape.trans h.tape, k.output.trans h.output, Nat.le_trans h.size k.size, fun j hj hn => (k.block j (Nat.lt_of_lt_of_le hj h.size) hn).trans (h.block j hj hn)⟩
theorem Kept.bel {b : Nat} {w u v : World} (h : Kept b w u) (k : RowKit.Below u.heap.size u v) : Kept b w v := h.trans (Kept.of k)
theorem Kept.setCell {b : Nat} {w u : World} (h : Kept b w u) (o : Nat) (s : Option Nat) (x : Value) : Kept b w (u.setCell ⟨b, o, s⟩ x) :=
  h.trans ⟨rfl, rfl, rfl, by simp [World.setCell], fun k _ hn => Below.heap_setCell _ _ _ _ hn⟩
theorem Kept.below {b B : Nat} {w w' : World} (h : Kept b w w') (hb : B ≤ b) (hB : B ≤ w.heap.size) : RowKit.Below B w w' :=
  ⟨h.os, h.tape, h.output, h.size, fun k hk => h.block k (by omega) (by omega)⟩
theorem Kept.other {b r : Nat} {w w1 : World} (h : Kept b w w1) (hr : w.heap.size ≤ r) (o : Nat) (v : Value) : Kept b w (w1.setCell ⟨r, o, none⟩ v) :=
  ⟨h.os, h.tape, h.output, by simpa [World.setCell] using h.size, fun k hk hn => (Below.heap_setCell _ _ _ _ (by show k ≠ r; omega)).trans (h.block k hk hn)⟩
theorem Kept.other2 {b r : Nat} {w w1 : World} (h : Kept b w w1) (hr : w.heap.size ≤ r) (a : Addr) (ha : a.block = r) (v : Value) : Kept b w (w1.setCell a v) :=
  ⟨h.os, h.tape, h.output, by simpa [World.setCell] using h.size, fun k hk hn => (Below.heap_setCell _ _ _ _ (by rw [ha]; omega)).trans (h.block k hk hn)⟩
/-- A box with a list of cells. -/
def BoxL (w : World) (b : Nat) (l : List Value) : Prop := ∀ (j : Nat) (v : Value), l[j]? = some v → w.cell? ⟨b, j, none⟩ = some v ∧ w.frozen? ⟨b, j, none⟩ = false
theorem BoxL.new (w : World) (l : List Value) (T : Nat) : BoxL (w.alloc (.cells l.toArray T)) w.heap.size l := fun j v hv => ⟨by rw [cell_of_row _ _ _ _ _ _ (heap_alloc_new w _), List.getElem?_toArray]; exact hv, by simp⟩
theorem BoxL.of {w w1 : World} {b : Nat} {l : List Value} (h : BoxL w b l) (hb : w1.heap[b]? = w.heap[b]?) : BoxL w1 b l := fun j v hv =>
  ⟨(World.cell?_of_block (w := w) (a := ⟨b, j, none⟩) hb).trans (h j v hv).1, (World.frozen?_of_block (w := w) (a := ⟨b, j, none⟩) hb).trans (h j v hv).2⟩
theorem BoxL.set {w : World} {b : Nat} {l : List Value} (h : BoxL w b l) (i : Nat) (y : Value) : BoxL (w.setCell ⟨b, i, none⟩ y) b (l.set i y) := fun j v hv => by
  rw [List.getElem?_set] at hv
  split at hv
  · rename_i e
    subst e
    split at hv
    · rename_i hl
      obtain ⟨h1, h2⟩ := h i l[i] (List.getElem?_eq_getElem hl)
      injection hv with hv
      subst hv
      exact ⟨World.cell?_setCell_same _ _ _ h1, by rw [World.frozen?_setCell]; exact h2⟩
    · cases hv
  · rename_i e
    obtain ⟨h1, h2⟩ := h j v hv
    exact ⟨by rw [World.cell?_setCell_other _ _ _ _ (by intro q; injection q with _ q _; omega)]; exact h1, by rw [World.frozen?_setCell]; exact h2⟩
theorem BoxL.other {w : World} {b r : Nat} {l : List Value} (h : BoxL w b l) (hr : b ≠ r) (o : Nat) (y : Value) : BoxL (w.setCell ⟨r, o, none⟩ y) b l := h.of (Below.heap_setCell _ _ _ _ hr)
theorem BoxL.lt {w : World} {b : Nat} {l : List Value} (h : BoxL w b l) (hl : 0 < l.length) : b < w.heap.size := World.block_lt_of_cell? _ _ (h 0 l[0] (List.getElem?_eq_getElem hl)).1
theorem BoxL.bel {w w1 : World} {b : Nat} {l : List Value} (h : BoxL w b l) (hl : 0 < l.length) (hB : RowKit.Below w.heap.size w w1) : BoxL w1 b l := h.of (hB.block b (h.lt hl))
theorem BoxL.call {w w1 : World} {b r : Nat} {l : List Value} (h : BoxL w r l) (hl : 0 < l.length) (hk : Kept b w w1) (hr : r ≠ b) : BoxL w1 r l := h.of (hk.block r (h.lt hl) hr)
/-- What lay lies as it lay, but for some blocks. -/
structure KeptS (S : Nat → Prop) (w w' : World) : Prop where
  os : w'.os = w.os
  tape : w'.tape = w.tape
  output : w'.output = w.output
  size : w.heap.size ≤ w'.heap.size
  block : ∀ k, k < w.heap.size → ¬ S k → w'.heap[k]? = w.heap[k]?
theorem wp_app {P : Program} {sl : Nat} {o : Oper} {a : Act} {w w' : World} {K : Act → World → Prop} {Q : Exit → Act → World → Prop} {v y v' : Value} (s z : Operand)
    (ho : o.op = .call { callee := .builtin .append, args := #[s, z], argTypes := #[sl, sl] }) (hs : a.eval s = v) (hz : a.eval z = y) (hr : (Builtin.append_ #[sl, sl] o.type #[v, y]).run P w = .ok v' w') (h : K (a.put o.dst v') w') : Oper.wp P o a w K Q := by
  unfold Oper.wp execOp
  simp only [ho, resolve, invoke, builtin, Sem.run_bind, Sem.run_pure, Result.andThen_ok, List.map_toArray, List.map_cons, List.map_nil, hs, hz, hr]
  exact h
theorem own_slice {w : World} {base E size n : Nat} {v : Value} {xs : List Value} (h : w.ownsRow base E size v n xs) : ∃ q cap, v = .slice q n cap := by
  rcases h.2 with ⟨rfl, rfl⟩ | ⟨g, cap, cur, rfl, _⟩
  · exact ⟨none, 0, rfl⟩
  · exact ⟨_, cap, rfl⟩
section
variable {P : Program} {o : Oper} {a : Act} {w w' : World} {K : Act → World → Prop} {Q : Exit → Act → World → Prop} {t : TypeId} {v : Value}
theorem wp_build {l : List (Nat × Operand)} (ho : o.op = .build t l.toArray) (hr : (Instr.build t (l.map fun (i, x) => (i, a.eval x)).toArray).run P w = .ok v w') (h : K (a.put o.dst v) w') : Oper.wp P o a w K Q := by
  unfold Oper.wp execOp
  simp only [ho, Sem.run_bind, Sem.run_pure, List.map_toArray, hr]
  exact h
theorem wp_alloc (ho : o.op = .alloc t) (hr : (Instr.alloc t true (.tuple #[])).run P w = .ok v w') (h : K (a.put o.dst v) w') : Oper.wp P o a w K Q := by
  unfold Oper.wp execOp
  simp only [ho, Sem.run_bind, Sem.run_pure, hr]
  exact h
theorem wp_load {x : Operand} {y : Value} (ho : o.op = .load t x) (hx : a.eval x = y) (hr : (Instr.loadAt t y).run P w = .ok v w') (h : K (a.put o.dst v) w') : Oper.wp P o a w K Q := by
  unfold Oper.wp execOp
  simp only [ho, Sem.run_bind, Sem.run_pure, hx, hr]
  exact h
theorem ex_load {x : Operand} {y : Value} {ρ : Operand → Value} (ho : o.op = .load t x) (hx : ρ x = y) (hr : (Instr.loadAt t y).run P w = .ok v w') : (execOp ρ o).run P w = .ok (.value v) w' := by
  unfold execOp
  simp only [ho, Sem.run_bind, Sem.run_pure, hx, hr]
  rfl
theorem wp_store {x z : Operand} {y u : Value} (ho : o.op = .store t x z) (hx : a.eval x = y) (hz : a.eval z = u) (hr : (Instr.storeAt t y u).run P w = .ok () w') (h : K (a.put o.dst undef) w') : Oper.wp P o a w K Q := by
  unfold Oper.wp execOp
  simp only [ho, Sem.run_bind, Sem.run_pure, hx, hz, hr]
  exact h
theorem wp_slice1 {x : Operand} {y : Value} (ho : o.op = .buildSlice t 1 #[(0, x)]) (hx : a.eval x = y) (hr : (Instr.buildSlice t 1 #[(0, y)]).run P w = .ok v w') (h : K (a.put o.dst v) w') : Oper.wp P o a w K Q := by
  unfold Oper.wp execOp
  simp only [ho, Sem.run_bind, Sem.run_pure, List.map_toArray, List.map_cons, List.map_nil, hx, hr]
  exact h
end
section
variable {P : Program} {ops : Array Oper} {rest : List Oper} {o : Oper} {a : Act} {w w' : World} {Q : Exit → Act → World → Prop} {t : TypeId} {v : Value}
theorem wl_build {l : List (Nat × Operand)} (hgd : o.guard = none) (ho : o.op = .build t l.toArray) (hr : (Instr.build t (l.map fun (i, x) => (i, a.eval x)).toArray).run P w = .ok v w') (h : wpList P ops Q rest (a.put o.dst v) w') : wpList P ops Q (o :: rest) a w := wpList_plain hgd fun _ hK => wp_build ho hr (hK _ _ h)
theorem wl_alloc (hgd : o.guard = none) (ho : o.op = .alloc t) (hr : (Instr.alloc t true (.tuple #[])).run P w = .ok v w') (h : wpList P ops Q rest (a.put o.dst v) w') : wpList P ops Q (o :: rest) a w := wpList_plain hgd fun _ hK => wp_alloc ho hr (hK _ _ h)
theorem wl_store {x z : Operand} {y u : Value} (hgd : o.guard = none) (ho : o.op = .store t x z) (hx : a.eval x = y) (hz : a.eval z = u) (hr : (Instr.storeAt t y u).run P w = .ok () w') (h : wpList P ops Q rest (a.put o.dst undef) w') : wpList P ops Q (o :: rest) a w := wpList_plain hgd fun _ hK => wp_store ho hx hz hr (hK _ _ h)
end
theorem load_row (T n : Nat) (hu : (Try.prog.underlying T).map (fun d => match d with | .struct _ | .array _ _ => true | _ => false) = some true) (hi : (Try.prog.info? T).map (·.size) = some n) (w : World) (b : Nat) (l : List Value) (hl : l.length = n) (h : ∀ j v, l[j]? = some v → w.cell? ⟨b, j, none⟩ = some v) : (Instr.loadAt T (.pointer (some ⟨b, 0, none⟩))).run Try.prog w = .ok (.agg l.toArray) w := by
  have hc : (loadCells ⟨b, 0, none⟩ l.length).run Try.prog w = .ok l.toArray w := run_loadCells_list (P := Try.prog) w ⟨b, 0, none⟩ l (fun j v hv => by
      have hadd : (⟨b, 0, none⟩ : Addr).add j = ⟨b, j, none⟩ := by unfold Addr.add; split <;> simp_all
      rw [hadd]; exact h j v hv)
  obtain ⟨d, hd, hd2⟩ := Option.map_eq_some_iff.1 hu
  obtain ⟨i, hi1, hi2⟩ := Option.map_eq_some_iff.1 hi
  subst hl
  have hagg : (isAgg T).run Try.prog w = .ok true w := by
    unfold isAgg
    rw [Sem.run_bind, run_underlying hd w]
    cases d <;> simp_all
  simp [Instr.loadAt, Instr.sureAddr, loadVar, Sem.run_bind, hagg, sizeOf, typeInfo, hi1, hi2, hc]
theorem kept_setCells {b : Nat} {w : World} : ∀ (vs : List Value) (o : Nat) (v : World), Kept b w v → Kept b w (v.setCells b o vs)
  | [], _, _, h => h
  | _ :: vs, o, _, h => kept_setCells vs (o + 1) _ (h.setCell o none _)
theorem BoxL.cells {w : World} {b : Nat} {l L : List Value} (h : BoxL w b l) (e : L.length = l.length) : BoxL (w.setCells b 0 L) b L := fun j v hv => by
  have hj : j < L.length := (List.getElem?_eq_some_iff.1 hv).1
  have h1 := World.cell?_setCells_in b L 0 w (fun i hi => by
    rw [Nat.zero_add]
    exact Option.isSome_iff_exists.2 ⟨_, (h i l[i] (List.getElem?_eq_getElem (by omega))).1⟩) j hj
  rw [Nat.zero_add] at h1
  refine ⟨h1.trans (by rw [← hv]; exact (List.getElem?_eq_getElem hj).symm), ?_⟩
  rw [World.frozen?_setCells]
  exact (h j l[j] (List.getElem?_eq_getElem (by omega))).2
theorem store_row (T n : Nat) (hi : (Try.prog.info? T).map (·.size) = some n) (w : World) (b : Nat) (l L : List Value) (h : BoxL w b l) (hl : l.length = n) (hL : L.length = n) (h1 : ∀ u ∈ L, u.oneCell' = true) :
    (Instr.storeAt T (.pointer (some ⟨b, 0, none⟩)) (.agg L.toArray)).run Try.prog w = .ok () (w.setCells b 0 L) := by
  have ht : w.there b 0 L.toArray.size := fun j hj => by
    rw [List.size_toArray] at hj
    have := h j l[j] (List.getElem?_eq_getElem (by omega))
    rw [Nat.zero_add]
    exact ⟨Option.isSome_iff_exists.2 ⟨_, this.1⟩, this.2⟩
  exact run_storeAt_mid w b 0 T L.toArray ht (by rw [hi, List.size_toArray, hL]) (by rw [List.all_toArray, List.all_eq_true]; exact h1)
theorem ex_build {P : Program} {o : Oper} {t : TypeId} {v : Value} {w w' : World} {ρ : Operand → Value} {l : List (Nat × Operand)} (ho : o.op = .build t l.toArray) (hr : (Instr.build t (l.map fun (i, x) => (i, ρ x)).toArray).run P w = .ok v w') : (execOp ρ o).run P w = .ok (.value v) w' := by
  unfold execOp
  simp only [ho, Sem.run_bind, Sem.run_pure, List.map_toArray, hr]
  rfl
theorem results_cell2 {P : Program} {fn : Func} {p q : Tmp} {ty tz : TypeId} (h : fn.results = #[.cell p ty, .cell q tz]) {tmps : Array Value} {w : World} {b c : Nat} {l m : List Value} {d e : TypeDesc}
    (hp : tmps.getD p undef = .pointer (some ⟨b, 0, none⟩)) (hq : tmps.getD q undef = .pointer (some ⟨c, 0, none⟩))
    (hu : P.underlying ty = some d) (hd : d.isRow = true) (hi : (P.info? ty).map (·.size) = some l.length) (hl : w.rangeAt b 0 l)
    (hv : P.underlying tz = some e) (he : e.isRow = true) (hj : (P.info? tz).map (·.size) = some m.length) (hm : w.rangeAt c 0 m) :
    (results fn tmps).run P w = .ok (.tuple #[.agg l.toArray, .agg m.toArray]) w := by
  have h1 := run_loadVar_mid w b 0 ty l d hl hu hd hi
  have h2 := run_loadVar_mid w c 0 tz m e hm hv he hj
  have hp' : tmps[p]?.getD undef = .pointer (some ⟨b, 0, none⟩) := by simpa using hp
  have hq' : tmps[q]?.getD undef = .pointer (some ⟨c, 0, none⟩) := by simpa using hq
  simp [results, h, hp', hq', asAddr, h1, h2]
theorem BoxL.range {w : World} {b : Nat} {l : List Value} (h : BoxL w b l) : w.rangeAt b 0 l := fun j v hv => by rw [Nat.zero_add]; exact (h j v hv).1
theorem setCells_size {b : Nat} : ∀ (vs : List Value) (o : Nat) (v : World), (v.setCells b o vs).heap.size = v.heap.size
  | [], _, _ => rfl
  | x :: vs, o, v => (setCells_size vs (o + 1) _).trans (by simp [World.setCell])
section
variable {ops : Array Oper} {rest : List Oper} {o1 o2 o3 o4 : Oper} {a : Act} {v : World} {Q : Exit → Act → World → Prop} {T S : TypeId} {n m : Nat} {Z Y L M : List Value}
theorem wl_loadP {x : Operand} {y u : Value} (hgd : o1.guard = none) (ho : o1.op = .load T x) (hx : a.eval x = y) (hr : (Instr.loadAt T y).run Try.prog v = .ok u v) (h : wpList Try.prog ops Q rest (a.put o1.dst u) v) : wpList Try.prog ops Q (o1 :: rest) a v := wpList_plain hgd fun _ hK => wp_load ho hx hr (hK _ _ h)
theorem wl_sliceP {x : Operand} {y u : Value} {v' : World} (hgd : o1.guard = none) (ho : o1.op = .buildSlice T 1 #[(0, x)]) (hx : a.eval x = y) (hr : (Instr.buildSlice T 1 #[(0, y)]).run Try.prog v = .ok u v') (h : wpList Try.prog ops Q rest (a.put o1.dst u) v') : wpList Try.prog ops Q (o1 :: rest) a v := wpList_plain hgd fun _ hK => wp_slice1 ho hx hr (hK _ _ h)
end
theorem wl_app {P : Program} {sl : Nat} {ops : Array Oper} {rest : List Oper} {o : Oper} {a : Act} {w w' : World} {Q : Exit → Act → World → Prop} {v y v' : Value} (s z : Operand) (hgd : o.guard = none)
    (ho : o.op = .call { callee := .builtin .append, args := #[s, z], argTypes := #[sl, sl] }) (hs : a.eval s = v) (hz : a.eval z = y) (hr : (Builtin.append_ #[sl, sl] o.type #[v, y]).run P w = .ok v' w') (h : wpList P ops Q rest (a.put o.dst v') w') : wpList P ops Q (o :: rest) a w :=
  wpList_plain hgd fun _ hK => wp_app s z ho hs hz hr (hK _ _ h)
/-- One element is appended onto a slice of the call's own. -/
theorem run_app1 (sl E size : Nat) (hsl : Try.prog.underlying sl = some (.slice E)) (hi : (Try.prog.info? E).map (fun i => (i.zero.map (·.cells.size), i.size, decide (i.bytes ≤ 1000))) = some (some size, size, true)) (hs : 0 < size)
    (w : World) (base : Nat) (ty : TypeId) (v : Value) (n : Nat) (xs : List Value) (hown : w.ownsRow base E size v n xs) (b : Nat) (news : List Value) (hl : news.length = size) (hc : ∀ j u, news[j]? = some u → w.cell? ⟨b, j, none⟩ = some u) (h1 : ∀ u ∈ news, u.oneCell' = true) (hn : n ≤ 1000000) (hbase : base ≤ w.heap.size) :
    ∃ v' w', (Builtin.append_ #[sl, sl] ty #[v, .slice (some ⟨b, 0, none⟩) 1 1]).run Try.prog w = .ok v' w' ∧ w'.ownsRow base E size v' (n + 1) (xs ++ news) ∧ w.grownBy w' v.ownBlock ∧ (v'.ownBlock = v.ownBlock ∨ v'.ownBlock = some w.heap.size) := by
  obtain ⟨i, hi, hz⟩ := Option.map_eq_some_iff.1 hi
  simp only [Prod.mk.injEq, decide_eq_true_eq] at hz
  obtain ⟨hz1, hz2, hz3⟩ := hz
  obtain ⟨z, hz, hzs⟩ := Option.map_eq_some_iff.1 hz1
  obtain ⟨v', w', hr, h3, h4, _, h6⟩ := run_append_own_at (P := Try.prog) w base sl ty E i z size i.bytes hsl hi hz hz2 rfl hzs hs v n xs hown ⟨b, 0, none⟩ 1 1 news (by rw [hl]; omega)
    (fun j u hu => by rw [addr_add, Nat.zero_add]; exact hc j u hu) h1 (by unfold maxLen; omega) (by
      have : (n + 1) * i.bytes ≤ 1000001 * 1000 := Nat.mul_le_mul (by omega) hz3
      omega) hbase
  exact ⟨v', w', hr, h3, h4, h6⟩
theorem wp_seq_cut {P : Program} {c d : Code} {Q : Exit → Act → World → Prop} {a : Act} {w : World} (J0 : Act → World → Prop) (hK : ∀ a w, J0 a w → d.wp P Q a w)
    (h : ∀ (J : Nat → Act → World → Prop) (K : Act → World → Prop), (∀ k a w, J0 a w → J k a w) → (∀ a w, Handed J 1 a w → K a w) → c.wp P (Exit.then K Q) a w) : (c.seq d).wp P Q a w := by
  refine wp_seq ?_
  refine Code.wp_mono (fun e a w h => ?_) (h (fun _ => J0) (fun a w => Handed (fun _ => J0) 1 a w) (fun _ _ _ h => h) (fun _ _ h => h))
  cases e with
  | normal => obtain ⟨n, -, h⟩ := h; exact hK _ _ h
  | exit id => exact h
  | goto l => exact h
  | ret => exact h
  | panic ch => exact h
  | outgrown => exact h

/-! ### Slices of rows -/
/-- A slice of rows of n cells each. -/
structure SlR (w : World) (p : Option Addr) (b off len n : Nat) (L : List (List Value)) : Prop where
  ln : L.length = len
  ptr : 0 < len → p = some ⟨b, off, none⟩
  at_ : ∀ (i : Nat) (r : List Value), L[i]? = some r → r.length = n ∧ ∀ (j : Nat) (v : Value), r[j]? = some v → w.cell? ⟨b, off + i * n + j, none⟩ = some v
  lt : 0 < len → b < w.heap.size
  max : len ≤ 9223372036854775807
theorem SlR.bel {w w1 : World} {p : Option Addr} {b off len n : Nat} {L : List (List Value)} (h : SlR w p b off len n L) (hB : RowKit.Below w.heap.size w w1) : SlR w1 p b off len n L :=
  ⟨h.ln, h.ptr, fun i r hr => ⟨(h.at_ i r hr).1, fun j v hv => (hB.cell (p := ⟨b, off + i * n + j, none⟩) (h.lt (by have := (List.getElem?_eq_some_iff.1 hr).1; have := h.ln; omega))).trans ((h.at_ i r hr).2 j v hv)⟩, fun x => Nat.lt_of_lt_of_le (h.lt x) hB.size, h.max⟩
theorem SlR.of_block {w w1 : World} {p : Option Addr} {b off len n : Nat} {L : List (List Value)} (h : SlR w p b off len n L) (hb : 0 < len → w1.heap[b]? = w.heap[b]?) (hs : w.heap.size ≤ w1.heap.size) : SlR w1 p b off len n L :=
  ⟨h.ln, h.ptr, fun i r hr => ⟨(h.at_ i r hr).1, fun j v hv => (World.cell?_of_block (w := w) (a := ⟨b, off + i * n + j, none⟩) (hb (by have := (List.getElem?_eq_some_iff.1 hr).1; have := h.ln; omega))).trans ((h.at_ i r hr).2 j v hv)⟩, fun x => Nat.lt_of_lt_of_le (h.lt x) hs, h.max⟩
theorem SlR.nil (w : World) (p : Option Addr) (b off n : Nat) : SlR w p b off 0 n [] := ⟨rfl, fun h => by omega, fun i r h => by simp at h, fun h => by omega, by omega⟩

/-! ### Nodes in memory -/
/-- A unit's four cells. -/
def uC (u : U) : List Value := [.bool u.f, .int .i64 u.m, .int .i64 u.a, .int .i64 u.d]
def uV (u : U) : Value := .agg (uC u).toArray
/-- Where a node's operands lie. -/
structure Kd where
  q : Option Addr
  c : Nat
/-- A node's ten cells. -/
def nC : Nd → Kd → List Value
  | .mk op pl nm n d u ks, x => [.int .i64 op, .int .i64 pl, .string (bs nm), .int .i64 n, .int .i64 d, .bool u.f, .int .i64 u.m, .int .i64 u.a, .int .i64 u.d, .slice x.q ks.length x.c]
def nV (t : Nd) (x : Kd) : Value := .agg (nC t x).toArray
theorem nC_len (t : Nd) (x : Kd) : (nC t x).length = 10 := by cases t; rfl
mutual
/-- The operands of a node lie in memory, each with its own operands; A: the blocks that they may lie in. -/
def NdM (w : World) (A : Nat → Prop) : Nd → Kd → Prop
  | .mk _ _ _ _ _ _ ks, x => ∃ b off, (0 < ks.length → x.q = some ⟨b, off, none⟩ ∧ A b ∧ b < w.heap.size) ∧ ks.length ≤ 9223372036854775807 ∧ KdM w A b off ks
def KdM (w : World) (A : Nat → Prop) (b : Nat) : Nat → List Nd → Prop
  | _, [] => True
  | off, k :: ks => (∃ x : Kd, (∀ (j : Nat) (v : Value), (nC k x)[j]? = some v → w.cell? ⟨b, off + j, none⟩ = some v) ∧ NdM w A k x) ∧ KdM w A b (off + 10) ks
end
mutual
theorem NdM.keep {w w1 : World} {A A' : Nat → Prop} (hs : w.heap.size ≤ w1.heap.size) (hB : ∀ j, A j → j < w.heap.size → w1.heap[j]? = w.heap[j]?) (hA : ∀ j, A j → j < w.heap.size → A' j) : ∀ (t : Nd) (x : Kd), NdM w A t x → NdM w1 A' t x
  | .mk op pl nm n d u ks, x, h => by
    simp only [NdM] at h ⊢
    obtain ⟨b, off, h2, hm, h3⟩ := h
    by_cases hk : 0 < ks.length
    · exact ⟨b, off, fun h => ⟨(h2 h).1, hA _ (h2 h).2.1 (h2 h).2.2, Nat.lt_of_lt_of_le (h2 h).2.2 hs⟩, hm, KdM.keep hs hB hA b (h2 hk).2.1 (h2 hk).2.2 off ks h3⟩
    · have : ks = [] := List.length_eq_zero_iff.1 (by omega)
      subst this
      exact ⟨b, off, fun h => absurd h hk, hm, by simp only [KdM]⟩
theorem KdM.keep {w w1 : World} {A A' : Nat → Prop} (hs : w.heap.size ≤ w1.heap.size) (hB : ∀ j, A j → j < w.heap.size → w1.heap[j]? = w.heap[j]?) (hA : ∀ j, A j → j < w.heap.size → A' j) (b : Nat) (hb0 : A b) (hb : b < w.heap.size) : ∀ (off : Nat) (ks : List Nd), KdM w A b off ks → KdM w1 A' b off ks
  | _, [], _ => by simp only [KdM]
  | off, k :: ks, h => by
    simp only [KdM] at h ⊢
    obtain ⟨⟨x, h1, h2⟩, h3⟩ := h
    exact ⟨⟨x, fun j v hv => (World.cell?_of_block (w := w) (a := ⟨b, off + j, none⟩) (hB b hb0 hb)).trans (h1 j v hv), NdM.keep hs hB hA k x h2⟩, KdM.keep hs hB hA b hb0 hb (off + 10) ks h3⟩
end
theorem NdM.bel {w w1 : World} {A : Nat → Prop} (hB : RowKit.Below w.heap.size w w1) {t : Nd} {x : Kd} (h : NdM w A t x) : NdM w1 A t x := NdM.keep hB.size (fun j _ hj => hB.block j hj) (fun _ h _ => h) t x h
/-- An operand by its number. -/
theorem KdM.get {w : World} {A : Nat → Prop} {b : Nat} : ∀ {ks : List Nd} {off : Nat}, KdM w A b off ks → ∀ (i : Nat) (h : i < ks.length), ∃ x : Kd, (∀ (j : Nat) (v : Value), (nC ks[i] x)[j]? = some v → w.cell? ⟨b, off + i * 10 + j, none⟩ = some v) ∧ NdM w A ks[i] x
  | [], _, _, i, h => absurd h (Nat.not_lt_zero _)
  | k :: ks, off, h, i, hi => by
    simp only [KdM] at h
    cases i with
    | zero => simpa using h.1
    | succ i =>
      obtain ⟨x, h1, h2⟩ := KdM.get h.2 i (by simpa using hi)
      refine ⟨x, fun j v hv => ?_, h2⟩
      have := h1 j v hv
      rwa [show off + 10 + i * 10 + j = off + (i + 1) * 10 + j by omega] at this
end Go.Proofs.Ytjifiijgghpniaa
/-
  Contracts of units and its reference: what is a name, a basic unit.
-/
namespace Go.Proofs.Ytjifiijgghpniaa
open Go.RowKit Un

theorem uisLetter_any (c : UInt8) (w : World) : Calls Try.prog 80 #[.int .u8 c.toNat] w fun e w' => e = .returned (.bool (letter c)) ∧ w' = w := by
  unfold letter
  by_cases h1 : 97 ≤ c.toNat
  · have e1 : (97 : Int) ≤ (c.toNat : Int) := by omega
    by_cases h2 : c.toNat ≤ 122
    · have e2 : (c.toNat : Int) ≤ 122 := by omega
      go_enter Try.func80, Try.ntmps80
      go_wp2_with fail
      go_ret
      exact ⟨ret_bool (by first | (simp; done) | (simp; omega)), rfl⟩
    · have e2 : ¬ (c.toNat : Int) ≤ 122 := by omega
      go_enter Try.func80, Try.ntmps80
      go_wp2_with fail
      go_ret
      exact ⟨ret_bool (by first | (simp; done) | (simp; omega)), rfl⟩
  · have e1 : ¬ (97 : Int) ≤ (c.toNat : Int) := by omega
    go_enter Try.func80, Try.ntmps80
    go_wp2_with fail
    go_ret
    exact ⟨ret_bool (by first | (simp; done) | (simp; omega)), rfl⟩
theorem uisDigit_any (c : UInt8) (w : World) : Calls Try.prog 82 #[.int .u8 c.toNat] w fun e w' => e = .returned (.bool (digit c)) ∧ w' = w := by
  unfold digit
  by_cases h1 : 48 ≤ c.toNat
  · have e1 : (48 : Int) ≤ (c.toNat : Int) := by omega
    by_cases h2 : c.toNat ≤ 57
    · have e2 : (c.toNat : Int) ≤ 57 := by omega
      go_enter Try.func82, Try.ntmps82
      go_wp2_with fail
      go_ret
      exact ⟨ret_bool (by first | (simp; done) | (simp; omega)), rfl⟩
    · have e2 : ¬ (c.toNat : Int) ≤ 57 := by omega
      go_enter Try.func82, Try.ntmps82
      go_wp2_with fail
      go_ret
      exact ⟨ret_bool (by first | (simp; done) | (simp; omega)), rfl⟩
  · have e1 : ¬ (48 : Int) ≤ (c.toNat : Int) := by omega
    go_enter Try.func82, Try.ntmps82
    go_wp2_with fail
    go_ret
    exact ⟨ret_bool (by first | (simp; done) | (simp; omega)), rfl⟩
set_option maxRecDepth 100000 in
set_option maxHeartbeats 4000000 in
theorem ureserved_any (x : List UInt8) (w : World) : Calls Try.prog 81 #[.string (bs x)] w fun e w' => e = .returned (.bool (reserved.contains x)) ∧ w' = w := by
  go_enter Try.func81, Try.ntmps81
  go_wp2_with fail
  all_goals
    go_ret
    refine ⟨ret_bool ?_, rfl⟩
    simp_all only [bs_list, beq_iff_eq, beq_eq_false_iff_ne, ne_eq]
    first | rfl | simp_all [reserved]
/-- What walks use of a string: its bytes as a list. -/
structure StX (s : ByteArray) (x : List UInt8) : Prop where
  ls : s.toList = x
  sz : s.size = x.length
  at_ : ∀ (i : Nat) (h : i < s.size), s[i] = x.getD i 0
theorem StX.mk' (x : List UInt8) : StX (bs x) x := ⟨bs_list x, bs_size x, fun i h => by
  have h' : i < x.length := by rw [← bs_size x]; exact h
  have := ByteArray.getElem_eq_getElem_data (a := bs x) (i := i) (h := h)
  rw [List.getD_eq_getElem?_getD, List.getElem?_eq_getElem h', this]
  simp [bs]⟩
theorem letter_in {c : UInt8} (h : letter c = true) : inName c = true := by unfold inName; rw [h]; rfl
set_option maxRecDepth 100000 in
set_option maxHeartbeats 4000000 in
theorem uisName_any (x : List UInt8) (w : World) : Calls Try.prog 58 #[.string (bs x)] w fun e w' => e = .returned (.bool (isName x)) ∧ w' = w := by
  obtain ⟨R, hR⟩ : ∃ R, R = isName x := ⟨_, rfl⟩
  obtain ⟨s, hs⟩ : ∃ s, s = bs x := ⟨_, rfl⟩
  have hX : StX s x := by rw [hs]; exact StX.mk' x
  have KR : Hid (∀ w, Calls Try.prog 81 #[.string s] w fun e w' => e = .returned (.bool (reserved.contains x)) ∧ w' = w) := by rw [hs]; exact fun w => ureserved_any x w
  rw [← hR, ← hs]
  obtain ⟨ls, sz, at_⟩ := hX
  have HA := Lib.hid at_
  clear hs at_
  have KL := Lib.hid uisLetter_any
  have KD := Lib.hid uisDigit_any
  have HR := Lib.hid hR
  clear hR
  cases x with
  | nil =>
    have e1 : (s.toList == []) = true := by rw [ls]; rfl
    obtain rfl : R = false := HR.out
    clear ls
    go_enter Try.func58, Try.ntmps58
    go_wp2_with fail
    go_ret
    exact ⟨rfl, rfl⟩
  | cons c r =>
    have e1 : (s.toList == []) = false := by rw [ls]; rfl
    have hpos : 0 < s.size := by rw [sz]; simp
    by_cases hl : r.length + 1 ≤ 16
    · have e2 : ¬ (16 : Int) < (s.size : Int) := by rw [sz]; simp; omega
      cases h3 : letter c with
      | false =>
        have HRF : Hid (R = false) := by show _ = _; rw [HR.out]; simp [isName, h3]
        have hc : s[0] = c := HA.out 0 hpos
        clear ls
        go_enter Try.func58, Try.ntmps58
        go_wp2_with fail
        refine (KL.out c _).mono ?_
        rintro _ w1 ⟨rfl, hw⟩
        obtain rfl := hw.symm
        rw [h3]
        go_wp2_with fail
        go_ret
        exact ⟨ret_bool HRF.out.symm, rfl⟩
      | true =>
        cases h4 : reserved.contains (c :: r) with
        | true =>
          have HRF : Hid (R = false) := by show _ = _; rw [HR.out]; simp only [isName, h4, Bool.not_true, Bool.and_false]
          have hc : s[0] = c := HA.out 0 hpos
          clear ls
          go_enter Try.func58, Try.ntmps58
          go_wp2_with fail
          refine (KL.out c _).mono ?_
          rintro _ w1 ⟨rfl, hw⟩
          obtain rfl := hw.symm
          rw [h3]
          go_wp2_with fail
          refine (KR.out _).mono ?_
          rintro _ w1 ⟨rfl, hw⟩
          obtain rfl := hw.symm
          rw [h4]
          go_wp2_with fail
          go_ret
          exact ⟨ret_bool HRF.out.symm, rfl⟩
        | false =>
          have HRF : Hid (R = (c :: r).all inName) := by
            show _ = _
            rw [HR.out]
            simp only [isName, h3, h4, decide_eq_true hl, Bool.not_false, Bool.and_true, Bool.true_and, List.all_cons, letter_in h3]
          have hc : s[0] = c := HA.out 0 hpos
          have hs17 : s.size ≤ 16 := by rw [sz]; simpa using hl
          obtain ⟨n, hn⟩ : ∃ n, s.size = n := ⟨_, rfl⟩
          have HXL : Hid ((c :: r).length = n) := by show _ = _; rw [← hn, sz]
          rw [hn] at hs17 hpos e2
          have HN := Lib.hid hn
          clear ls HR sz
          generalize c :: r = x at *
          go_enter Try.func58, Try.ntmps58
          go_wp2_with fail
          refine (KL.out c _).mono ?_
          rintro _ w1 ⟨rfl, hw⟩
          obtain rfl := hw.symm
          rw [h3]
          go_wp2_with fail
          refine (KR.out _).mono ?_
          rintro _ w1 ⟨rfl, hw⟩
          obtain rfl := hw.symm
          rw [h4]
          go_wp2_with fail
          clear hc h3 h4 KR hpos e1 e2 hl hn
          go_loopg [24] n (fun g s24 wr => ∃ k : Nat, s24 = .int .i64 (k : Nat) ∧ k ≤ n ∧ n - k ≤ g ∧ Hid (∀ i, i < k → inName (x.getD i 0) = true) ∧ wr = w)
          case atStart => exact ⟨0, rfl, by omega, by omega, fun i h => absurd h (Nat.not_lt_zero _), rfl⟩
          case round =>
            obtain ⟨k, rfl, hk, hg, HI, hw⟩ := hrel
            subst hw
            by_cases hkn : k < n
            · have hz : (k : Int) < (n : Int) := by omega
              have hks : k < s.size := by rw [HN.out]; exact hkn
              have hk1 : IntKind.i64.wrap ((k : Int) + 1) = ((k + 1 : Nat) : Int) := by rw [IntWalk.i64_in _ (by omega)]; rfl
              have hb : s[k] = x.getD k 0 := HA.out k hks
              obtain ⟨ch, hch⟩ : ∃ ch, ch = x.getD k 0 := ⟨_, rfl⟩
              rw [← hch] at hb
              have HCH := Lib.hid hch
              clear hch
              cases hL : letter ch with
              | true =>
                go_wp2_with fail
                refine (KL.out ch _).mono ?_
                rintro _ w1 ⟨rfl, hw⟩
                obtain rfl := hw.symm
                rw [hL]
                go_wp2_with fail
                go_roundg (n - (k + 1))
                case measure => omega
                case rel => exact ⟨k + 1, rfl, by omega, Nat.le_refl _, (fun i hi => by
                  by_cases e : i = k
                  · rw [e, ← HCH.out]; exact letter_in hL
                  · exact HI.out i (by omega)), rfl⟩
              | false =>
                cases hD : digit ch with
                | true =>
                  go_wp2_with fail
                  refine (KL.out ch _).mono ?_
                  rintro _ w1 ⟨rfl, hw⟩
                  obtain rfl := hw.symm
                  rw [hL]
                  go_wp2_with fail
                  refine (KD.out ch _).mono ?_
                  rintro _ w1 ⟨rfl, hw⟩
                  obtain rfl := hw.symm
                  rw [hD]
                  go_wp2_with fail
                  go_roundg (n - (k + 1))
                  case measure => omega
                  case rel => exact ⟨k + 1, rfl, by omega, Nat.le_refl _, (fun i hi => by
                    by_cases e : i = k
                    · rw [e, ← HCH.out]; unfold inName; rw [hL, hD]; rfl
                    · exact HI.out i (by omega)), rfl⟩
                | false =>
                  by_cases h95 : ch = 95
                  · subst h95
                    go_wp2_with fail
                    refine (KL.out 95 _).mono ?_
                    rintro _ w1 ⟨rfl, hw⟩
                    obtain rfl := hw.symm
                    rw [hL]
                    go_wp2_with fail
                    refine (KD.out 95 _).mono ?_
                    rintro _ w1 ⟨rfl, hw⟩
                    obtain rfl := hw.symm
                    rw [hD]
                    go_wp2_with fail
                    go_roundg (n - (k + 1))
                    case measure => omega
                    case rel => exact ⟨k + 1, rfl, by omega, Nat.le_refl _, (fun i hi => by
                      by_cases e : i = k
                      · rw [e, ← HCH.out]; rfl
                      · exact HI.out i (by omega)), rfl⟩
                  · have e95 : ((ch.toNat : Int) != 95) = true := by
                      have : ch.toNat ≠ 95 := fun e => h95 (UInt8.toNat_inj.1 e)
                      simp; omega
                    have HRR : Hid (R = false) := by
                      show _ = _
                      rw [HRF.out, List.all_eq_false]
                      refine ⟨ch, ?_, ?_⟩
                      · rw [HCH.out, List.getD_eq_getElem?_getD, List.getElem?_eq_getElem (by rw [HXL.out]; omega)]
                        exact List.getElem_mem _
                      · unfold inName
                        rw [hL, hD]
                        simpa using h95
                    go_wp2_with fail
                    refine (KL.out ch _).mono ?_
                    rintro _ w1 ⟨rfl, hw⟩
                    obtain rfl := hw.symm
                    rw [hL]
                    go_wp2_with fail
                    refine (KD.out ch _).mono ?_
                    rintro _ w1 ⟨rfl, hw⟩
                    obtain rfl := hw.symm
                    rw [hD]
                    go_wp2_with fail
                    go_ret
                    exact ⟨ret_bool HRR.out.symm, rfl⟩
            · have hz : ¬ (k : Int) < (n : Int) := by omega
              have HRT : Hid (R = true) := by
                show _ = _
                rw [HRF.out, List.all_eq_true]
                intro y hy
                obtain ⟨i, hi, rfl⟩ := List.getElem_of_mem hy
                have := HI.out i (by have := HXL.out; omega)
                rwa [List.getD_eq_getElem?_getD, List.getElem?_eq_getElem hi] at this
              go_wp2_with fail
              go_ret
              exact ⟨ret_bool HRT.out.symm, rfl⟩
    · have e2 : (16 : Int) < (s.size : Int) := by rw [sz]; simp; omega
      have HRF : Hid (R = false) := by show _ = _; rw [HR.out]; simp only [isName, decide_eq_false hl, Bool.false_and]
      clear ls
      go_enter Try.func58, Try.ntmps58
      go_wp2_with fail
      go_ret
      exact ⟨ret_bool HRF.out.symm, rfl⟩
end Go.Proofs.Ytjifiijgghpniaa
/-
  Plain mathematics of reduced fractions: what 'reduce' gives for n divided by d, and that it is the one number with that value. No program, no model.
-/
namespace Go.Proofs.Ytjifiijgghpniaa
namespace Q

/-- What is in lowest terms and within the limits. -/
def Val (n d : Int) : Prop := -1000000000 ≤ n ∧ n ≤ 1000000000 ∧ 1 ≤ d ∧ d ≤ 1000000000 ∧ Nat.gcd n.natAbs d.natAbs = 1

/-- n divided by d in lowest terms, if it lies within the limits. -/
def red (n d : Int) : Option (Int × Int) :=
  if n.natAbs / Nat.gcd n.natAbs d.natAbs > 1000000000 ∨ d.natAbs / Nat.gcd n.natAbs d.natAbs > 1000000000 then none
  else if n < 0 ↔ d < 0 then some (((n.natAbs / Nat.gcd n.natAbs d.natAbs : Nat) : Int), ((d.natAbs / Nat.gcd n.natAbs d.natAbs : Nat) : Int))
  else some (-((n.natAbs / Nat.gcd n.natAbs d.natAbs : Nat) : Int), ((d.natAbs / Nat.gcd n.natAbs d.natAbs : Nat) : Int))

theorem parts (n d : Int) (hd : d ≠ 0) : ∃ g x y : Nat, 0 < g ∧ g = Nat.gcd n.natAbs d.natAbs ∧ n.natAbs = x * g ∧ d.natAbs = y * g ∧ Nat.gcd x y = 1 ∧ 0 < y ∧
    n.natAbs / Nat.gcd n.natAbs d.natAbs = x ∧ d.natAbs / Nat.gcd n.natAbs d.natAbs = y := by
  have hg : 0 < Nat.gcd n.natAbs d.natAbs := Nat.gcd_pos_of_pos_right _ (by omega)
  obtain ⟨x, hx⟩ := Nat.gcd_dvd_left n.natAbs d.natAbs
  obtain ⟨y, hy⟩ := Nat.gcd_dvd_right n.natAbs d.natAbs
  have ex : n.natAbs / Nat.gcd n.natAbs d.natAbs = x := Nat.div_eq_of_eq_mul_right hg hx
  have ey : d.natAbs / Nat.gcd n.natAbs d.natAbs = y := Nat.div_eq_of_eq_mul_right hg hy
  refine ⟨_, x, y, hg, rfl, by rw [Nat.mul_comm]; exact hx, by rw [Nat.mul_comm]; exact hy, ?_, ?_, ex, ey⟩
  · have h := Nat.gcd_mul_left (Nat.gcd n.natAbs d.natAbs) x y
    rw [← hx, ← hy] at h
    have h1 : Nat.gcd n.natAbs d.natAbs * Nat.gcd x y = Nat.gcd n.natAbs d.natAbs * 1 := by rw [← h, Nat.mul_one]
    exact Nat.eq_of_mul_eq_mul_left hg h1
  · rcases Nat.eq_zero_or_pos y with h | h
    · rw [h] at hy; omega
    · exact h

theorem red_val {n d p q : Int} (hd : d ≠ 0) (h : red n d = some (p, q)) : Val p q ∧ n * q = p * d := by
  obtain ⟨g, x, y, hg, _, hx, hy, hxy, hy0, ex, ey⟩ := parts n d hd
  unfold red at h
  rw [ex, ey] at h
  split at h
  · cases h
  · rename_i hle
    have hn : n = x * g ∨ n = -((x : Int) * g) := by
      have : ((x * g : Nat) : Int) = (x : Int) * g := Int.natCast_mul x g
      omega
    have hd' : d = y * g ∨ d = -((y : Int) * g) := by
      have : ((y * g : Nat) : Int) = (y : Int) * g := Int.natCast_mul y g
      omega
    have hgz : (0 : Int) < g := by omega
    have hyz : (0 : Int) < y := by omega
    have hxz : (0 : Int) ≤ x := by omega
    have hyg : (0 : Int) < (y : Int) * g := Int.mul_pos hyz hgz
    have hxg : (0 : Int) ≤ (x : Int) * g := Int.mul_nonneg hxz (by omega)
    split at h
    · rename_i hs
      obtain ⟨rfl, rfl⟩ : (x : Int) = p ∧ (y : Int) = q := by simpa using h
      refine ⟨⟨by omega, by omega, by omega, by omega, by simpa using hxy⟩, ?_⟩
      rcases hn with hn | hn <;> rcases hd' with hd' | hd'
      · rw [hn, hd']; grind
      · exfalso; have h1 : ¬ n < 0 := by omega
        have h2 : d < 0 := by omega
        exact h1 (hs.2 h2)
      · by_cases hx0 : (x : Int) = 0
        · rw [hn, hx0]; simp
        · exfalso
          have : (0 : Int) < (x : Int) * g := Int.mul_pos (by omega) hgz
          have h1 : n < 0 := by omega
          have h2 : ¬ d < 0 := by omega
          exact h2 (hs.1 h1)
      · rw [hn, hd']; grind
    · rename_i hs
      obtain ⟨rfl, rfl⟩ : -(x : Int) = p ∧ (y : Int) = q := by simpa using h
      refine ⟨⟨by omega, by omega, by omega, by omega, by simpa using hxy⟩, ?_⟩
      rcases hn with hn | hn <;> rcases hd' with hd' | hd'
      · exfalso; exact hs ⟨fun _ => by omega, fun _ => by omega⟩
      · rw [hn, hd']; grind
      · rw [hn, hd']; grind
      · by_cases hx0 : (x : Int) = 0
        · rw [hn, hx0]; simp
        · exfalso
          have : (0 : Int) < (x : Int) * g := Int.mul_pos (by omega) hgz
          exact hs ⟨fun _ => by omega, fun _ => by omega⟩

theorem red_of {n d p q : Int} (hd : d ≠ 0) (hv : Val p q) (h : n * q = p * d) : red n d = some (p, q) := by
  obtain ⟨v1, v2, v3, v4, v5⟩ := hv
  have e : n.natAbs * q.natAbs = p.natAbs * d.natAbs := by rw [← Int.natAbs_mul, ← Int.natAbs_mul, h]
  have hq : q.natAbs ∣ d.natAbs := by
    have h1 : q.natAbs ∣ p.natAbs * d.natAbs := ⟨n.natAbs, by rw [← e, Nat.mul_comm]⟩
    exact Nat.Coprime.dvd_of_dvd_mul_left (by rw [Nat.Coprime, Nat.gcd_comm]; exact v5) h1
  obtain ⟨k, hk⟩ := hq
  have hk0 : 0 < k := by
    rcases Nat.eq_zero_or_pos k with h | h
    · rw [h] at hk; omega
    · exact h
  have hn : n.natAbs = p.natAbs * k := by
    have : n.natAbs * q.natAbs = (p.natAbs * k) * q.natAbs := by rw [e, hk]; grind
    exact Nat.eq_of_mul_eq_mul_right (by omega) this
  have hg : Nat.gcd n.natAbs d.natAbs = k := by
    rw [hn, hk, Nat.gcd_mul_right, v5, Nat.one_mul]
  have ex : n.natAbs / Nat.gcd n.natAbs d.natAbs = p.natAbs := by rw [hg, hn]; exact Nat.mul_div_cancel _ hk0
  have ey : d.natAbs / Nat.gcd n.natAbs d.natAbs = q.natAbs := by rw [hg, hk]; exact Nat.mul_div_cancel _ hk0
  unfold red
  rw [ex, ey, if_neg (by omega)]
  have hqz : (q.natAbs : Int) = q := by omega
  have hq0 : 0 < q := by omega
  rcases Int.lt_trichotomy p 0 with hp | hp | hp
  · have hs : ¬ (n < 0 ↔ d < 0) := by
      intro hs
      rcases Int.lt_trichotomy d 0 with h1 | h1 | h1
      · have a := Int.mul_pos_of_neg_of_neg hp h1
        have b := Int.mul_neg_of_neg_of_pos (hs.2 h1) hq0
        omega
      · exact hd h1
      · have a := Int.mul_neg_of_neg_of_pos hp h1
        have h2 : ¬ n < 0 := fun x => by have := hs.1 x; omega
        have b := Int.mul_nonneg (by omega : 0 ≤ n) (by omega : 0 ≤ q)
        omega
    rw [if_neg hs]
    simp only [Option.some.injEq, Prod.mk.injEq]; omega
  · subst hp
    split <;> (simp only [Option.some.injEq, Prod.mk.injEq]; omega)
  · have hs : n < 0 ↔ d < 0 := by
      rcases Int.lt_trichotomy d 0 with h1 | h1 | h1
      · refine ⟨fun _ => h1, fun _ => ?_⟩
        have a := Int.mul_neg_of_pos_of_neg hp h1
        rcases Int.lt_or_le n 0 with h2 | h2
        · exact h2
        · have b := Int.mul_nonneg h2 (by omega : 0 ≤ q); omega
      · exact absurd h1 hd
      · refine ⟨fun h2 => ?_, fun h2 => by omega⟩
        have a := Int.mul_pos hp h1
        have b := Int.mul_neg_of_neg_of_pos h2 hq0
        omega
    rw [if_pos hs]
    simp only [Option.some.injEq, Prod.mk.injEq]; omega

/-- Two numbers in lowest terms with one value are one. -/
theorem val_one {p q r s : Int} (h1 : Val p q) (h2 : Val r s) (h : p * s = r * q) : p = r ∧ q = s := by
  have a := red_of (n := p) (d := q) (by have := h1.2.2.1; omega) h1 rfl
  have b := red_of (n := p) (d := q) (by have := h1.2.2.1; omega) h2 h
  rw [a] at b
  simpa using b

/-- What is multiplied above and below has the same reduced form. -/
theorem red_mul {n d k : Int} (hd : d ≠ 0) (hk : k ≠ 0) : red (k * n) (k * d) = red n d := by
  have hkd : k * d ≠ 0 := Int.mul_ne_zero hk hd
  cases h : red n d with
  | some r =>
    obtain ⟨p, q⟩ := r
    obtain ⟨hv, e⟩ := red_val hd h
    exact red_of hkd hv (by grind)
  | none =>
    cases h' : red (k * n) (k * d) with
    | none => rfl
    | some r =>
      obtain ⟨p, q⟩ := r
      obtain ⟨hv, e⟩ := red_val hkd h'
      have : n * q = p * d := Int.eq_of_mul_eq_mul_left hk (by grind)
      rw [red_of hd hv this] at h; cases h

/-! The sums of three numbers. -/
theorem sub_add {an ad bn bd p q : Int} (ha : Val an ad) (hb : Val bn bd) (h : red (an * bd + bn * ad) (ad * bd) = some (p, q)) : red (p * bd - bn * q) (q * bd) = some (an, ad) := by
  have h1 := ha.2.2.1
  have h2 := hb.2.2.1
  obtain ⟨hv, e⟩ := red_val (Int.mul_ne_zero (by omega) (by omega)) h
  have h3 := hv.2.2.1
  exact red_of (Int.mul_ne_zero (by omega) (by omega)) ha (by grind)

theorem add_assoc {an ad bn bd cn cd p q r s t u v x : Int} (ha : Val an ad) (hb : Val bn bd) (hc : Val cn cd)
    (h1 : red (an * bd + bn * ad) (ad * bd) = some (p, q)) (h2 : red (bn * cd + cn * bd) (bd * cd) = some (r, s))
    (h3 : red (p * cd + cn * q) (q * cd) = some (t, u)) (h4 : red (an * s + r * ad) (ad * s) = some (v, x)) : t = v ∧ u = x := by
  have a0 := ha.2.2.1
  have b0 := hb.2.2.1
  have c0 := hc.2.2.1
  obtain ⟨v1, e1⟩ := red_val (Int.mul_ne_zero (by omega) (by omega)) h1
  have q0 := v1.2.2.1
  obtain ⟨v2, e2⟩ := red_val (Int.mul_ne_zero (by omega) (by omega)) h2
  have s0 := v2.2.2.1
  obtain ⟨v3, e3⟩ := red_val (Int.mul_ne_zero (by omega) (by omega)) h3
  have u0 := v3.2.2.1
  obtain ⟨v4, e4⟩ := red_val (Int.mul_ne_zero (by omega) (by omega)) h4
  have x0 := v4.2.2.1
  refine val_one v3 v4 ?_
  have k1 : t * (ad * bd * cd) = (an * bd * cd + bn * ad * cd + cn * ad * bd) * u := Int.eq_of_mul_eq_mul_left (a := q) (by omega) (by grind)
  have k2 : v * (ad * bd * cd) = (an * bd * cd + bn * ad * cd + cn * ad * bd) * x := Int.eq_of_mul_eq_mul_left (a := s) (by omega) (by grind)
  have hD : ad * bd * cd ≠ 0 := Int.mul_ne_zero (Int.mul_ne_zero (by omega) (by omega)) (by omega)
  exact Int.eq_of_mul_eq_mul_left hD (by grind)
end Q
end Go.Proofs.Ytjifiijgghpniaa
/-
  Which pairs are numbers: rational and its reference (out of wip/rational).
-/
namespace Go.Proofs.Ytjifiijgghpniaa
open Go.RowKit

theorem ret_u64 {a b : Int} (h : a = b) : Ending.returned (.int .u64 a) = .returned (.int .u64 b) := by rw [h]

theorem ret_agg2 {k l : IntKind} {a b c d : Int} (h : a = c) (h' : b = d) : Ending.returned (.agg #[.int k a, .int l b]) = .returned (.agg #[.int k c, .int l d]) := by rw [h, h']

/-- An integer without its sign. -/
def mag (n : Int) : Nat := n.natAbs
/-- The greatest common divisor. -/
def gd (a b : Nat) : Nat := Nat.gcd a b
theorem mag_lt {n : Int} (h0 : -9223372036854775808 ≤ n) (h1 : n ≤ 9223372036854775807) : mag n < 18446744073709551616 := by unfold mag; omega

set_option maxHeartbeats 400000 in
theorem size_any (n : Int) (w : World) (h0 : -9223372036854775808 ≤ n) (h1 : n ≤ 9223372036854775807) :
    Calls Try.prog 102 #[.int .i64 n] w fun e w' => e = .returned (.int .u64 (mag n)) ∧ w' = w := by
  by_cases h : n < 0
  · go_enter Try.func102, Try.ntmps102
    go_wp2
    go_ret
    exact ⟨ret_u64 (by rw [IntKind.wrap_u64, IntKind.wrap_u64]; unfold mag; omega), rfl⟩
  · go_enter Try.func102, Try.ntmps102
    go_wp2
    go_ret
    exact ⟨ret_u64 (by unfold mag; omega), rfl⟩

set_option maxHeartbeats 400000 in
theorem divisor_any (a b : Nat) (w : World) (ha : a < 18446744073709551616) (hb : b < 18446744073709551616) :
    Calls Try.prog 101 #[.int .u64 a, .int .u64 b] w fun e w' => e = .returned (.int .u64 (gd a b)) ∧ ∃ n, w' = w.drewN n := by
  go_enter Try.func101, Try.ntmps101
  go_wp2
  go_step3
  go_wp2
  go_step3
  go_wp2
  go_loopg [0, 1] b (fun k x y wr => ∃ a' b' : Nat, a' < 18446744073709551616 ∧ b' ≤ k ∧ b' < 18446744073709551616 ∧ x = .int .u64 a' ∧ y = .int .u64 b' ∧ Nat.gcd a' b' = Nat.gcd a b ∧ ∃ n, wr = w.drewN n)
  case atStart => exact ⟨a, b, ha, Nat.le_refl _, hb, rfl, rfl, rfl, 0, rfl⟩
  case round =>
    obtain ⟨a', b', ha', hk, hb', rfl, rfl, hg, n, rfl⟩ := hrel
    have HG := Lib.hid hg
    clear hg
    by_cases h : b' = 0
    · subst h
      go_wp2
      rw [Exit.noGoto_ret]
      go_ret
      exact ⟨ret_u64 (by unfold gd; rw [← HG.out, Nat.gcd_zero_right]), n, rfl⟩
    · have hz : ((b' : Int) == 0) = false := by simp; omega
      go_wp2
      go_quiet (fail)
      go_wp2
      rename_i nq _
      go_roundg (b' - 1)
      case measure => omega
      case rel =>
        have hm := Nat.mod_lt a' (show 0 < b' by omega)
        refine ⟨b', a' % b', hb', by omega, by omega, rfl, ?_, ?_, ?_⟩
        · rw [Int.natCast_emod]
        · rw [← HG.out, Nat.gcd_comm b', ← Nat.gcd_rec, Nat.gcd_comm]
        · exact ⟨n + nq, by rw [World.drewN_drewN]⟩

theorem bodyPost_panic {P : Program} {fn : Func} {R : Ending → World → Prop} {a : Act} {w : World} {c : List PanicEntry} (hd : a.defers = []) (h : R (.panicked c) w) : bodyPost P fn R (.panic c) a w := ⟨hd, h⟩

/-- The facts that 'reduce' walks by: the two quotients. -/
structure Halved (n d : Int) (x y : Nat) : Prop where
  n0 : -9223372036854775808 ≤ n
  n1 : n ≤ 9223372036854775807
  d0 : -9223372036854775808 ≤ d
  d1 : d ≤ 9223372036854775807
  g0 : 0 < gd (mag n) (mag d)
  ex : mag n / gd (mag n) (mag d) = x
  ey : mag d / gd (mag n) (mag d) = y

/-- What Make gives: numerator, denominator, error. -/
def mk (n d : Int) : Int × Int × Int := if d = 0 then (0, 0, 7) else match Q.red n d with | some (p, q) => (p, q, 0) | none => (0, 0, 3)



set_option maxHeartbeats 400000 in
theorem rsize_any (n : Int) (w : World) (h0 : -9223372036854775808 ≤ n) (h1 : n ≤ 9223372036854775807) :
    Calls Try.prog 100 #[.int .i64 n] w fun e w' => e = .returned (.int .u64 (mag n)) ∧ w' = w := by
  by_cases h : n < 0
  · go_enter Try.func100, Try.ntmps100
    go_wp2
    go_ret
    exact ⟨ret_u64 (by unfold mag; omega), rfl⟩
  · go_enter Try.func100, Try.ntmps100
    go_wp2
    go_ret
    exact ⟨ret_u64 (by unfold mag; omega), rfl⟩

set_option maxHeartbeats 400000 in
theorem common_any (a b : Nat) (w : World) (ha : a < 18446744073709551616) (hb : b < 18446744073709551616) :
    Calls Try.prog 99 #[.int .u64 a, .int .u64 b] w fun e w' => e = .returned (.int .u64 (gd a b)) ∧ w' = w := by
  go_enter Try.func99, Try.ntmps99
  go_wp2
  go_loopg [0, 1] b (fun k x y wr => ∃ a' b' : Nat, a' < 18446744073709551616 ∧ b' ≤ k ∧ b' < 18446744073709551616 ∧ x = .int .u64 a' ∧ y = .int .u64 b' ∧ Nat.gcd a' b' = Nat.gcd a b ∧ wr = w)
  case atStart => exact ⟨a, b, ha, Nat.le_refl _, hb, rfl, rfl, rfl, rfl⟩
  case round =>
    obtain ⟨a', b', ha', hk, hb', rfl, rfl, hg, rfl⟩ := hrel
    have HG := Lib.hid hg
    clear hg
    by_cases h : b' = 0
    · subst h
      go_wp2
      go_ret
      exact ⟨ret_u64 (by unfold gd; rw [← HG.out, Nat.gcd_zero_right]), rfl⟩
    · have hz : ((b' : Int) == 0) = false := by simp; omega
      have hz' : ((b' : Int) != 0) = true := by simp; omega
      go_wp2
      go_roundg (b' - 1)
      case measure => omega
      case rel =>
        have hm := Nat.mod_lt a' (show 0 < b' by omega)
        refine ⟨b', a' % b', hb', by omega, by omega, rfl, ?_, ?_, rfl⟩
        · rw [Int.natCast_emod]
        · rw [← HG.out, Nat.gcd_comm b', ← Nat.gcd_rec, Nat.gcd_comm]

set_option maxRecDepth 100000 in
set_option maxHeartbeats 400000 in
theorem rmake_zero (n : Int) (w : World) : Calls Try.prog 89 #[.int .i64 n, .int .i64 0] w fun e w' =>
    e = .returned (.tuple #[.agg #[.int .i64 0, .int .i64 0], .int .i64 7]) ∧ Below w.heap.size w w' := by
  go_enter Try.func89, Try.ntmps89
  go_wp2
  exact bodyPost_ret (v := .tuple #[.agg #[.int .i64 0, .int .i64 0], .int .i64 7]) (by simp [results, Try.results89, go_sem]) rfl ⟨rfl, (by repeat' (first | exact Below.refl _ _ | refine Below.setCell ?_ (by first | omega | (simp; done) | (simp; omega)) _ | refine below_drewN ?_ _ | refine Below.alloc ?_ (by first | omega | (simp; done) | (simp; omega)) _))⟩

set_option maxRecDepth 100000 in
set_option maxHeartbeats 400000 in
theorem rmake_pos (n d : Int) (x y : Nat) (w : World) (hd0 : (d == 0) = false) (h : Halved n d x y) (hx : x ≤ 1000000000) (hy : y ≤ 1000000000) (hs : n < 0 ↔ d < 0) :
    Calls Try.prog 89 #[.int .i64 n, .int .i64 d] w fun e w' => e = .returned (.tuple #[.agg #[.int .i64 x, .int .i64 y], .int .i64 0]) ∧ Below w.heap.size w w' := by
  obtain ⟨n0, n1, d0, d1, g0, ex, ey⟩ := h
  have hX := mag_lt n0 n1
  have hY := mag_lt d0 d1
  have hz : ((gd (mag n) (mag d) : Int) == 0) = false := by simp; omega
  have ex' : (mag n : Int) / (gd (mag n) (mag d) : Int) = (x : Int) := by rw [← ex]; exact (Int.natCast_ediv _ _).symm
  have ey' : (mag d : Int) / (gd (mag n) (mag d) : Int) = (y : Int) := by rw [← ey]; exact (Int.natCast_ediv _ _).symm
  have hxl : x < 18446744073709551616 := by rw [← ex]; exact Nat.lt_of_le_of_lt (Nat.div_le_self _ _) hX
  have hyl : y < 18446744073709551616 := by rw [← ey]; exact Nat.lt_of_le_of_lt (Nat.div_le_self _ _) hY
  clear ex ey
  by_cases hn : n < 0
  · have hd : d < 0 := hs.1 hn
    clear hs
    have hnb : decide (n < 0) = true := by simp; omega
    have hdb : decide (d < 0) = true := by simp; omega
    go_enter Try.func89, Try.ntmps89
    go_wp2_with (first | (go_at_call 100; refine (rsize_any _ _ (by omega) (by omega)).mono ?_; rintro e w' ⟨rfl, rfl⟩) | (go_at_call 99; refine (common_any _ _ _ (by omega) (by omega)).mono ?_; rintro e w' ⟨rfl, rfl⟩))
    exact bodyPost_ret (v := .tuple #[.agg #[.int .i64 x, .int .i64 y], .int .i64 0]) (by simp [results, Try.results89, go_sem]) rfl ⟨rfl, (by repeat' (first | exact Below.refl _ _ | refine Below.setCell ?_ (by first | omega | (simp; done) | (simp; omega)) _ | refine below_drewN ?_ _ | refine Below.alloc ?_ (by first | omega | (simp; done) | (simp; omega)) _))⟩
  · have hd : ¬ d < 0 := fun c => hn (hs.2 c)
    clear hs
    have hnb : decide (n < 0) = false := by simp; omega
    have hdb : decide (d < 0) = false := by simp; omega
    go_enter Try.func89, Try.ntmps89
    go_wp2_with (first | (go_at_call 100; refine (rsize_any _ _ (by omega) (by omega)).mono ?_; rintro e w' ⟨rfl, rfl⟩) | (go_at_call 99; refine (common_any _ _ _ (by omega) (by omega)).mono ?_; rintro e w' ⟨rfl, rfl⟩))
    exact bodyPost_ret (v := .tuple #[.agg #[.int .i64 x, .int .i64 y], .int .i64 0]) (by simp [results, Try.results89, go_sem]) rfl ⟨rfl, (by repeat' (first | exact Below.refl _ _ | refine Below.setCell ?_ (by first | omega | (simp; done) | (simp; omega)) _ | refine below_drewN ?_ _ | refine Below.alloc ?_ (by first | omega | (simp; done) | (simp; omega)) _))⟩

set_option maxRecDepth 100000 in
set_option maxHeartbeats 400000 in
theorem rmake_neg (n d : Int) (x y : Nat) (w : World) (hd0 : (d == 0) = false) (h : Halved n d x y) (hx : x ≤ 1000000000) (hy : y ≤ 1000000000) (hs : ¬ (n < 0 ↔ d < 0)) :
    Calls Try.prog 89 #[.int .i64 n, .int .i64 d] w fun e w' => e = .returned (.tuple #[.agg #[.int .i64 (-(x : Int)), .int .i64 y], .int .i64 0]) ∧ Below w.heap.size w w' := by
  obtain ⟨n0, n1, d0, d1, g0, ex, ey⟩ := h
  have hX := mag_lt n0 n1
  have hY := mag_lt d0 d1
  have hz : ((gd (mag n) (mag d) : Int) == 0) = false := by simp; omega
  have ex' : (mag n : Int) / (gd (mag n) (mag d) : Int) = (x : Int) := by rw [← ex]; exact (Int.natCast_ediv _ _).symm
  have ey' : (mag d : Int) / (gd (mag n) (mag d) : Int) = (y : Int) := by rw [← ey]; exact (Int.natCast_ediv _ _).symm
  have hxl : x < 18446744073709551616 := by rw [← ex]; exact Nat.lt_of_le_of_lt (Nat.div_le_self _ _) hX
  have hyl : y < 18446744073709551616 := by rw [← ey]; exact Nat.lt_of_le_of_lt (Nat.div_le_self _ _) hY
  clear ex ey
  by_cases hn : n < 0
  · have hd : ¬ d < 0 := fun c => hs ⟨fun _ => c, fun _ => hn⟩
    clear hs
    have hnb : decide (n < 0) = true := by simp; omega
    have hdb : decide (d < 0) = false := by simp; omega
    go_enter Try.func89, Try.ntmps89
    go_wp2_with (first | (go_at_call 100; refine (rsize_any _ _ (by omega) (by omega)).mono ?_; rintro e w' ⟨rfl, rfl⟩) | (go_at_call 99; refine (common_any _ _ _ (by omega) (by omega)).mono ?_; rintro e w' ⟨rfl, rfl⟩))
    exact bodyPost_ret (v := .tuple #[.agg #[.int .i64 (-(x : Int)), .int .i64 y], .int .i64 0]) (by simp [results, Try.results89, go_sem]) rfl ⟨rfl, (by repeat' (first | exact Below.refl _ _ | refine Below.setCell ?_ (by first | omega | (simp; done) | (simp; omega)) _ | refine below_drewN ?_ _ | refine Below.alloc ?_ (by first | omega | (simp; done) | (simp; omega)) _))⟩
  · have hd : d < 0 := by omega
    clear hs
    have hnb : decide (n < 0) = false := by simp; omega
    have hdb : decide (d < 0) = true := by simp; omega
    go_enter Try.func89, Try.ntmps89
    go_wp2_with (first | (go_at_call 100; refine (rsize_any _ _ (by omega) (by omega)).mono ?_; rintro e w' ⟨rfl, rfl⟩) | (go_at_call 99; refine (common_any _ _ _ (by omega) (by omega)).mono ?_; rintro e w' ⟨rfl, rfl⟩))
    exact bodyPost_ret (v := .tuple #[.agg #[.int .i64 (-(x : Int)), .int .i64 y], .int .i64 0]) (by simp [results, Try.results89, go_sem]) rfl ⟨rfl, (by repeat' (first | exact Below.refl _ _ | refine Below.setCell ?_ (by first | omega | (simp; done) | (simp; omega)) _ | refine below_drewN ?_ _ | refine Below.alloc ?_ (by first | omega | (simp; done) | (simp; omega)) _))⟩

set_option maxRecDepth 100000 in
set_option maxHeartbeats 400000 in
theorem rmake_no (n d : Int) (x y : Nat) (w : World) (hd0 : (d == 0) = false) (h : Halved n d x y) (hx : 1000000000 < x ∨ 1000000000 < y) :
    Calls Try.prog 89 #[.int .i64 n, .int .i64 d] w fun e w' => e = .returned (.tuple #[.agg #[.int .i64 0, .int .i64 0], .int .i64 3]) ∧ Below w.heap.size w w' := by
  obtain ⟨n0, n1, d0, d1, g0, ex, ey⟩ := h
  have hX := mag_lt n0 n1
  have hY := mag_lt d0 d1
  have hz : ((gd (mag n) (mag d) : Int) == 0) = false := by simp; omega
  have ex' : (mag n : Int) / (gd (mag n) (mag d) : Int) = (x : Int) := by rw [← ex]; exact (Int.natCast_ediv _ _).symm
  have ey' : (mag d : Int) / (gd (mag n) (mag d) : Int) = (y : Int) := by rw [← ey]; exact (Int.natCast_ediv _ _).symm
  have hxl : x < 18446744073709551616 := by rw [← ex]; exact Nat.lt_of_le_of_lt (Nat.div_le_self _ _) hX
  have hyl : y < 18446744073709551616 := by rw [← ey]; exact Nat.lt_of_le_of_lt (Nat.div_le_self _ _) hY
  clear ex ey
  by_cases hx1 : 1000000000 < x
  · clear hx
    have hxb : decide (1000000000 < (x : Int)) = true := by simp; omega
    go_enter Try.func89, Try.ntmps89
    go_wp2_with (first | (go_at_call 100; refine (rsize_any _ _ (by omega) (by omega)).mono ?_; rintro e w' ⟨rfl, rfl⟩) | (go_at_call 99; refine (common_any _ _ _ (by omega) (by omega)).mono ?_; rintro e w' ⟨rfl, rfl⟩))
    exact bodyPost_ret (v := .tuple #[.agg #[.int .i64 0, .int .i64 0], .int .i64 3]) (by simp [results, Try.results89, go_sem]) rfl ⟨rfl, (by repeat' (first | exact Below.refl _ _ | refine Below.setCell ?_ (by first | omega | (simp; done) | (simp; omega)) _ | refine below_drewN ?_ _ | refine Below.alloc ?_ (by first | omega | (simp; done) | (simp; omega)) _))⟩
  · have hy1 : 1000000000 < y := by omega
    clear hx
    have hxb : decide (1000000000 < (x : Int)) = false := by simp; omega
    have hyb : decide (1000000000 < (y : Int)) = true := by simp; omega
    go_enter Try.func89, Try.ntmps89
    go_wp2_with (first | (go_at_call 100; refine (rsize_any _ _ (by omega) (by omega)).mono ?_; rintro e w' ⟨rfl, rfl⟩) | (go_at_call 99; refine (common_any _ _ _ (by omega) (by omega)).mono ?_; rintro e w' ⟨rfl, rfl⟩))
    exact bodyPost_ret (v := .tuple #[.agg #[.int .i64 0, .int .i64 0], .int .i64 3]) (by simp [results, Try.results89, go_sem]) rfl ⟨rfl, (by repeat' (first | exact Below.refl _ _ | refine Below.setCell ?_ (by first | omega | (simp; done) | (simp; omega)) _ | refine below_drewN ?_ _ | refine Below.alloc ?_ (by first | omega | (simp; done) | (simp; omega)) _))⟩

theorem rmake_any (n d : Int) (w : World) (n0 : -9223372036854775808 ≤ n) (n1 : n ≤ 9223372036854775807) (d0 : -9223372036854775808 ≤ d) (d1 : d ≤ 9223372036854775807) :
    Calls Try.prog 89 #[.int .i64 n, .int .i64 d] w fun e w' =>
      e = .returned (.tuple #[.agg #[.int .i64 (mk n d).1, .int .i64 (mk n d).2.1], .int .i64 (mk n d).2.2]) ∧ Below w.heap.size w w' := by
  by_cases h : d = 0
  · subst h
    exact rmake_zero n w
  · obtain ⟨g, x, y, hg, eg, _, _, _, _, ex, ey⟩ := Q.parts n d h
    have hz : (d == 0) = false := by simp; exact h
    have hh : Halved n d x y := ⟨n0, n1, d0, d1, by rw [eg] at hg; exact hg, ex, ey⟩
    unfold mk
    rw [if_neg h]
    unfold Q.red
    rw [ex, ey]
    by_cases hx : x > 1000000000 ∨ y > 1000000000
    · rw [if_pos hx]
      exact rmake_no n d x y w hz hh hx
    · rw [if_neg hx]
      by_cases hs : n < 0 ↔ d < 0
      · rw [if_pos hs]
        exact rmake_pos n d x y w hz hh (by omega) (by omega) hs
      · rw [if_neg hs]
        exact rmake_neg n d x y w hz hh (by omega) (by omega) hs
theorem mk_val {n d p q : Int} (hd : d ≠ 0) (h : mk n d = (p, q, 0)) : Q.Val p q := by
  unfold mk at h
  rw [if_neg hd] at h
  cases e : Q.red n d with
  | none => rw [e] at h; cases h
  | some r =>
    obtain ⟨p', q'⟩ := r
    rw [e] at h
    simp only [Prod.mk.injEq] at h
    obtain ⟨rfl, rfl, _⟩ := h
    exact (Q.red_val hd e).1
theorem mk_err {n d p q e : Int} (hd : d ≠ 0) (h : mk n d = (p, q, e)) (he : e ≠ 0) : p = 0 ∧ q = 0 ∧ e = 3 := by
  unfold mk at h
  rw [if_neg hd] at h
  cases e' : Q.red n d with
  | none => rw [e'] at h; simp only [Prod.mk.injEq] at h; exact ⟨h.1.symm, h.2.1.symm, h.2.2.symm⟩
  | some r => rw [e'] at h; simp only [Prod.mk.injEq] at h; exact absurd h.2.2.symm he
theorem mk_self {n d : Int} (h : Q.Val n d) : mk n d = (n, d, 0) := by
  unfold mk
  rw [if_neg (by have := h.2.2.1; omega), Q.red_of (by have := h.2.2.1; omega) h rfl]
/-- Is it a number? -/
def vld (n d : Int) : Bool := decide (-1000000000 ≤ n) && decide (n ≤ 1000000000) && decide (1 ≤ d) && decide (d ≤ 1000000000) && (gd (mag n) (mag d) == 1)
theorem vld_iff (n d : Int) : vld n d = true ↔ Q.Val n d := by
  unfold vld Q.Val gd mag
  simp only [Bool.and_eq_true, decide_eq_true_eq, beq_iff_eq, and_assoc]

set_option maxRecDepth 100000 in
set_option maxHeartbeats 400000 in
theorem valid_far (n d : Int) (w : World) (n0 : -9223372036854775808 ≤ n) (n1 : n ≤ 9223372036854775807) (d0 : -9223372036854775808 ≤ d) (d1 : d ≤ 9223372036854775807)
    (h : n < -1000000000 ∨ 1000000000 < n ∨ d < 1 ∨ 1000000000 < d) :
    Calls Try.prog 93 #[.agg #[.int .i64 n, .int .i64 d]] w fun e w' => e = .returned (.bool false) ∧ Below w.heap.size w w' := by
  have H := Lib.hid h
  clear h
  by_cases h1 : n < -1000000000
  · clear H
    go_enter Try.func93, Try.ntmps93
    go_wp2
    go_ret
    exact ⟨rfl, (by repeat' (first | exact Below.refl _ _ | refine below_drewN ?_ _ | refine Below.alloc ?_ (by first | (simp; done) | (simp; omega)) _))⟩
  by_cases h2 : 1000000000 < n
  · clear H
    have b1 : decide (n < -1000000000) = false := by simp; omega
    go_enter Try.func93, Try.ntmps93
    go_wp2
    go_ret
    exact ⟨rfl, (by repeat' (first | exact Below.refl _ _ | refine below_drewN ?_ _ | refine Below.alloc ?_ (by first | (simp; done) | (simp; omega)) _))⟩
  by_cases h3 : d < 1
  · clear H
    have b1 : decide (n < -1000000000) = false := by simp; omega
    have b2 : decide (1000000000 < n) = false := by simp; omega
    go_enter Try.func93, Try.ntmps93
    go_wp2
    go_ret
    exact ⟨rfl, (by repeat' (first | exact Below.refl _ _ | refine below_drewN ?_ _ | refine Below.alloc ?_ (by first | (simp; done) | (simp; omega)) _))⟩
  · have h4 : 1000000000 < d := by have := H.out; omega
    clear H
    have b1 : decide (n < -1000000000) = false := by simp; omega
    have b2 : decide (1000000000 < n) = false := by simp; omega
    have b3 : decide (d < 1) = false := by simp; omega
    go_enter Try.func93, Try.ntmps93
    go_wp2
    go_ret
    exact ⟨rfl, (by repeat' (first | exact Below.refl _ _ | refine below_drewN ?_ _ | refine Below.alloc ?_ (by first | (simp; done) | (simp; omega)) _))⟩

set_option maxRecDepth 100000 in
set_option maxHeartbeats 400000 in
theorem valid_near (n d : Int) (w : World) (n0 : -1000000000 ≤ n) (n1 : n ≤ 1000000000) (d0 : 1 ≤ d) (d1 : d ≤ 1000000000) :
    Calls Try.prog 93 #[.agg #[.int .i64 n, .int .i64 d]] w fun e w' => e = .returned (.bool ((gd (mag n) (mag d) : Int) == 1)) ∧ Below w.heap.size w w' := by
  have hX := mag_lt (n := n) (by omega) (by omega)
  have hY := mag_lt (n := d) (by omega) (by omega)
  have b1 : decide (n < -1000000000) = false := by simp; omega
  have b2 : decide (1000000000 < n) = false := by simp; omega
  have b3 : decide (d < 1) = false := by simp; omega
  have b4 : decide (1000000000 < d) = false := by simp; omega
  go_enter Try.func93, Try.ntmps93
  go_wp2
  go_quiet ((first | (go_at_call 102; exact Calls.quiet_of_same (size_any _ _ (by omega) (by omega))) | (go_at_call 101; exact Calls.quiet_of (divisor_any _ _ _ (by omega) (by omega)))))
  go_wp2
  go_ret
  exact ⟨rfl, (by repeat' (first | exact Below.refl _ _ | refine below_drewN ?_ _ | refine Below.alloc ?_ (by first | (simp; done) | (simp; omega)) _))⟩

theorem valid_any (n d : Int) (w : World) (n0 : -9223372036854775808 ≤ n) (n1 : n ≤ 9223372036854775807) (d0 : -9223372036854775808 ≤ d) (d1 : d ≤ 9223372036854775807) :
    Calls Try.prog 93 #[.agg #[.int .i64 n, .int .i64 d]] w fun e w' => e = .returned (.bool (vld n d)) ∧ Below w.heap.size w w' := by
  by_cases h : n < -1000000000 ∨ 1000000000 < n ∨ d < 1 ∨ 1000000000 < d
  · refine (valid_far n d w n0 n1 d0 d1 h).mono ?_
    rintro e w' ⟨rfl, hb⟩
    refine ⟨?_, hb⟩
    have : vld n d = false := by
      rw [Bool.eq_false_iff]; intro hv
      have := (vld_iff n d).1 hv
      unfold Q.Val at this; omega
    rw [this]
  · refine (valid_near n d w (by omega) (by omega) (by omega) (by omega)).mono ?_
    rintro e w' ⟨rfl, hb⟩
    refine ⟨?_, hb⟩
    have : vld n d = ((gd (mag n) (mag d) : Int) == 1) := by
      unfold vld
      rw [Bool.eq_iff_iff]
      simp only [Bool.and_eq_true, decide_eq_true_eq, beq_iff_eq]
      omega
    rw [this]

/-! What is computed of two fractions, in the walk's spelling. -/


set_option maxRecDepth 100000 in
set_option maxHeartbeats 400000 in
theorem rvalid_low (n d : Int) (w : World) (h : d < 1) :
    Calls Try.prog 70 #[.agg #[.int .i64 n, .int .i64 d]] w fun e w' => e = .returned (.bool false) ∧ Below w.heap.size w w' := by
  go_enter Try.func70, Try.ntmps70
  go_wp2
  go_ret
  exact ⟨rfl, (by repeat' (first | exact Below.refl _ _ | refine Below.setCell ?_ (by first | omega | (simp; done) | (simp; omega)) _ | refine below_drewN ?_ _ | refine Below.alloc ?_ (by first | omega | (simp; done) | (simp; omega)) _))⟩

set_option maxRecDepth 100000 in
set_option maxHeartbeats 400000 in
theorem rvalid_err (n d : Int) (w : World) (n0 : -9223372036854775808 ≤ n) (n1 : n ≤ 9223372036854775807) (d0 : -9223372036854775808 ≤ d) (d1 : d ≤ 9223372036854775807) (h : 1 ≤ d) (hm : mk n d = (0, 0, 3)) :
    Calls Try.prog 70 #[.agg #[.int .i64 n, .int .i64 d]] w fun e w' => e = .returned (.bool false) ∧ Below w.heap.size w w' := by
  have k := rmake_any n d (w.alloc (.cells #[.int .i64 n, .int .i64 d] 27)) n0 n1 d0 d1
  rw [hm] at k
  have K := Lib.hid k
  have f0 : decide (d < 1) = false := by simp; omega
  clear k hm
  go_enter Try.func70, Try.ntmps70
  go_wp2_with fail
  refine K.out.mono ?_
  rintro e w1 ⟨rfl, hb1⟩
  have hz1 := hb1.size
  simp only [World.size_alloc] at hz1
  have A1 : At2 w1 w.heap.size (.int .i64 n) (.int .i64 d) := (At2.new w _ _ _).below hb1 (by simp)
  have HBX : Below w.heap.size w w1 := ((Below.refl _ _).alloc (Nat.le_refl _) _).trans (hb1.mono (by simp))
  clear hb1
  obtain ⟨p0, p1, p2, p3⟩ := A1
  have pl : w.heap.size < w1.heap.size := by omega
  go_wp2
  go_ret
  exact ⟨rfl, (by repeat' (first | exact HBX | refine Below.setCell ?_ (by first | omega | (simp; done) | (simp; omega)) _ | refine below_drewN ?_ _ | refine Below.alloc ?_ (by first | omega | (simp; done) | (simp; omega)) _))⟩

set_option maxRecDepth 100000 in
set_option maxHeartbeats 400000 in
theorem rvalid_p (n d : Int) (w : World) (n0 : -9223372036854775808 ≤ n) (n1 : n ≤ 9223372036854775807) (d0 : -9223372036854775808 ≤ d) (d1 : d ≤ 9223372036854775807) (h : 1 ≤ d) (p q : Int) (hm : mk n d = (p, q, 0)) (hp : ¬ p = n) :
    Calls Try.prog 70 #[.agg #[.int .i64 n, .int .i64 d]] w fun e w' => e = .returned (.bool false) ∧ Below w.heap.size w w' := by
  have k := rmake_any n d (w.alloc (.cells #[.int .i64 n, .int .i64 d] 27)) n0 n1 d0 d1
  rw [hm] at k
  have K := Lib.hid k
  have f0 : decide (d < 1) = false := by simp; omega
  clear k hm
  go_enter Try.func70, Try.ntmps70
  go_wp2_with fail
  refine K.out.mono ?_
  rintro e w1 ⟨rfl, hb1⟩
  have hz1 := hb1.size
  simp only [World.size_alloc] at hz1
  have A1 : At2 w1 w.heap.size (.int .i64 n) (.int .i64 d) := (At2.new w _ _ _).below hb1 (by simp)
  have HBX : Below w.heap.size w w1 := ((Below.refl _ _).alloc (Nat.le_refl _) _).trans (hb1.mono (by simp))
  clear hb1
  obtain ⟨p0, p1, p2, p3⟩ := A1
  have pl : w.heap.size < w1.heap.size := by omega
  go_wp2
  go_ret
  exact ⟨rfl, (by repeat' (first | exact HBX | refine Below.setCell ?_ (by first | omega | (simp; done) | (simp; omega)) _ | refine below_drewN ?_ _ | refine Below.alloc ?_ (by first | omega | (simp; done) | (simp; omega)) _))⟩

set_option maxRecDepth 100000 in
set_option maxHeartbeats 400000 in
theorem rvalid_q (n d : Int) (w : World) (n0 : -9223372036854775808 ≤ n) (n1 : n ≤ 9223372036854775807) (d0 : -9223372036854775808 ≤ d) (d1 : d ≤ 9223372036854775807) (h : 1 ≤ d) (q : Int) (hm : mk n d = (n, q, 0)) (hp : ¬ q = d) :
    Calls Try.prog 70 #[.agg #[.int .i64 n, .int .i64 d]] w fun e w' => e = .returned (.bool false) ∧ Below w.heap.size w w' := by
  have k := rmake_any n d (w.alloc (.cells #[.int .i64 n, .int .i64 d] 27)) n0 n1 d0 d1
  rw [hm] at k
  have K := Lib.hid k
  have f0 : decide (d < 1) = false := by simp; omega
  clear k hm
  go_enter Try.func70, Try.ntmps70
  go_wp2_with fail
  refine K.out.mono ?_
  rintro e w1 ⟨rfl, hb1⟩
  have hz1 := hb1.size
  simp only [World.size_alloc] at hz1
  have A1 : At2 w1 w.heap.size (.int .i64 n) (.int .i64 d) := (At2.new w _ _ _).below hb1 (by simp)
  have HBX : Below w.heap.size w w1 := ((Below.refl _ _).alloc (Nat.le_refl _) _).trans (hb1.mono (by simp))
  clear hb1
  obtain ⟨p0, p1, p2, p3⟩ := A1
  have pl : w.heap.size < w1.heap.size := by omega
  go_wp2
  go_ret
  exact ⟨rfl, (by repeat' (first | exact HBX | refine Below.setCell ?_ (by first | omega | (simp; done) | (simp; omega)) _ | refine below_drewN ?_ _ | refine Below.alloc ?_ (by first | omega | (simp; done) | (simp; omega)) _))⟩

set_option maxRecDepth 100000 in
set_option maxHeartbeats 400000 in
theorem rvalid_y (n d : Int) (w : World) (n0 : -9223372036854775808 ≤ n) (n1 : n ≤ 9223372036854775807) (d0 : -9223372036854775808 ≤ d) (d1 : d ≤ 9223372036854775807) (h : 1 ≤ d) (hm : mk n d = (n, d, 0)) :
    Calls Try.prog 70 #[.agg #[.int .i64 n, .int .i64 d]] w fun e w' => e = .returned (.bool true) ∧ Below w.heap.size w w' := by
  have k := rmake_any n d (w.alloc (.cells #[.int .i64 n, .int .i64 d] 27)) n0 n1 d0 d1
  rw [hm] at k
  have K := Lib.hid k
  have f0 : decide (d < 1) = false := by simp; omega
  clear k hm
  go_enter Try.func70, Try.ntmps70
  go_wp2_with fail
  refine K.out.mono ?_
  rintro e w1 ⟨rfl, hb1⟩
  have hz1 := hb1.size
  simp only [World.size_alloc] at hz1
  have A1 : At2 w1 w.heap.size (.int .i64 n) (.int .i64 d) := (At2.new w _ _ _).below hb1 (by simp)
  have HBX : Below w.heap.size w w1 := ((Below.refl _ _).alloc (Nat.le_refl _) _).trans (hb1.mono (by simp))
  clear hb1
  obtain ⟨p0, p1, p2, p3⟩ := A1
  have pl : w.heap.size < w1.heap.size := by omega
  go_wp2
  go_ret
  exact ⟨rfl, (by repeat' (first | exact HBX | refine Below.setCell ?_ (by first | omega | (simp; done) | (simp; omega)) _ | refine below_drewN ?_ _ | refine Below.alloc ?_ (by first | omega | (simp; done) | (simp; omega)) _))⟩

theorem rvalid_any (n d : Int) (w : World) (n0 : -9223372036854775808 ≤ n) (n1 : n ≤ 9223372036854775807) (d0 : -9223372036854775808 ≤ d) (d1 : d ≤ 9223372036854775807) :
    Calls Try.prog 70 #[.agg #[.int .i64 n, .int .i64 d]] w fun e w' => e = .returned (.bool (vld n d)) ∧ Below w.heap.size w w' := by
  by_cases h : d < 1
  · have e : vld n d = false := by
      rw [Bool.eq_false_iff]; intro hv
      have := ((vld_iff n d).1 hv).2.2.1; omega
    rw [e]
    exact rvalid_low n d w h
  obtain ⟨p, q, e, hm⟩ : ∃ p q e, mk n d = (p, q, e) := ⟨_, _, _, rfl⟩
  cases hv : vld n d
  · by_cases he : e = 0
    · subst he
      have vp := mk_val (by omega) hm
      by_cases hp : p = n
      · subst hp
        have hq : ¬ q = d := fun x => by subst x; rw [(vld_iff p q).2 vp] at hv; cases hv
        exact rvalid_q p d w n0 n1 d0 d1 (by omega) q hm hq
      · exact rvalid_p n d w n0 n1 d0 d1 (by omega) p q hm hp
    · obtain ⟨rfl, rfl, rfl⟩ := mk_err (by omega) hm he
      exact rvalid_err n d w n0 n1 d0 d1 (by omega) hm
  · exact rvalid_y n d w n0 n1 d0 d1 (by omega) (mk_self ((vld_iff n d).1 hv))

end Go.Proofs.Ytjifiijgghpniaa
