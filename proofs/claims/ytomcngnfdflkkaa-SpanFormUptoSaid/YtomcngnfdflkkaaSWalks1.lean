/-
  Lists of stretches in memory; contracts of isStretch, Valid and of the reference's Stretch, Valid.
-/
import Derived.Test.YtomcngnfdflkkaaSMath
import Derived.WalkKit
import Derived.WalkSpells
import Derived.WalkLawsBesides
import Derived.Lib.Hide
import Derived.Deep.Draws
import Derived.Deep.LoopGhost
import Derived.Deep.QuietTactic
import Derived.BigQuiet
import Derived.Shelf.SlSortCmp.QuietGrown
namespace Go.Proofs.Ytomcngnfdflkkaa
open Go.RowKit Spn Go.Sort

theorem ret_bool {a b : Bool} (h : a = b) : Ending.returned (.bool a) = .returned (.bool b) := by rw [h]

/-- A list of stretches lies in a block, from a place on. -/
def At (w : World) (b off : Nat) (l : List (Int × Int)) : Prop := ∀ (k : Nat) (h : k < l.length), w.cell? ⟨b, off + k * 2, none⟩ = some (.int .i64 l[k].1) ∧ w.cell? ⟨b, off + k * 2 + 1, none⟩ = some (.int .i64 l[k].2)
/-- Numbers that an int can be. -/
def In64 (x : Int) : Prop := -9223372036854775808 ≤ x ∧ x ≤ 9223372036854775807
/-- A slice reads as a list of stretches. -/
def Sl (w : World) (p : Option Addr) (b off len : Nat) (l : List (Int × Int)) : Prop :=
  l.length = len ∧ (0 < len → p = some ⟨b, off, none⟩) ∧ At w b off l ∧ (0 < len → b < w.heap.size) ∧ len ≤ 9223372036854775807 ∧ ∀ s, s ∈ l → In64 s.1 ∧ In64 s.2
theorem Sl.below {w w1 : World} {p : Option Addr} {b off len : Nat} {l : List (Int × Int)} (h : Sl w p b off len l) (hB : RowKit.Below w.heap.size w w1) : Sl w1 p b off len l :=
  ⟨h.1, h.2.1, fun k hk => ⟨(hB.cell (p := ⟨b, off + k * 2, none⟩) (h.2.2.2.1 (by have := h.1; omega))).trans (h.2.2.1 k hk).1, (hB.cell (p := ⟨b, off + k * 2 + 1, none⟩) (h.2.2.2.1 (by have := h.1; omega))).trans (h.2.2.1 k hk).2⟩, fun x => Nat.lt_of_lt_of_le (h.2.2.2.1 x) hB.size, h.2.2.2.2⟩
theorem Sl.nil (w : World) (p : Option Addr) : Sl w p 0 0 0 [] := ⟨rfl, fun h => by omega, fun k h => by simp at h, fun h => by omega, by omega, fun s h => by cases h⟩
theorem Sl.num {w : World} {p : Option Addr} {b off len : Nat} {l : List (Int × Int)} (h : Sl w p b off len l) {k : Nat} (hk : k < l.length) : In64 l[k].1 ∧ In64 l[k].2 := h.2.2.2.2.2 _ (List.getElem_mem hk)

theorem mixed : Try.prog.follows .mixedOrders = true := by kernel_rfl
theorem below_grown {n : Nat} {w w1 : World} (h : RowKit.Below n w w1) (hn : n ≤ w1.heap.size) (q : Nat) (os : Array Obj) : RowKit.Below n w (grow (w1.drewN q) os) := by
  exact (below_drewN h q).trans ⟨rfl, rfl, rfl, by simp, fun k hk => heap_grow_old _ _ (show k < w1.heap.size by omega)⟩
theorem alloc_grown (w : World) (o : Obj) : ∃ q os', w.alloc o = grow (w.drewN q) os' := ⟨0, #[o], alloc_eq_grow w o⟩
theorem stretch_any (x y : Int) (w : World) : Calls Try.prog 28 #[.agg #[.int .i64 x, .int .i64 y]] w fun e w' => e = .returned (.bool (st (x, y))) ∧ ∃ q os', w' = grow (w.drewN q) os' := by
  have hc : st (x, y) = (decide (0 ≤ x) && decide (x < y) && decide (y ≤ 36525)) := rfl
  by_cases h1 : 0 ≤ x
  · by_cases h2 : x < y
    · rw [decide_eq_true h1, decide_eq_true h2] at hc
      have H : Hid (st (x, y) = decide (y ≤ 36525)) := hc
      clear hc
      go_enter Try.func28, Try.ntmps28
      go_wp2
      go_ret
      exact ⟨ret_bool H.out.symm, alloc_grown _ _⟩
    · have e2 : decide (x < y) = false := decide_eq_false h2
      rw [decide_eq_true h1, e2] at hc
      have H : Hid (st (x, y) = false) := hc
      clear hc h2
      go_enter Try.func28, Try.ntmps28
      go_wp2
      go_ret
      exact ⟨ret_bool H.out.symm, alloc_grown _ _⟩
  · have e1 : decide (0 ≤ x) = false := decide_eq_false h1
    rw [e1] at hc
    have H : Hid (st (x, y) = false) := by show _ = _; rw [hc]; rfl
    clear hc h1
    go_enter Try.func28, Try.ntmps28
    go_wp2
    go_ret
    exact ⟨ret_bool H.out.symm, alloc_grown _ _⟩
theorem rStretch_any (x y : Int) (w : World) : Calls Try.prog 29 #[.agg #[.int .i64 x, .int .i64 y]] w fun e w' => e = .returned (.bool (st (x, y))) ∧ ∃ q os', w' = grow (w.drewN q) os' := by
  have hc : st (x, y) = (decide (0 ≤ x) && decide (x < y) && decide (y ≤ 36525)) := rfl
  by_cases h1 : 0 ≤ x
  · by_cases h2 : x < y
    · rw [decide_eq_true h1, decide_eq_true h2] at hc
      have H : Hid (st (x, y) = decide (y ≤ 36525)) := hc
      clear hc
      go_enter Try.func29, Try.ntmps29
      go_wp2
      go_ret
      exact ⟨ret_bool H.out.symm, alloc_grown _ _⟩
    · have e2 : decide (x < y) = false := decide_eq_false h2
      rw [decide_eq_true h1, e2] at hc
      have H : Hid (st (x, y) = false) := hc
      clear hc h2
      go_enter Try.func29, Try.ntmps29
      go_wp2
      go_ret
      exact ⟨ret_bool H.out.symm, alloc_grown _ _⟩
  · have e1 : decide (0 ≤ x) = false := decide_eq_false h1
    rw [e1] at hc
    have H : Hid (st (x, y) = false) := by show _ = _; rw [hc]; rfl
    clear hc h1
    go_enter Try.func29, Try.ntmps29
    go_wp2
    go_ret
    exact ⟨ret_bool H.out.symm, alloc_grown _ _⟩

end Go.Proofs.Ytomcngnfdflkkaa
