/-
  The words of the stable sort's walks: the closure's test, and a swap of two places, from a world of the sort's to a world of the sort's.
-/
import Derived.Test.YtamccmeibnihpaaGreatDoorMWalks1
import Derived.Test.YtamccmeibnihpaaGreatDoorMSort
import Derived.Shelf.SlSortCmp.Insertion1
namespace Go.Proofs.YtamccmeibnihpaaGreatDoor
open Go.RowKit Go.Lib Go.Sort Go.Shelf Go.Proofs.YtamccmeibnihpaaGreatDoor.MSort

/-- A place among n + 1 ones, as the program has it. -/
def en {n : Nat} (x : Fin (n + 1)) : Value := .int .i64 (x.val : Int)
theorem en_one {n : Nat} : OneCell (en (n := n)) := fun _ => rfl

/-- The remainders: one at each place. -/
abbrev Rests (n : Nat) := Fin (n + 1) → Int

/-- The order by which the places are sorted: the greater remainder first, of equal ones the smaller place. -/
def ltR {n : Nat} (r : Rests n) (x y : Fin (n + 1)) : Bool := decide (r y < r x ∨ (r x = r y ∧ x.val < y.val))
/-- What the closure tests. -/
def cfR {n : Nat} (r : Rests n) (x y : Fin (n + 1)) : Int := cmp3 (r y) (r x)

theorem cfR_lt {n : Nat} (r : Rests n) (x y : Fin (n + 1)) : (cfR r x y < 0) ↔ r y < r x := by
  unfold cfR cmp3; split <;> (try split) <;> omega

theorem ltOf_cfR {n : Nat} (r : Rests n) (x y : Fin (n + 1)) : ltOf (cfR r) x y = decide (r y < r x) := by
  unfold ltOf
  rw [Bool.eq_iff_iff]; simp only [decide_eq_true_eq]; exact cfR_lt r x y

theorem fitsR {n : Nat} (r : Rests n) : Fits (ltR r) (ltOf (cfR r)) (fun x => x.val) where
  swo := by
    refine ⟨fun x => ?_, fun x y z h1 h2 => ?_, fun x y z h1 h2 => ?_⟩
    · unfold ltR; simp
    · unfold ltR at *; simp only [decide_eq_true_eq] at *; omega
    · unfold ltR at *; simp only [decide_eq_false_iff_not] at *; omega
  agree x y h := by
    rw [ltOf_cfR]; unfold ltR
    rw [Bool.eq_iff_iff]; simp only [decide_eq_true_eq]; omega

theorem totR {n : Nat} (r : Rests n) (x y : Fin (n + 1)) (h1 : ltR r x y = false) (h2 : ltR r y x = false) : x = y := by
  unfold ltR at *; simp only [decide_eq_false_iff_not] at *
  exact Fin.ext (by omega)

end Go.Proofs.YtamccmeibnihpaaGreatDoor
