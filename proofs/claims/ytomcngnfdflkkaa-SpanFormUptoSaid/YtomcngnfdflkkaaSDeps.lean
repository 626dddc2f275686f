/-
  The walk of sweep.
-/
import Derived.Test.YtomcngnfdflkkaaSWalks6
import Derived.Test.YtomcngnfdflkkaaSSweep
namespace Go.Proofs.Ytomcngnfdflkkaa
open Go.RowKit Spn Go.Sort

/-- A list of ends lies in a block. -/
def AtE (w : World) (b : Nat) (E : List (Int × Int × Int)) : Prop := ∀ (k : Nat) (h : k < E.length), w.cell? ⟨b, k * 3, none⟩ = some (.int .i64 E[k].1) ∧ w.cell? ⟨b, k * 3 + 1, none⟩ = some (.int .i64 E[k].2.1) ∧ w.cell? ⟨b, k * 3 + 2, none⟩ = some (.int .i64 E[k].2.2)
theorem AtE.below {w w1 : World} {b B : Nat} {E : List (Int × Int × Int)} (h : AtE w b E) (hB : RowKit.Below B w w1) (hb : b < B) : AtE w1 b E := fun k hk =>
  ⟨(hB.cell (p := ⟨b, k * 3, none⟩) hb).trans (h k hk).1, (hB.cell (p := ⟨b, k * 3 + 1, none⟩) hb).trans (h k hk).2.1, (hB.cell (p := ⟨b, k * 3 + 2, none⟩) hb).trans (h k hk).2.2⟩
theorem AtE.set {w : World} {b D c : Nat} {v : Value} {E : List (Int × Int × Int)} (h : AtE w b E) (hb : b ≠ D) : AtE (w.setCell ⟨D, c, none⟩ v) b E := fun k hk => by
  have ne : ∀ j, (⟨D, c, none⟩ : Addr) ≠ ⟨b, j, none⟩ := fun j e => by injection e with e1 _ _; exact hb e1.symm
  rw [World.cell?_setCell_other _ _ _ _ (ne _), World.cell?_setCell_other _ _ _ _ (ne _), World.cell?_setCell_other _ _ _ _ (ne _)]
  exact h k hk
def OutE (w : World) (a b : List (Int × Int)) (e : Ending) (w' : World) : Prop :=
  ∃ (blk cap : Nat) (E : List (Int × Int × Int)), e = .returned (.slice (some ⟨blk, 0, none⟩) E.length cap) ∧ AtE w' blk E ∧ w.heap.size ≤ blk ∧ blk < w'.heap.size ∧ Srt a b E ∧ RowKit.Below w.heap.size w w'

/-- The two depths. -/
def Dp (w : World) (D : Nat) (x y : Int) : Prop := w.cell? ⟨D, 0, none⟩ = some (.int .i64 x) ∧ w.cell? ⟨D, 1, none⟩ = some (.int .i64 y) ∧ w.frozen? ⟨D, 0, none⟩ = false ∧ w.frozen? ⟨D, 1, none⟩ = false
theorem Dp.new (w : World) (x y : Int) (T : TypeId) : Dp (w.alloc (.cells #[.int .i64 x, .int .i64 y] T)) w.heap.size x y := by
  refine ⟨?_, ?_, ?_, ?_⟩ <;> simp [World.cell?_alloc_new, World.frozen?_alloc_new]
theorem Dp.below {w w1 : World} {D B : Nat} {x y : Int} (h : Dp w D x y) (hB : RowKit.Below B w w1) (hb : D < B) : Dp w1 D x y :=
  ⟨(hB.cell (p := ⟨D, 0, none⟩) hb).trans h.1, (hB.cell (p := ⟨D, 1, none⟩) hb).trans h.2.1, (hB.frozen (p := ⟨D, 0, none⟩) hb).trans h.2.2.1, (hB.frozen (p := ⟨D, 1, none⟩) hb).trans h.2.2.2⟩
theorem Dp.at {w : World} {D c : Nat} {x y : Int} (h : Dp w D x y) (hc : c < 2) : w.cell? ⟨D, c, none⟩ = some (.int .i64 (if c = 0 then x else y)) ∧ w.frozen? ⟨D, c, none⟩ = false := by
  rcases (show c = 0 ∨ c = 1 by omega) with rfl | rfl
  · exact ⟨h.1, h.2.2.1⟩
  · exact ⟨h.2.1, h.2.2.2⟩
theorem Dp.set {w : World} {D c : Nat} {x y m : Int} (h : Dp w D x y) (hc : c < 2) : Dp (w.setCell ⟨D, c, none⟩ (.int .i64 ((if c = 0 then x else y) + m))) D (x + if (c : Int) = 0 then m else 0) (y + if (c : Int) = 1 then m else 0) := by
  have ne : (⟨D, 0, none⟩ : Addr) ≠ ⟨D, 1, none⟩ := fun e => by injection e with _ e _; omega
  rcases (show c = 0 ∨ c = 1 by omega) with rfl | rfl
  · refine ⟨?_, ?_, ?_, ?_⟩
    · rw [World.cell?_setCell_same _ _ _ (h.at (c := 0) (by omega)).1]; simp
    · rw [World.cell?_setCell_other _ _ _ _ ne, h.2.1]; simp
    · rw [World.frozen?_setCell]; exact h.2.2.1
    · rw [World.frozen?_setCell]; exact h.2.2.2
  · refine ⟨?_, ?_, ?_, ?_⟩
    · rw [World.cell?_setCell_other _ _ _ _ ne.symm, h.1]; simp
    · rw [World.cell?_setCell_same _ _ _ (h.at (c := 1) (by omega)).1]; simp
    · rw [World.frozen?_setCell]; exact h.2.2.1
    · rw [World.frozen?_setCell]; exact h.2.2.2
end Go.Proofs.Ytomcngnfdflkkaa
