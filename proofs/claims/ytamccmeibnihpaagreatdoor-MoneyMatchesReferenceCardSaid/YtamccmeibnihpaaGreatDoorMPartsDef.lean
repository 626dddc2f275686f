/-
  What money.divide computes: the parts rounded toward zero, the remainders, the cents that are missing, and who gets one.
-/
import Derived.Test.YtamccmeibnihpaaGreatDoorMLargest
import Derived.Test.YtamccmeibnihpaaGreatDoorMWeigh
namespace Go.Proofs.YtamccmeibnihpaaGreatDoor
open Go.RowKit Go.Lib Go.Sort Go.Shelf Go.Proofs.YtamccmeibnihpaaGreatDoor.MSort

/-- A part, rounded toward zero; and its remainder. -/
def pq (c W x : Int) : Int := (c * x).tdiv W
def pr (c W x : Int) : Int := ab ((c * x).tmod W)

/-- The remainders of all weights. -/
def rsR (c W : Int) (l : List Int) (n : Nat) : Rests n := fun x => pr c W (l.getD x.val 0)
/-- The cents that are missing. -/
def miss (c W : Int) (l : List Int) : Int := c - (l.map (pq c W)).sum
/-- Those who get one of the missing cents. -/
def upL (c W : Int) (l : List Int) (n : Nat) : List (Fin (n + 1)) := (ordL (rsR c W l n)).take (ab (miss c W l)).toNat

/-- The part at a place when the first j places of a list have got a cent. -/
def gj (c W : Int) (l : List Int) (o : List Nat) (k : Nat) : Int := pq c W (l.getD k 0) + if k ∈ o then sgn c else 0
/-- The parts. -/
def partL (c W : Int) (l : List Int) (n : Nat) : List Int := (List.range l.length).map (gj c W l ((upL c W l n).map (·.val)))

theorem ordL_perm {n : Nat} (r : Rests n) : (ordL r).Perm (List.finRange (n + 1)) := List.mergeSort_perm _ _
theorem ordL_length {n : Nat} (r : Rests n) : (ordL r).length = n + 1 := by rw [(ordL_perm r).length_eq]; simp
theorem ordL_nodup {n : Nat} (r : Rests n) : (ordL r).Nodup := (ordL_perm r).nodup_iff.2 (List.nodup_finRange _)

/-- A buffer: sz cells of a block, of which the first k hold what is said. -/
structure Buf (w : World) (A sz k : Nat) (g : Nat → Int) : Prop where
  cell : ∀ j, j < sz → ∃ v, w.cell? ⟨A, j, none⟩ = some v ∧ (j < k → v = .int .i64 (g j))
  free : ∀ j, j < sz → w.frozen? ⟨A, j, none⟩ = false
  lt : A < w.heap.size

theorem Buf.set {w : World} {A sz k : Nat} {g : Nat → Int} (h : Buf w A sz k g) {v : Int} (hv : v = g k) : Buf (w.setCell ⟨A, k, none⟩ (.int .i64 v)) A sz (k + 1) g := by
  refine ⟨fun j hj => ?_, fun j hj => by rw [World.frozen?_setCell]; exact h.free j hj, by simpa using h.lt⟩
  obtain ⟨v0, hv0, hv1⟩ := h.cell j hj
  by_cases e : k = j
  · subst e
    exact ⟨_, World.cell?_setCell_same _ _ _ hv0, fun _ => by rw [hv]⟩
  · refine ⟨v0, (World.cell?_setCell_other _ _ _ _ (by intro e'; simp only [Addr.mk.injEq] at e'; omega)).trans hv0, fun hj2 => hv1 (by omega)⟩

theorem Buf.other {w : World} {A B sz k o : Nat} {g : Nat → Int} {v : Value} (h : Buf w A sz k g) (hne : B ≠ A) : Buf (w.setCell ⟨B, o, none⟩ v) A sz k g := by
  refine ⟨fun j hj => ?_, fun j hj => by rw [World.frozen?_setCell]; exact h.free j hj, by simpa using h.lt⟩
  obtain ⟨v0, hv0, hv1⟩ := h.cell j hj
  exact ⟨v0, (World.cell?_setCell_other _ _ _ _ (by intro e'; simp only [Addr.mk.injEq] at e'; omega)).trans hv0, hv1⟩

theorem Buf.drew {w : World} {A sz k : Nat} {g : Nat → Int} (h : Buf w A sz k g) : Buf w.drew A sz k g := ⟨h.cell, h.free, h.lt⟩

theorem Buf.below {w w1 : World} {A sz k B : Nat} {g : Nat → Int} (h : Buf w A sz k g) (hB : RowKit.Below B w w1) (hA : A < B) : Buf w1 A sz k g := by
  refine ⟨fun j hj => ?_, fun j hj => by rw [hB.frozen (p := ⟨A, j, none⟩) hA]; exact h.free j hj, Nat.lt_of_lt_of_le h.lt hB.size⟩
  obtain ⟨v0, hv0, hv1⟩ := h.cell j hj
  exact ⟨v0, (hB.cell (p := ⟨A, j, none⟩) hA).trans hv0, hv1⟩

theorem Buf.congr {w : World} {A sz k : Nat} {g g' : Nat → Int} (h : Buf w A sz k g) (e : ∀ j, j < k → g j = g' j) : Buf w A sz k g' := by
  refine ⟨fun j hj => ?_, h.free, h.lt⟩
  obtain ⟨v0, hv0, hv1⟩ := h.cell j hj
  exact ⟨v0, hv0, fun hj2 => by rw [← e j hj2]; exact hv1 hj2⟩

/-- One cell is stored anew. -/
theorem Buf.put {w : World} {A sz x : Nat} {g g' : Nat → Int} (h : Buf w A sz sz g) {v : Int} (hv : v = g' x) (e : ∀ j, j < sz → j ≠ x → g j = g' j) : Buf (w.setCell ⟨A, x, none⟩ (.int .i64 v)) A sz sz g' := by
  refine ⟨fun j hj => ?_, fun j hj => by rw [World.frozen?_setCell]; exact h.free j hj, by simpa using h.lt⟩
  obtain ⟨v0, hv0, hv1⟩ := h.cell j hj
  by_cases e' : x = j
  · subst e'
    exact ⟨_, World.cell?_setCell_same _ _ _ hv0, fun _ => by rw [hv]⟩
  · refine ⟨v0, (World.cell?_setCell_other _ _ _ _ (by intro e''; simp only [Addr.mk.injEq] at e''; omega)).trans hv0, fun hj2 => by rw [hv1 hj2, e j hj (by omega)]⟩

theorem Buf.made (w : World) (sz : Nat) (g : Nat → Int) : Buf (w.alloc (.cells (madeCells #[.int .i64 0] sz) 3)) w.heap.size sz 0 g := by
  refine ⟨fun j hj => ⟨.int .i64 0, ?_, fun h => by omega⟩, fun j hj => by simp, by simp⟩
  rw [World.cell?_alloc_new]
  exact get_made sz j hj
end Go.Proofs.YtamccmeibnihpaaGreatDoor
