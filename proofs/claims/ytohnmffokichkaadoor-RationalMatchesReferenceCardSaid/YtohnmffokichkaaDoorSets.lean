/-
  Two-cell blocks that are written anew.
-/
import Derived.Test.YtohnmffokichkaaDoorSumsWalk
namespace Go.Proofs.YtohnmffokichkaaDoor
open Go.RowKit

theorem At2.other {w : World} {b b' : Nat} {x y : Value} (h : At2 w b x y) (hb : ¬ b = b') (u v : Value) : At2 ((w.setCell ⟨b', 0, none⟩ u).setCell ⟨b', 1, none⟩ v) b x y := by
  have k : ∀ (w1 : World) (o : Nat) (u : Value), (w1.setCell ⟨b', o, none⟩ u).heap[b]? = w1.heap[b]? := fun w1 o u => Below.heap_setCell _ _ _ _ hb
  have e : ((w.setCell ⟨b', 0, none⟩ u).setCell ⟨b', 1, none⟩ v).heap[b]? = w.heap[b]? := (k _ _ _).trans (k _ _ _)
  exact ⟨(World.cell?_of_block (w := w) (a := ⟨b, 0, none⟩) e).trans h.c0, (World.cell?_of_block (w := w) (a := ⟨b, 1, none⟩) e).trans h.c1,
    (World.frozen?_of_block (w := w) (a := ⟨b, 0, none⟩) e).trans h.f0, (World.frozen?_of_block (w := w) (a := ⟨b, 1, none⟩) e).trans h.f1⟩
theorem At2.set {w : World} {b : Nat} {x y : Value} (h : At2 w b x y) (u v : Value) : At2 ((w.setCell ⟨b, 0, none⟩ u).setCell ⟨b, 1, none⟩ v) b u v := by
  obtain ⟨c0, c1, f0, f1⟩ := h
  exact ⟨by simp [go_sem, c0], by simp [go_sem, c1], by simp [go_sem, f0], by simp [go_sem, f1]⟩
end Go.Proofs.YtohnmffokichkaaDoor
