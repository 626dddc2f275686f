/-
  Copies that may be written into.
-/
import Derived.Test.YtlbaggljmbkfdaaDoorDPathW
import Derived.Test.YtlbaggljmbkfdaaDoorDApp
import Derived.Laws.BitsAllLaws
namespace Go.Proofs.YtlbaggljmbkfdaaDoor
open Go.RowKit Dg

theorem Own.at' {α : Type} {E : TypeId} {f : α → Value} {w : World} {base : Nat} {v : Value} {l : List α} (h : Own E f w base v l) (hm : l.length ≤ 1000000) {k : Nat} (hk : k < l.length) :
    ∃ g cap, v = .slice (some ⟨g, 0, none⟩) l.length cap ∧ w.cell? ⟨g, k, none⟩ = some (f l[k]) ∧ w.frozen? ⟨g, k, none⟩ = false ∧ l.length ≤ cap ∧ base ≤ g ∧
      ∀ x, SlF f (w.setCell ⟨g, k, none⟩ (f x)) (some ⟨g, 0, none⟩) g 0 l.length (l.set k x) := by
  have hr := h.reads hm
  rcases h.2 with ⟨rfl, h0⟩ | ⟨g, cap, cur, rfl, hg, hb, hn, _⟩
  · omega
  · obtain ⟨q, b, cap', e, hs, _⟩ := hr
    injection e with e1 _ _
    have hp := hs.ptr (by omega)
    rw [hp] at e1
    injection e1 with e1
    injection e1 with e1 _ _
    subst e1
    have hc : ∀ j (hj : j < l.length), w.cell? ⟨g, j, none⟩ = some (f l[j]) := fun j hj => by have := hs.cells j hj; rw [Nat.zero_add] at this; exact this
    refine ⟨g, cap, rfl, hc k hk, by simp [World.frozen?, hb], hn, hg, fun x => ⟨by simp, fun _ => rfl, fun j hj => ?_, fun _ => ?_, by omega⟩⟩
    · rw [List.length_set] at hj
      rw [Nat.zero_add, List.getElem_set]
      by_cases e : k = j
      · subst e
        rw [if_pos rfl, World.cell?_setCell_same _ _ _ (hc k hk)]
      · rw [if_neg e, World.cell?_setCell_other _ _ _ _ (fun x => by injection x with _ x _; exact e x), hc j hj]
    · rw [World.size_setCell]; exact hs.lt (by omega)
theorem xor_u8 (a b : Nat) (ha : a < 256) (hb : b < 256) : bits .xor .u8 (a : Int) (b : Int) = ((a ^^^ b : Nat) : Int) := u8_xor_nat a b ha hb
theorem xor_ne (a b : Nat) (hb : b ≠ 0) : a ^^^ b ≠ a := fun h => hb (by
  have := congrArg (a ^^^ ·) h
  simpa [← Nat.xor_assoc] using this)
theorem bytes_app {a b : List Nat} (ha : Bytes a) (hb : Bytes b) : Bytes (a ++ b) := fun c hc => (List.mem_append.1 hc).elim (ha c) (hb c)
theorem bytes_set {a : List Nat} (ha : Bytes a) (k : Nat) {x : Nat} (hx : x < 256) : Bytes (a.set k x) := fun c hc => by
  rcases List.mem_or_eq_of_mem_set hc with h | rfl
  · exact ha c h
  · exact hx
end Go.Proofs.YtlbaggljmbkfdaaDoor
