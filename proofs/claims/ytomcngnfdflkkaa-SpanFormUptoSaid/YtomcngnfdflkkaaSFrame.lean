/-
  What the rows of layer 4 share: a list of stretches that came in.
-/
import Derived.Test.YtomcngnfdflkkaaRows
import Derived.Test.YtomcngnfdflkkaaSKit
import Derived.ProofKit
import Derived.OpenShut
import Derived.SizedLaws
import Derived.Lib.RowBridge
import Derived.Deep.SlicePairs
namespace Go.Proofs.Ytomcngnfdflkkaa
open Go.ChangeShapes Go.WideShapes Go.ChangeAt Go.WideMaps Go.WideElems Go.RowKit

theorem own : ownKnob Try.prog.godebug = none := by kernel_rfl
theorem laidOut : laidOutB Try.prog = true := by kernel_rfl
theorem cells_int : Try.prog.cellsOf 3 = 1 := by kernel_rfl

/-- A list of stretches that came in: where it lies, its room, and how its datum looks. -/
theorem open_spans {H : Type} {enc : TypeId × Value → H} {W : World} {a0 : Option Addr} {len cap : Nat} {d : DataW H} {ps : List MemPlace}
    (h : DataW.Trod enc Try.prog W 0 (fun _ => true) true 22 (.slice a0 len cap) d ps) :
    ∃ (l : List (Int × Int)) (b off : Nat), Sl W a0 b off len l ∧ len ≤ cap ∧ (a0 = none → len = 0 ∧ cap = 0) ∧ (len = 0 ∨ ∃ els sp, d = .slice els sp ∧ els.length = len ∧ ∀ x, x ∈ els → ∃ y z, x = .agg [y, z]) := by
  obtain ⟨fuel, hf⟩ := h
  rcases Go.Deep.open_slice_pairs Try.underlying22 Try.underlying37 (by kernel_rfl) rfl rfl (by kernel_rfl) (by kernel_rfl) hf with ⟨hcs, hx⟩ | ⟨a, len', cap', m, n, V0, V1, D0, D1, P0, P1, hcs, hb, hl, hm, hmm, hx, hc⟩
  · simp [Value.cells] at hcs
    obtain ⟨rfl, rfl, rfl⟩ := hcs
    exact ⟨[], 0, 0, Sl.nil _ _, by omega, fun _ => ⟨rfl, rfl⟩, .inl rfl⟩
  · simp [Value.cells] at hcs
    obtain ⟨rfl, rfl, rfl⟩ := hcs
    simp only [if_true] at hmm
    subst hmm
    have hmax : len ≤ 9223372036854775807 := by unfold maxLen at hm; omega
    simp only [Prod.mk.injEq] at hx
    by_cases h0 : len = 0
    · subst h0
      exact ⟨[], 0, 0, ⟨rfl, fun h => by omega, fun k h => by simp at h, fun h => by omega, by omega, fun s h => by cases h⟩, by omega, fun h => (by cases h), .inl rfl⟩
    · obtain ⟨b, off, spot⟩ := a
      have hspot : spot = none := by
        have := World.cell?_spot (hc 0 (by omega)).1
        simpa [Addr.add] using this
      subst hspot
      have num : ∀ i, i < m → ∃ z0 z1, V0 i = .int .i64 z0 ∧ V1 i = .int .i64 z1 ∧ In64 z0 ∧ In64 z1 := fun i hi => by
        obtain ⟨_, _, hy0, hy1⟩ := hc i hi
        obtain ⟨z0, e0, _, w0⟩ := DataW.trod_int Try.underlying3 hy0
        obtain ⟨z1, e1, _, w1⟩ := DataW.trod_int Try.underlying3 hy1
        simp at e0 e1
        have i1 : IntKind.i64.min = -9223372036854775808 := rfl
        have i2 : IntKind.i64.max = 9223372036854775807 := rfl
        simp [Lit.wf, i1, i2] at w0 w1
        exact ⟨z0, z1, e0, e1, w0, w1⟩
      have num' : ∀ i, i < m → V0 i = .int .i64 (intOf (V0 i)) ∧ V1 i = .int .i64 (intOf (V1 i)) ∧ In64 (intOf (V0 i)) ∧ In64 (intOf (V1 i)) := fun i hi => by
        obtain ⟨z0, z1, e0, e1, w0, w1⟩ := num i hi
        rw [e0, e1]
        exact ⟨rfl, rfl, w0, w1⟩
      refine ⟨(List.range len).map fun i => (intOf (V0 i), intOf (V1 i)), b, off, ⟨by simp, fun _ => rfl, fun k hk => ?_, fun _ => ?_, hmax, fun s hs => ?_⟩, hl, fun h => (by cases h), .inr ⟨_, _, hx.1, by simp, fun x hx => ?_⟩⟩
      · simp only [List.length_map, List.length_range] at hk
        have c1 := (hc k (by omega)).1
        have c2 := (hc k (by omega)).2.1
        rw [addr_add] at c1
        rw [addr_add, ← Nat.add_assoc] at c2
        rw [List.getElem_map, List.getElem_range]
        exact ⟨by rw [c1, (num' k (by omega)).1]; rfl, by rw [c2, (num' k (by omega)).2.1]; rfl⟩
      · have c1 := (hc 0 (by omega)).1
        have := World.block_lt_of_cell? _ _ c1
        unfold Addr.add at this
        split at this <;> exact this
      · obtain ⟨i, hi, rfl⟩ := List.mem_map.1 hs
        have := num' i (by have := List.mem_range.1 hi; omega)
        exact ⟨this.2.2.1, this.2.2.2⟩
      · obtain ⟨i, _, rfl⟩ := List.mem_map.1 hx
        exact ⟨_, _, rfl⟩
end Go.Proofs.Ytomcngnfdflkkaa
