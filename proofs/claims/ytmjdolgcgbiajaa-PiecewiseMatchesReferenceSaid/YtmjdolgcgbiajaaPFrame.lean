/-
  What the rows of layer 5 share: a list of pieces that came in.
-/
import Derived.Test.YtmjdolgcgbiajaaRows
import Derived.Test.YtmjdolgcgbiajaaPSl
import Derived.ProofKit
import Derived.OpenShut
import Derived.SizedLaws
import Derived.Lib.RowBridge
import Derived.Deep.SlicePairs
namespace Go.Proofs.Ytmjdolgcgbiajaa
open Go.ChangeShapes Go.WideShapes Go.ChangeAt Go.WideMaps Go.WideElems Go.RowKit

theorem own : ownKnob Try.prog.godebug = none := by kernel_rfl
theorem laidOut : laidOutB Try.prog = true := by kernel_rfl
theorem cells_int : Try.prog.cellsOf 3 = 1 := by kernel_rfl
theorem cells_rat : Try.prog.cellsOf 24 = 2 := by kernel_rfl
theorem cells_piece : Try.prog.cellsOf 51 = 5 := by kernel_rfl
theorem in64_wf {a : Int} (h : (Lit.int .i64 a).wf = true) : In64 a := by
  have e1 : IntKind.i64.min = -9223372036854775808 := rfl
  have e2 : IntKind.i64.max = 9223372036854775807 := rfl
  simpa [Lit.wf, e1, e2, In64] using h
section
variable {H : Type} {enc : TypeId × Value → H} {P : Program} {w : World} {base : Nat} {spare : Nat → Bool} {held : Bool}
theorem int_cell {i : TypeId} {n : Nat} {cs : List Value} {x : DataW H × List MemPlace} (hi : P.underlying i = some (.int .i64)) (h : DataW.trod enc P w base spare held n i cs = some x) : ∃ z, cs = [.int .i64 z] ∧ In64 z := by
  obtain ⟨z, h1, _, h3⟩ := DataW.trod_int hi h
  exact ⟨z, h1, in64_wf h3⟩
theorem rat_cells {r i : TypeId} {g0 g1 : Field} {n : Nat} {cs : List Value} {x : DataW H × List MemPlace} (hr : P.underlying r = some (.struct #[g0, g1])) (hi : P.underlying i = some (.int .i64)) (t0 : g0.type = i) (t1 : g1.type = i) (o0 : g0.offset = 0) (o1 : g1.offset = 1)
    (ci : P.cellsOf i = 1) (cr : P.cellsOf r = 2) (h : DataW.trod enc P w base spare held n r cs = some x) : ∃ a b, cs = [.int .i64 a, .int .i64 b] ∧ In64 a ∧ In64 b := by
  obtain ⟨y0, y1, k, _, hl, h0, h1⟩ := trod_struct2 hr h
  rw [cr] at hl
  rw [t0, o0, ci] at h0
  rw [t1, o1, ci] at h1
  obtain ⟨a, e0, w0⟩ := int_cell hi h0
  obtain ⟨b, e1, w1⟩ := int_cell hi h1
  rcases cs with _ | ⟨v0, _ | ⟨v1, _ | ⟨v2, cs⟩⟩⟩
  · simp at hl
  · simp at hl
  · simp at e0 e1
    subst e0 e1
    exact ⟨a, b, rfl, w0, w1⟩
  · simp at hl
theorem piece_cells {t r i : TypeId} {f0 f1 f2 g0 g1 : Field} {n : Nat} {cs : List Value} {x : DataW H × List MemPlace} (ht : P.underlying t = some (.struct #[f0, f1, f2])) (hr : P.underlying r = some (.struct #[g0, g1])) (hi : P.underlying i = some (.int .i64))
    (s0 : f0.type = i) (s1 : f1.type = r) (s2 : f2.type = r) (q0 : f0.offset = 0) (q1 : f1.offset = 1) (q2 : f2.offset = 3) (t0 : g0.type = i) (t1 : g1.type = i) (o0 : g0.offset = 0) (o1 : g1.offset = 1)
    (ci : P.cellsOf i = 1) (cr : P.cellsOf r = 2) (ct : P.cellsOf t = 5) (h : DataW.trod enc P w base spare held n t cs = some x) :
    ∃ X : RP, X.In ∧ cs = [.int .i64 X.f, .int .i64 X.vn, .int .i64 X.vd, .int .i64 X.sn, .int .i64 X.sd] := by
  obtain ⟨xs, k, _, _, hl, hxl, hf⟩ := DataW.trod_struct ht h
  rw [ct] at hl
  have h0 := hf 0 f0 rfl
  have h1 := hf 1 f1 rfl
  have h2 := hf 2 f2 rfl
  rw [s0, q0, ci] at h0
  rw [s1, q1, cr] at h1
  rw [s2, q2, cr] at h2
  have l3 : xs.length = 3 := hxl
  rw [List.getElem?_eq_getElem (show 0 < xs.length by omega)] at h0
  rw [List.getElem?_eq_getElem (show 1 < xs.length by omega)] at h1
  rw [List.getElem?_eq_getElem (show 2 < xs.length by omega)] at h2
  obtain ⟨a, e0, w0⟩ := int_cell hi h0
  obtain ⟨b, c, e1, w1, w2⟩ := rat_cells hr hi t0 t1 o0 o1 ci cr h1
  obtain ⟨d, e, e2, w3, w4⟩ := rat_cells hr hi t0 t1 o0 o1 ci cr h2
  rcases cs with _ | ⟨v0, _ | ⟨v1, _ | ⟨v2, _ | ⟨v3, _ | ⟨v4, _ | ⟨v5, cs⟩⟩⟩⟩⟩⟩
  · simp at hl
  · simp at hl
  · simp at hl
  · simp at hl
  · simp at hl
  · simp at e0 e1 e2
    obtain ⟨rfl, rfl⟩ := e1
    obtain ⟨rfl, rfl⟩ := e2
    subst e0
    exact ⟨⟨a, b, c, d, e⟩, ⟨w0, w1, w2, w3, w4⟩, rfl⟩
  · simp at hl
end
/-- A list of pieces that came in: where it lies, and its room. -/
theorem open_pieces {H : Type} {enc : TypeId × Value → H} {W : World} {a0 : Option Addr} {len cap : Nat} {d : DataW H} {ps : List MemPlace}
    (h : DataW.Trod enc Try.prog W 0 (fun _ => true) true 22 (.slice a0 len cap) d ps) :
    ∃ (l : List RP) (b off : Nat), SlP W a0 b off len l ∧ len ≤ cap := by
  obtain ⟨fuel, hf⟩ := h
  rcases Go.Deep.open_slice Try.underlying22 hf with ⟨hcs, hx⟩ | ⟨a, len', cap', m, n, D, Pl, hcs, hb, hl, hm, hmm, hx, hc⟩
  · simp [Value.cells] at hcs
    obtain ⟨rfl, rfl, rfl⟩ := hcs
    exact ⟨[], 0, 0, SlP.nil _ _, by omega⟩
  · simp [Value.cells] at hcs
    obtain ⟨rfl, rfl, rfl⟩ := hcs
    simp only [if_true] at hmm
    subst hmm
    have hmax : len ≤ 9223372036854775807 := by unfold maxLen at hm; omega
    have num : ∀ i, i < m → ∃ X : RP, X.In ∧ W.cell? (a.add (i * 5)) = some (.int .i64 X.f) ∧ W.cell? (a.add (i * 5 + 1)) = some (.int .i64 X.vn) ∧ W.cell? (a.add (i * 5 + 2)) = some (.int .i64 X.vd) ∧ W.cell? (a.add (i * 5 + 3)) = some (.int .i64 X.sn) ∧ W.cell? (a.add (i * 5 + 4)) = some (.int .i64 X.sd) := by
      intro i hi
      obtain ⟨cs', h1, h2⟩ := hc i hi
      rw [cells_piece] at h1
      obtain ⟨_, hlen, hcell⟩ := World.cells?_some h1
      obtain ⟨X, hX, hcs⟩ := piece_cells Try.underlying51 Try.underlying24 Try.underlying3 rfl rfl rfl rfl rfl rfl rfl rfl rfl rfl cells_int cells_rat cells_piece h2
      subst hcs
      have e0 := hcell 0 (by omega)
      have e1 := hcell 1 (by omega)
      have e2 := hcell 2 (by omega)
      have e3 := hcell 3 (by omega)
      have e4 := hcell 4 (by omega)
      rw [Go.Deep.add_add] at e0 e1 e2 e3 e4
      exact ⟨X, hX, e0, e1, e2, e3, e4⟩
    by_cases h0 : len = 0
    · subst h0
      exact ⟨[], 0, 0, ⟨rfl, fun h => by omega, fun k h => by simp at h, fun h => by omega, by omega, fun s h => by cases h⟩, by omega⟩
    · obtain ⟨b, off, spot⟩ := a
      have hspot : spot = none := by
        obtain ⟨X, _, c0, _⟩ := num 0 (by omega)
        have := World.cell?_spot c0
        simpa [Addr.add] using this
      subst hspot
      have ad : ∀ i, (⟨b, off, none⟩ : Addr).add i = ⟨b, off + i, none⟩ := fun i => by unfold Addr.add; split <;> simp_all
      have each : ∀ i, ∃ X : RP, i < m → X.In ∧ W.cell? ⟨b, off + i * 5, none⟩ = some (.int .i64 X.f) ∧ W.cell? ⟨b, off + i * 5 + 1, none⟩ = some (.int .i64 X.vn) ∧ W.cell? ⟨b, off + i * 5 + 2, none⟩ = some (.int .i64 X.vd) ∧ W.cell? ⟨b, off + i * 5 + 3, none⟩ = some (.int .i64 X.sn) ∧ W.cell? ⟨b, off + i * 5 + 4, none⟩ = some (.int .i64 X.sd) := fun i => by
        by_cases hi : i < m
        · obtain ⟨X, h⟩ := num i hi
          simp only [ad, ← Nat.add_assoc] at h
          exact ⟨X, fun _ => h⟩
        · exact ⟨⟨0, 0, 0, 0, 0⟩, fun h => absurd h hi⟩
      obtain ⟨X, hX⟩ := (⟨fun i => (each i).choose, fun i => (each i).choose_spec⟩ : ∃ X : Nat → RP, ∀ i, i < m → (X i).In ∧ W.cell? ⟨b, off + i * 5, none⟩ = some (.int .i64 (X i).f) ∧ W.cell? ⟨b, off + i * 5 + 1, none⟩ = some (.int .i64 (X i).vn) ∧ W.cell? ⟨b, off + i * 5 + 2, none⟩ = some (.int .i64 (X i).vd) ∧ W.cell? ⟨b, off + i * 5 + 3, none⟩ = some (.int .i64 (X i).sn) ∧ W.cell? ⟨b, off + i * 5 + 4, none⟩ = some (.int .i64 (X i).sd))
      refine ⟨(List.range len).map X, b, off, ⟨by simp, fun _ => rfl, fun k hk => ?_, fun _ => ?_, hmax, fun s hs => ?_⟩, hl⟩
      · simp only [List.length_map, List.length_range] at hk
        rw [List.getElem_map, List.getElem_range]
        exact (hX k (by omega)).2
      · exact World.block_lt_of_cell? _ _ (hX 0 (by omega)).2.1
      · obtain ⟨i, hi, rfl⟩ := List.mem_map.1 hs
        exact (hX i (by have := List.mem_range.1 hi; omega)).1
end Go.Proofs.Ytmjdolgcgbiajaa
