/-
  A list of integers that came in: where it lies; and that it reads as it did behind the call.
-/
import Derived.Test.YtamccmeibnihpaaGreatDoorMFrame
import Derived.Test.YtamccmeibnihpaaGreatDoorMWeigh
import Derived.SizedLaws
import Derived.Lib.RowBridge
namespace Go.Proofs.YtamccmeibnihpaaGreatDoor
open Go.ChangeShapes Go.WideShapes Go.ChangeAt Go.RowKit

theorem laidOut : laidOutB Tryz.prog = true := by kernel_rfl
theorem cells_int : Tryz.prog.cellsOf 3 = 1 := by kernel_rfl

theorem open_list {H : Type} {enc : TypeId × Value → H} {W : World} {a0 : Option Addr} {len cap : Nat} {d : DataW H} {ps : List MemPlace}
    (h : DataW.Trod enc Tryz.prog W 0 (fun _ => true) true 22 (.slice a0 len cap) d ps) :
    ∃ (l : List Int) (b off : Nat), l.length = len ∧ (0 < len → a0 = some ⟨b, off, none⟩) ∧ At W b off l ∧ len ≤ 9223372036854775807 ∧ (0 < len → b < W.heap.size) := by
  obtain ⟨fuel, hf⟩ := h
  rcases open_ints Tryz.underlying22 Tryz.underlying3 cells_int hf with ⟨hcs, hx⟩ | ⟨a, len', cap', zs, hcs, _, hl, hmx, hz, hx, hcell, hwz⟩
  · simp [Value.cells] at hcs
    obtain ⟨rfl, rfl, rfl⟩ := hcs
    exact ⟨[], 0, 0, rfl, (fun h => by omega), (fun k hk => by cases hk), by omega, (fun h => by omega)⟩
  · simp [Value.cells] at hcs
    obtain ⟨rfl, rfl, rfl⟩ := hcs
    simp only [if_true] at hz
    obtain ⟨b, off, spot⟩ := a
    have hmax : len ≤ 9223372036854775807 := by unfold maxLen at hmx; omega
    by_cases hz0 : zs.length = 0
    · have hlen0 : len = 0 := by omega
      subst hlen0
      exact ⟨[], 0, 0, rfl, (fun h => by omega), (fun k hk => by cases hk), by omega, (fun h => by omega)⟩
    · have hspot : spot = none := by simpa [Addr.add] using World.cell?_spot (hcell 0 (by omega))
      subst hspot
      have hcell' : ∀ j, j < zs.length → W.cell? ⟨b, off + j, none⟩ = some (.int .i64 (zs.getD j 0)) := fun j hj => by rw [← add_plain]; exact hcell j hj
      refine ⟨zs.take len, b, off, by rw [List.length_take]; omega, fun _ => rfl, fun k hk => ?_, hmax, fun _ => World.block_lt_of_cell? _ _ (hcell' 0 (by omega))⟩
      rw [List.length_take] at hk
      have hkz : k < zs.length := by omega
      rw [hcell' k hkz, List.getElem_take, List.getD_eq_getElem?_getD, List.getElem?_eq_getElem hkz]; rfl
end Go.Proofs.YtamccmeibnihpaaGreatDoor
