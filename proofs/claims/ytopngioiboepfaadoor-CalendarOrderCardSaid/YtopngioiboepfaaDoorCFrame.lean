/-
  What the rows of layer 3 share: the start that fits, what the listed variable gives the walks, and a list of integers that came in.
-/
import Derived.Test.YtopngioiboepfaaDoorRows
import Derived.Test.YtopngioiboepfaaDoorCWalks3
import Derived.ProofKit
import Derived.LaidMore
import Derived.OpenShut
import Derived.Stop.Joined
import Derived.Stop.LaidErr
import Derived.SizedLaws
import Derived.Lib.RowBridge
namespace Go.Proofs.YtopngioiboepfaaDoor
open Go.ChangeShapes Go.WideShapes Go.ChangeAt Go.WideMaps Go.WideElems Go.RowKit

theorem own : ownKnob Tryd.prog.godebug = none := by kernel_rfl

/-- The listed variable. -/
def lst : List (String × DataW Unit) := [("cohousing/calendar.lengths", Rows.laid_cohousing_calendar_lengths)]

/-- The door's own heap meets the condition. -/
theorem door_met (os : Os) (args : Array Value) : laidMetH Tryd.prog lst ((World.doorLaid Tryd.prog 400 os).forCall (fun _ _ => 0) ⟨#[], args, []⟩).memory := by
  rw [MakeChecks.laidMetH_plain _ _ _ (by kernel_rfl)]
  exact laidMet_of_run' 8 (by kernel_rfl) (by kernel_rfl)

theorem tTab : (Tryd.prog.globals[0]?).map (·.type) = some 49 := by kernel_rfl
theorem cells_tab : Tryd.prog.cellsOf 49 = 12 := by kernel_rfl
theorem cells_int : Tryd.prog.cellsOf 3 = 1 := by kernel_rfl
theorem laidOut : laidOutB Tryd.prog = true := by kernel_rfl

theorem env_of_laid {W : World} (h : laidMetH Tryd.prog lst W) : Tab W := by
  rw [MakeChecks.laidMetH_plain _ _ _ (by kernel_rfl)] at h
  have e : (Rows.laid_cohousing_calendar_lengths : DataW Unit) = Lib.tabData .i64 lensI := by kernel_rfl
  have ht : laidMet Tryd.prog (("cohousing/calendar.lengths", Lib.tabData .i64 lensI) :: []) W := by
    rw [← e]; exact h
  exact Lib.tabIs_of_head gTab tTab Tryd.underlying49 Tryd.underlying3 cells_int cells_tab ht

theorem open_list {H : Type} {enc : TypeId × Value → H} {W : World} {a0 : Option Addr} {len cap : Nat} {d : DataW H} {ps : List MemPlace}
    (h : DataW.Trod enc Tryd.prog W 0 (fun _ => true) true 22 (.slice a0 len cap) d ps) :
    ∃ (l : List Int) (b off : Nat), Sl W a0 b off len l ∧ len ≤ cap := by
  obtain ⟨fuel, hf⟩ := h
  rcases open_ints Tryd.underlying22 Tryd.underlying3 cells_int hf with ⟨hcs, hx⟩ | ⟨a, len', cap', zs, hcs, hlc, hl, hmx, hz, hx, hcell, hwz⟩
  · simp [Value.cells] at hcs
    obtain ⟨rfl, rfl, rfl⟩ := hcs
    exact ⟨[], 0, 0, ⟨rfl, (fun h => by omega), (fun k hk => by simp at hk), (fun h => by omega), by omega⟩, by omega⟩
  · simp [Value.cells] at hcs
    obtain ⟨rfl, rfl, rfl⟩ := hcs
    simp only [if_true] at hz
    obtain ⟨b, off, spot⟩ := a
    have hmax : len ≤ 9223372036854775807 := by unfold maxLen at hmx; omega
    by_cases hz0 : zs.length = 0
    · have hlen0 : len = 0 := by omega
      subst hlen0
      exact ⟨[], 0, 0, ⟨rfl, (fun h => by omega), (fun k hk => by simp at hk), (fun h => by omega), by omega⟩, by omega⟩
    · have hspot : spot = none := by simpa [Addr.add] using World.cell?_spot (hcell 0 (by omega))
      subst hspot
      have hcell' : ∀ j, j < zs.length → W.cell? ⟨b, off + j, none⟩ = some (.int .i64 (zs.getD j 0)) := fun j hj => by rw [← add_plain]; exact hcell j hj
      refine ⟨zs.take len, b, off, ⟨by rw [List.length_take]; omega, fun _ => rfl, fun k hk => ?_, fun _ => World.block_lt_of_cell? _ _ (hcell' 0 (by omega)), hmax⟩, by omega⟩
      rw [List.length_take] at hk
      have hkz : k < zs.length := by omega
      rw [hcell' k hkz, List.getElem_take, List.getD_eq_getElem?_getD, List.getElem?_eq_getElem hkz]; rfl
end Go.Proofs.YtopngioiboepfaaDoor
