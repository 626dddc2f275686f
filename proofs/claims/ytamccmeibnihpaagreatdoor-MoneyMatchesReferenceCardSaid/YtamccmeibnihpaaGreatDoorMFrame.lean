/-
  What the rows of layer 2 that read the library's table alone share: the start that fits, and what the listed variables give the walks.
-/
import Derived.Test.YtamccmeibnihpaaGreatDoorRows
import Derived.Test.YtamccmeibnihpaaGreatDoorMText
import Derived.ProofKit
import Derived.LaidMore
import Derived.OpenShut
import Derived.Stop.Joined
import Derived.Stop.LaidErr
import Derived.Lib.LaidTab
namespace Go.Proofs.YtamccmeibnihpaaGreatDoor
open Go.ChangeShapes Go.WideShapes Go.ChangeAt Go.WideMaps Go.WideElems Go.RowKit

theorem own : ownKnob Tryz.prog.godebug = none := by kernel_rfl

/-- The listed variables. -/
def lst : List (String × DataW Unit) := [("math/bits.deBruijn32tab", Rows.laid_math_bits_deBruijn32tab), ("math/bits.deBruijn64tab", Rows.laid_math_bits_deBruijn64tab), ("internal/strconv.uint64pow10", Rows.laid_internal_strconv_uint64pow10)]

/-- The door's own heap meets the condition. -/
theorem door_met (os : Os) (args : Array Value) : laidMetH Tryz.prog lst ((World.doorLaid Tryz.prog 400 os).forCall (fun _ _ => 0) ⟨#[], args, []⟩).memory := by
  rw [MakeChecks.laidMetH_plain _ _ _ (by kernel_rfl)]
  exact laidMet_of_run' 8 (by kernel_rfl) (by kernel_rfl)

theorem tTab : (Tryz.prog.globals[3]?).map (·.type) = some 104 := by kernel_rfl
theorem cells_tab : Tryz.prog.cellsOf 104 = 20 := by kernel_rfl
theorem cells_u64 : Tryz.prog.cellsOf 64 = 1 := by kernel_rfl

theorem env_of_laid {W : World} (h : laidMetH Tryz.prog lst W) : Tab W := by
  rw [MakeChecks.laidMetH_plain _ _ _ (by kernel_rfl)] at h
  have h2 := h.tail.tail
  have e : (Rows.laid_internal_strconv_uint64pow10 : DataW Unit) = Lib.tabData .u64 Lib.pow10Tab := by kernel_rfl
  have ht : laidMet Tryz.prog (("internal/strconv.uint64pow10", Lib.tabData .u64 Lib.pow10Tab) :: []) W := by
    rw [← e]; exact h2
  exact Lib.tabIs_of_head gTab tTab Tryz.underlying104 Tryz.underlying64 cells_u64 cells_tab ht
end Go.Proofs.YtamccmeibnihpaaGreatDoor
