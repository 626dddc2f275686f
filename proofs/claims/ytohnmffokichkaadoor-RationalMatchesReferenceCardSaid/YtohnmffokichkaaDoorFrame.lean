/-
  What the rows of layer 1 share: the start that fits, and what the listed variables give the walks.
-/
import Derived.Test.YtohnmffokichkaaDoorRows
import Derived.Test.YtohnmffokichkaaDoorWalks6
import Derived.ProofKit
import Derived.LaidMore
import Derived.OpenShut
import Derived.Stop.Joined
import Derived.Stop.LaidErr
import Derived.Lib.LaidTab
namespace Go.Proofs.YtohnmffokichkaaDoor
open Go.ChangeShapes Go.WideShapes Go.ChangeAt Go.WideMaps Go.WideElems Go.RowKit

theorem own : ownKnob Tryd.prog.godebug = none := by kernel_rfl

/-- The listed variables. -/
def lst : List (String × DataW Unit) := [("math/bits.deBruijn32tab", Rows.laid_math_bits_deBruijn32tab), ("math/bits.deBruijn64tab", Rows.laid_math_bits_deBruijn64tab), ("internal/strconv.uint64pow10", Rows.laid_internal_strconv_uint64pow10), ("strconv.ErrRange", Rows.laid_strconv_ErrRange), ("strconv.ErrSyntax", Rows.laid_strconv_ErrSyntax)]

/-- The door's own heap meets the condition. -/
theorem door_met (os : Os) (args : Array Value) : laidMetH Tryd.prog lst ((World.doorLaid Tryd.prog 400 os).forCall (fun _ _ => 0) ⟨#[], args, []⟩).memory := by
  rw [MakeChecks.laidMetH_plain _ _ _ (by kernel_rfl)]
  exact laidMet_of_run' 8 (by kernel_rfl) (by kernel_rfl)

theorem tTab : (Tryd.prog.globals[3]?).map (·.type) = some 91 := by kernel_rfl
theorem cells_tab : Tryd.prog.cellsOf 91 = 20 := by kernel_rfl
theorem cells_u64 : Tryd.prog.cellsOf 48 = 1 := by kernel_rfl
theorem tSyn : (Tryd.prog.globals[1]?).map (·.type) = some 59 := by kernel_rfl
theorem tRng : (Tryd.prog.globals[2]?).map (·.type) = some 59 := by kernel_rfl
theorem cells_es : Tryd.prog.cellsOf 102 = 1 := by kernel_rfl
theorem cells_str : Tryd.prog.cellsOf 9 = 1 := by kernel_rfl
theorem row_es (u : TypeId) (h : Tryd.prog.typeName? 3 u = some "*errors.errorString") : u = 100 :=
  typeName_ptr_named (nm := "errors.errorString") (by kernel_rfl) (by kernel_rfl) (by decide) u h

theorem env_of_laid {W : World} (h : laidMetH Tryd.prog lst W) : Env W := by
  rw [MakeChecks.laidMetH_plain _ _ _ (by kernel_rfl)] at h
  have h2 := h.tail.tail
  have h3 := h2.tail
  have h4 := h3.tail
  have e : (Rows.laid_internal_strconv_uint64pow10 : DataW Unit) = Lib.tabData .u64 Lib.pow10Tab := by kernel_rfl
  have ht : laidMet Tryd.prog (("internal/strconv.uint64pow10", Lib.tabData .u64 Lib.pow10Tab) :: [("strconv.ErrRange", Rows.laid_strconv_ErrRange), ("strconv.ErrSyntax", Rows.laid_strconv_ErrSyntax)]) W := by
    rw [← e]; exact h2
  refine ⟨Lib.tabIs_of_head gTab tTab Tryd.underlying91 Tryd.underlying48 cells_u64 cells_tab ht, ?_, ?_⟩
  · obtain ⟨a0, s0, hv0, -, -, -⟩ := laid_sentinel h4 gSyn tSyn Tryd.underlying59 row_es Tryd.underlying100 Tryd.underlying102 rfl rfl Tryd.underlying9 cells_es cells_str
    exact ⟨_, _, hv0⟩
  · obtain ⟨a0, s0, hv0, -, -, -⟩ := laid_sentinel h3 gRng tRng Tryd.underlying59 row_es Tryd.underlying100 Tryd.underlying102 rfl rfl Tryd.underlying9 cells_es cells_str
    exact ⟨_, _, hv0⟩
end Go.Proofs.YtohnmffokichkaaDoor
