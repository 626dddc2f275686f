/-
  What the rows of layer 2 that read the library's errors, too, share: the start that fits, and what the listed variables give the walks.
-/
import Derived.Test.YtamccmeibnihpaaGreatDoorMFrame
import Derived.Test.YtamccmeibnihpaaGreatDoorMParse2
import Derived.Lay
namespace Go.Proofs.YtamccmeibnihpaaGreatDoor
open Go.ChangeShapes Go.WideShapes Go.ChangeAt Go.WideMaps Go.WideElems Go.RowKit

/-- The listed variables. -/
def lstT : List (String × DataW Unit) := [("math/bits.deBruijn32tab", Rows.laid_math_bits_deBruijn32tab), ("math/bits.deBruijn64tab", Rows.laid_math_bits_deBruijn64tab), ("internal/strconv.uint64pow10", Rows.laid_internal_strconv_uint64pow10), ("unicode/utf8.acceptRanges", Rows.laid_unicode_utf8_acceptRanges), ("strconv.ErrRange", Rows.laid_strconv_ErrRange), ("strconv.ErrSyntax", Rows.laid_strconv_ErrSyntax), ("unicode/utf8.first", Rows.laid_unicode_utf8_first)]

/-- A heap that holds the listed variables meets the condition: the table of package utf8 is not in the program's text, so the door's own heap does not. -/
theorem laid_metT (os : Os) (args : Array Value) : laidMetH Tryz.prog lstT ((World.laidAll Tryz.prog os lstT).forCall (fun _ _ => 0) ⟨#[], args, []⟩).memory := by
  rw [MakeChecks.laidMetH_plain _ _ _ (by kernel_rfl)]
  exact laidMet_laidAll _ (by kernel_rfl) (by kernel_rfl)

theorem tRng : (Tryz.prog.globals[2]?).map (·.type) = some 54 := by kernel_rfl
theorem cells_es : Tryz.prog.cellsOf 115 = 1 := by kernel_rfl
theorem cells_str : Tryz.prog.cellsOf 9 = 1 := by kernel_rfl
theorem row_es (u : TypeId) (h : Tryz.prog.typeName? 3 u = some "*errors.errorString") : u = 113 :=
  typeName_ptr_named (nm := "errors.errorString") (by kernel_rfl) (by kernel_rfl) (by decide) u h

theorem env_of_laidT {W : World} (h : laidMetH Tryz.prog lstT W) : Tab W ∧ Rng W := by
  rw [MakeChecks.laidMetH_plain _ _ _ (by kernel_rfl)] at h
  have h2 := h.tail.tail
  have h3 := h2.tail.tail
  have e : (Rows.laid_internal_strconv_uint64pow10 : DataW Unit) = Lib.tabData .u64 Lib.pow10Tab := by kernel_rfl
  have ht : laidMet Tryz.prog (("internal/strconv.uint64pow10", Lib.tabData .u64 Lib.pow10Tab) :: [("unicode/utf8.acceptRanges", Rows.laid_unicode_utf8_acceptRanges), ("strconv.ErrRange", Rows.laid_strconv_ErrRange), ("strconv.ErrSyntax", Rows.laid_strconv_ErrSyntax), ("unicode/utf8.first", Rows.laid_unicode_utf8_first)]) W := by
    rw [← e]; exact h2
  refine ⟨Lib.tabIs_of_head gTab tTab Tryz.underlying104 Tryz.underlying64 cells_u64 cells_tab ht, ?_⟩
  obtain ⟨a0, s0, hv0, -, -, -⟩ := laid_sentinel h3 gRng tRng Tryz.underlying54 row_es Tryz.underlying113 Tryz.underlying115 rfl rfl Tryz.underlying9 cells_es cells_str
  exact ⟨_, _, hv0⟩
end Go.Proofs.YtamccmeibnihpaaGreatDoor
