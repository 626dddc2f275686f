/-
  What the rows of layer 8 share: the start that fits, what the listed variables give the walks, and lists that came in.
-/
import Derived.Test.YtidhhndclkilnaaDoorRows
import Derived.Test.YtidhhndclkilnaaDoorGHead
import Derived.ProofKit
import Derived.LaidMore
import Derived.OpenShut
import Derived.SizedLaws
import Derived.Lib.RowBridge
import Derived.Stop.Joined
import Derived.Stop.LaidErr
import Derived.Lib.LaidTab
namespace Go.Proofs.YtidhhndclkilnaaDoor
open Go.ChangeShapes Go.WideShapes Go.ChangeAt Go.WideMaps Go.WideElems Go.RowKit Dg

theorem own : ownKnob Tryd.prog.godebug = none := by kernel_rfl
theorem laidOut : laidOutB Tryd.prog = true := by kernel_rfl

/-- The listed variables. -/
def lst : List (String × DataW Unit) := [("math/bits.deBruijn32tab", Rows.laid_math_bits_deBruijn32tab), ("math/bits.deBruijn64tab", Rows.laid_math_bits_deBruijn64tab), ("internal/strconv.uint64pow10", Rows.laid_internal_strconv_uint64pow10)]

/-- The door's own heap meets the condition. -/
theorem door_met (os : Os) (args : Array Value) : laidMetH Tryd.prog lst ((World.doorLaid Tryd.prog 400 os).forCall (fun _ _ => 0) ⟨#[], args, []⟩).memory := by
  rw [MakeChecks.laidMetH_plain _ _ _ (by kernel_rfl)]
  exact laidMet_of_run' 8 (by kernel_rfl) (by kernel_rfl)

theorem tTab : (Tryd.prog.globals[0]?).map (·.type) = some 73 := by kernel_rfl
theorem cells_tab : Tryd.prog.cellsOf 73 = 20 := by kernel_rfl
theorem cells_u64 : Tryd.prog.cellsOf 41 = 1 := by kernel_rfl
theorem cells_u8 : Tryd.prog.cellsOf 5 = 1 := by kernel_rfl
theorem cells_sig : Tryd.prog.cellsOf 23 = 2 := by kernel_rfl
theorem cells_int : Tryd.prog.cellsOf 3 = 1 := by kernel_rfl

theorem env_of_laid {W : World} (h : laidMetH Tryd.prog lst W) : Tab W := by
  rw [MakeChecks.laidMetH_plain _ _ _ (by kernel_rfl)] at h
  have h2 := h.tail.tail
  have e : (Rows.laid_internal_strconv_uint64pow10 : DataW Unit) = Lib.tabData .u64 Lib.pow10Tab := by kernel_rfl
  have ht : laidMet Tryd.prog (("internal/strconv.uint64pow10", Lib.tabData .u64 Lib.pow10Tab) :: []) W := by
    rw [← e]; exact h2
  exact Lib.tabIs_of_head gTab tTab Tryd.underlying73 Tryd.underlying41 cells_u64 cells_tab ht
theorem bd_i64 {a : Int} (h : (Lit.int .i64 a).wf = true) : -9223372036854775808 ≤ a ∧ a ≤ 9223372036854775807 := by
  have e1 : IntKind.i64.min = -9223372036854775808 := rfl
  have e2 : IntKind.i64.max = 9223372036854775807 := rfl
  simpa [Lit.wf, e1, e2] using h
theorem bd_u64 {a : Int} (h : (Lit.int .u64 a).wf = true) : ∃ n : Nat, n < 18446744073709551616 ∧ a = (n : Int) := by
  have e1 : IntKind.u64.min = 0 := rfl
  have e2 : IntKind.u64.max = 18446744073709551615 := rfl
  have h' : 0 ≤ a ∧ a ≤ 18446744073709551615 := by simpa [Lit.wf, e1, e2] using h
  exact ⟨a.toNat, by omega, by omega⟩
theorem bd_u8 {a : Int} (h : (Lit.int .u8 a).wf = true) : ∃ n : Nat, n < 256 ∧ a = (n : Int) := by
  have e1 : IntKind.u8.min = 0 := rfl
  have e2 : IntKind.u8.max = 255 := rfl
  have h' : 0 ≤ a ∧ a ≤ 255 := by simpa [Lit.wf, e1, e2] using h
  exact ⟨a.toNat, by omega, by omega⟩

theorem open_any {H : Type} {enc : TypeId × Value → H} {W : World} {a0 : Option Addr} {len cap : Nat} {d : DataW H} {ps : List MemPlace} {S E : TypeId} {k : IntKind}
    (hS : Tryd.prog.underlying S = some (.slice E)) (hE : Tryd.prog.underlying E = some (.int k)) (hc : Tryd.prog.cellsOf E = 1)
    (h : DataW.Trod enc Tryd.prog W 0 (fun _ => true) true S (.slice a0 len cap) d ps) :
    ∃ (l : List Int) (b off : Nat), SlF (fun z => Value.int k z) W a0 b off len l ∧ (∀ z ∈ l, (Lit.int k z).wf = true) ∧ len ≤ cap := by
  obtain ⟨fuel, hf⟩ := h
  rcases open_ints hS hE hc hf with ⟨hcs, hx⟩ | ⟨a, len', cap', zs, hcs, _, hl, hmx, hz, hx, hcell, hwz⟩
  · simp [Value.cells] at hcs
    obtain ⟨rfl, rfl, rfl⟩ := hcs
    exact ⟨[], 0, 0, SlF.nil _ _, (fun z hz => by cases hz), Nat.le_refl _⟩
  · simp [Value.cells] at hcs
    obtain ⟨rfl, rfl, rfl⟩ := hcs
    simp only [if_true] at hz
    obtain ⟨b, off, spot⟩ := a
    have hmax : len ≤ 9223372036854775807 := by unfold maxLen at hmx; omega
    by_cases hz0 : zs.length = 0
    · have hlen0 : len = 0 := by omega
      subst hlen0
      exact ⟨[], 0, 0, ⟨rfl, fun h => by omega, fun k hk => by simp at hk, fun h => by omega, by omega⟩, (fun z hz => by cases hz), by omega⟩
    · have hspot : spot = none := by simpa [Addr.add] using World.cell?_spot (hcell 0 (by omega))
      subst hspot
      have hcell' : ∀ j, j < zs.length → W.cell? ⟨b, off + j, none⟩ = some (.int k (zs.getD j 0)) := fun j hj => by rw [← add_plain]; exact hcell j hj
      refine ⟨zs.take len, b, off, ⟨by rw [List.length_take]; omega, fun _ => rfl, fun k hk => ?_, fun _ => World.block_lt_of_cell? _ _ (hcell' 0 (by omega)), hmax⟩, fun z hz => ?_, hl⟩
      · rw [List.length_take] at hk
        have hkz : k < zs.length := by omega
        rw [hcell' k hkz, List.getElem_take, List.getD_eq_getElem?_getD, List.getElem?_eq_getElem hkz]; rfl
      · exact hwz z (List.mem_of_mem_take hz)
theorem SlF.map {α β : Type} {f : α → Value} {g : β → Value} {w : World} {p : Option Addr} {b off len : Nat} {l : List α} (h : SlF f w p b off len l) (m : α → β) (hm : ∀ x ∈ l, g (m x) = f x) : SlF g w p b off len (l.map m) :=
  ⟨by rw [List.length_map]; exact h.ln, h.ptr, fun k hk => by rw [List.length_map] at hk; rw [List.getElem_map, hm _ (List.getElem_mem hk)]; exact h.cells k hk, h.lt, h.max⟩
section
variable {H : Type} {enc : TypeId × Value → H} {W : World} {a0 : Option Addr} {len cap : Nat} {d : DataW H} {ps : List MemPlace}
theorem open_i64 (h : DataW.Trod enc Tryd.prog W 0 (fun _ => true) true 24 (.slice a0 len cap) d ps) : ∃ (l : List Int) (b off : Nat), SlF i64v W a0 b off len l ∧ I64s l ∧ len ≤ cap := by
  obtain ⟨l, b, off, h1, h2, h3⟩ := open_any Tryd.underlying24 Tryd.underlying3 cells_int h
  exact ⟨l, b, off, h1, fun z hz => bd_i64 (h2 z hz), h3⟩
end
end Go.Proofs.YtidhhndclkilnaaDoor
