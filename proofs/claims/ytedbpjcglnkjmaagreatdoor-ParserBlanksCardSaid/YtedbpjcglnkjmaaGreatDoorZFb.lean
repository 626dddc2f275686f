/-
  Bytes that came in as a list.
-/
import Derived.Test.YtedbpjcglnkjmaaGreatDoorZFr
import Derived.Test.YtedbpjcglnkjmaaGreatDoorZBla
namespace Go.Proofs.YtedbpjcglnkjmaaGreatDoor
open Go.ChangeShapes Go.WideShapes Go.ChangeAt Go.WideMaps Go.WideElems Go.RowKit Lx

theorem cells_u8 : Tryz.prog.cellsOf 5 = 1 := by kernel_rfl
theorem bd_u8i {a : Int} (h : (Lit.int .u8 a).wf = true) : 0 ≤ a ∧ a < 256 := by
  have e1 : IntKind.u8.min = 0 := rfl
  have e2 : IntKind.u8.max = 255 := rfl
  have h' : 0 ≤ a ∧ a ≤ 255 := by simpa [Lit.wf, e1, e2] using h
  omega
theorem SlB.nil (w : World) (p : Option Addr) : SlB w p 0 0 0 [] := ⟨rfl, fun h => by omega, fun k h => by simp at h, fun h => by omega, by omega⟩
section
variable {H : Type} {enc : TypeId × Value → H} {W : World} {a0 : Option Addr} {len cap : Nat} {d : DataW H} {ps : List MemPlace}
theorem open_u8 (h : DataW.Trod enc Tryz.prog W 0 (fun _ => true) true 44 (.slice a0 len cap) d ps) : ∃ (l : List UInt8) (b off : Nat), SlB W a0 b off len l ∧ len ≤ cap := by
  obtain ⟨fuel, hf⟩ := h
  rcases open_ints Tryz.underlying44 Tryz.underlying5 cells_u8 hf with ⟨hcs, hx⟩ | ⟨a, len', cap', zs, hcs, _, hl, hmx, hz, hx, hcell, hwz⟩
  · simp [Value.cells] at hcs
    obtain ⟨rfl, rfl, rfl⟩ := hcs
    exact ⟨[], 0, 0, SlB.nil _ _, Nat.le_refl _⟩
  · simp [Value.cells] at hcs
    obtain ⟨rfl, rfl, rfl⟩ := hcs
    simp only [if_true] at hz
    obtain ⟨b, off, spot⟩ := a
    have hmax : len ≤ 9223372036854775807 := by unfold maxLen at hmx; omega
    by_cases hz0 : zs.length = 0
    · have hlen0 : len = 0 := by omega
      subst hlen0
      exact ⟨[], 0, 0, ⟨rfl, fun h => by omega, fun k hk => by simp at hk, fun h => by omega, by omega⟩, by omega⟩
    · have hspot : spot = none := by simpa [Addr.add] using World.cell?_spot (hcell 0 (by omega))
      subst hspot
      have hcell' : ∀ j, j < zs.length → W.cell? ⟨b, off + j, none⟩ = some (.int .u8 (zs.getD j 0)) := fun j hj => by rw [← add_plain]; exact hcell j hj
      refine ⟨(zs.take len).map (fun z => UInt8.ofNat z.toNat), b, off, ⟨by rw [List.length_map, List.length_take]; omega, fun _ => rfl, fun k hk => ?_, fun _ => World.block_lt_of_cell? _ _ (hcell' 0 (by omega)), hmax⟩, hl⟩
      rw [List.length_map, List.length_take] at hk
      have hkz : k < zs.length := by omega
      have hb := bd_u8i (hwz _ (List.getElem_mem hkz))
      rw [hcell' k hkz, List.getElem_map, List.getElem_take, List.getD_eq_getElem?_getD, List.getElem?_eq_getElem hkz, Option.getD_some]
      have e : ((UInt8.ofNat zs[k].toNat).toNat : Int) = zs[k] := by
        rw [UInt8.toNat_ofNat']
        omega
      rw [e]
end
end Go.Proofs.YtedbpjcglnkjmaaGreatDoor
