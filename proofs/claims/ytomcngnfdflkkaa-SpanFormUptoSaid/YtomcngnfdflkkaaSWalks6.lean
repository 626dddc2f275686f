/-
  Contract of the reference's Shift.
-/
import Derived.Test.YtomcngnfdflkkaaSKit
namespace Go.Proofs.Ytomcngnfdflkkaa
open Go.RowKit Spn Go.Sort

/-- A slice that reads as a list comes out; what was there before is as it was. -/
def Out1 (w : World) (l : List (Int × Int)) (e : Ending) (w' : World) : Prop := ∃ p b len cap, e = .returned (.slice p len cap) ∧ Sl w' p b 0 len l ∧ RowKit.Below w.heap.size w w'
/-- .. and an error. -/
def Out2 (w : World) (l : List (Int × Int)) (er : Int) (e : Ending) (w' : World) : Prop := ∃ p b len cap, e = .returned (.tuple #[.slice p len cap, .int .i64 er]) ∧ Sl w' p b 0 len l ∧ RowKit.Below w.heap.size w w'
/-- Moved stretches. -/
def mv (c : Int) (l : List (Int × Int)) : List (Int × Int) := l.map fun s => (s.1 + c, s.2 + c)
theorem mv_take {l : List (Int × Int)} {k : Nat} (hk : k < l.length) {x y c : Int} (e : l[k] = (x, y)) : mv c (l.take (k + 1)) = mv c (l.take k) ++ [(x + c, y + c)] := by
  unfold mv; rw [List.take_succ_eq_append_getElem hk, List.map_append, e]; rfl

set_option maxHeartbeats 1000000 in
set_option maxRecDepth 100000 in
theorem shift_any (l : List (Int × Int)) (c : Int) (p : Option Addr) (b off cap len : Nat) (w : World) (hS : Sl w p b off len l) (hl : ∀ s, s ∈ l → st s = true) (c0 : -36524 ≤ c) (c1 : c ≤ 36524) (hn : len ≤ 1000) :
    Calls Try.prog 27 #[.slice p len cap, .int .i64 c] w fun e w' => Out1 w (mv c l) e w' := by
  have HS := Lib.hid hS
  have HL := Lib.hid hS.1
  have HST := Lib.hid hl
  clear hS hl
  go_enter Try.func27, Try.ntmps27
  go_wp2_with fail
  go_loopg [5, 6] len (fun g s5 s6 wr => ∃ (k : Nat), s6 = .int .i64 k ∧ k ≤ len ∧ len - k ≤ g ∧ Hid (Own wr w.heap.size s5 (mv c (l.take k))) ∧ Hid (RowKit.Below w.heap.size w wr))
  case atStart => exact ⟨0, rfl, by omega, by omega, Own.empty _ _, Below.refl _ _⟩
  case round =>
    obtain ⟨k, rfl, hk, hkg, HO, HB⟩ := hrel
    by_cases hlt : k < len
    · have hltz : (k : Int) < (len : Int) := by omega
      have hp1 := HS.out.2.1 (by omega)
      have hkl : k < l.length := by rw [HL.out]; exact hlt
      have HS1 := Lib.hid (HS.out.below HB.out)
      obtain ⟨x, hx⟩ : ∃ x, x = l[k].1 := ⟨_, rfl⟩
      obtain ⟨y, hy⟩ : ∃ x, x = l[k].2 := ⟨_, rfl⟩
      have d1 := (HS1.out.2.2.1 k hkl).1
      have d2 := (HS1.out.2.2.1 k hkl).2
      rw [← hx] at d1
      rw [← hy] at d2
      have hk2 : l[k] = (x, y) := Prod.ext hx.symm hy.symm
      have hst := (st_iff _).1 (HST.out _ (List.getElem_mem hkl))
      rw [hk2] at hst
      obtain ⟨x0, x1, x2⟩ := hst
      have HM := Lib.hid (mv_take (c := c) hkl hk2)
      have D1 : Hid (w.cell? ⟨b, off + k * 2, none⟩ = some (.int .i64 x)) := by show _ = _; rw [hx]; exact (HS.out.2.2.1 k hkl).1
      have D2 : Hid (w.cell? ⟨b, off + k * 2 + 1, none⟩ = some (.int .i64 y)) := by show _ = _; rw [hy]; exact (HS.out.2.2.1 k hkl).2
      clear hx hy hk2
      subst hp1
      go_wp2_with fail
      have HBW : Hid (b < w.heap.size) := HS.out.2.2.2.1 (by omega)
      have s1 : IntKind.i64.wrap (x + c) = x + c := IntWalk.i64_in _ (by omega)
      have s2 : IntKind.i64.wrap (y + c) = y + c := IntWalk.i64_in _ (by omega)
      have hkb : (mv c (l.take k)).length ≤ 1000 := by unfold mv; rw [List.length_map, List.length_take]; omega
      have HBA := Lib.hid (HB.out.alloc HB.out.size (.cells #[.int .i64 (x + c), .int .i64 (y + c)] 37)).drew
      go_region_held3 (fun w' => w'.cell? ⟨b, off + k * 2, none⟩ = some (.int .i64 x) ∧ w'.cell? ⟨b, off + k * 2 + 1, none⟩ = some (.int .i64 y))
        (first | exact ⟨d1, d2⟩ | exact ⟨t1, t2⟩ | (go_keep; done))
        (first | (refine step_app (by rfl) _ _ (by rfl) w.heap.size u5 (mv c (l.take k)) (by rfl) (HO.out.alloc _) ⟨wr.heap.size, 0, none⟩ 1 1 [(x + c, y + c)] (by rfl) rfl (From.new wr (x + c) (y + c) _) (by omega) HBA.out.size ?_; intro v1 V1 own1 grow1; have hB1 := HBA.out.grown grow1 HBA.out.size HO.out.block; have t1 := (hB1.cell (p := ⟨b, off + k * 2, none⟩) HBW.out).trans D1.out; have t2 := (hB1.cell (p := ⟨b, off + k * 2 + 1, none⟩) HBW.out).trans D2.out))
      rw [← HM.out] at own1
      have HO2 := Lib.hid own1
      have HB2 := Lib.hid hB1
      clear own1 hB1 grow1 t1 t2
      go_wp2
      go_roundg (len - (k + 1))
      case measure => omega
      case rel => exact ⟨k + 1, by go_num, by omega, by omega, HO2, HB2⟩
    · have hltz : ¬ (k : Int) < (len : Int) := by omega
      have hkl : l.take k = l := List.take_of_length_le (by have := HL.out; omega)
      have HO2 : Hid (Own wr w.heap.size u5 (mv c l)) := by have := HO.out; rw [hkl] at this; exact this
      have HR := HO2.out.reads (by unfold mv; rw [List.length_map, HL.out]; omega) (fun s hs => by
        unfold mv at hs
        obtain ⟨t, ht, rfl⟩ := List.mem_map.1 hs
        have := (st_iff _).1 (HST.out t ht)
        unfold In64; simp only []; omega)
      have hml : (mv c l).length = len := by unfold mv; rw [List.length_map, HL.out]
      rw [hml] at HR
      obtain ⟨p', b', cap', rfl, hsl⟩ := HR
      have HSL := Lib.hid hsl
      clear hsl hml hkl HO HO2
      go_wp2
      go_ret
      exact ⟨p', b', len, cap', rfl, HSL.out, HB.out⟩
end Go.Proofs.Ytomcngnfdflkkaa
