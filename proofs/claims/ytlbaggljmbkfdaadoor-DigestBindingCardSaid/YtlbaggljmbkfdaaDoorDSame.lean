/-
  The reference's Same.
-/
import Derived.Test.YtlbaggljmbkfdaaDoorDRefA
namespace Go.Proofs.YtlbaggljmbkfdaaDoor
open Go.RowKit Dg

set_option maxRecDepth 100000 in
set_option maxHeartbeats 1000000 in
theorem same_any (l m : List Nat) (p : Option Addr) (b off cap len : Nat) (p2 : Option Addr) (b2 off2 cap2 len2 : Nat) (w : World) (hS : SlF u64v w p b off len l) (hS2 : SlF u64v w p2 b2 off2 len2 m) :
    Calls Tryd.prog 19 #[.slice p len cap, .slice p2 len2 cap2] w fun e w' => e = .returned (.bool (decide (l = m))) ∧ RowKit.Below w.heap.size w w' := by
  have HS := Lib.hid hS
  have HS2 := Lib.hid hS2
  have HL := Lib.hid hS.ln
  have HL2 := Lib.hid hS2.ln
  have hm := hS.max
  have hm2 := hS2.max
  obtain ⟨R, hR⟩ : ∃ R, R = decide (l = m) := ⟨_, rfl⟩
  rw [← hR]
  have HR := Lib.hid hR
  clear hS hS2 hR
  by_cases hln : len = len2
  · subst hln
    go_enter Tryd.func19, Tryd.ntmps19
    go_wp2_with fail
    go_loopg [5] len (fun g s5 wr => ∃ k : Nat, s5 = .int .i64 k ∧ k ≤ len ∧ len - k ≤ g ∧ Hid (l.take k = m.take k) ∧ Hid (RowKit.Below w.heap.size w wr))
    case atStart => exact ⟨0, rfl, by omega, by omega, rfl, Below.refl _ _⟩
    case round =>
      obtain ⟨k, rfl, hk, hkg, HT, HB⟩ := hrel
      by_cases hlt : k < len
      · have hltz : (k : Int) < (len : Int) := by omega
        have hp1 := HS.out.ptr (by omega)
        have hp2 := HS2.out.ptr (by omega)
        have hk1 : k < l.length := by rw [HL.out]; exact hlt
        have hk2 : k < m.length := by rw [HL2.out]; exact hlt
        have d1 := (HS.out.bel HB.out).cells k hk1
        have d2 := (HS2.out.bel HB.out).cells k hk2
        obtain ⟨x, hx⟩ : ∃ x, x = l[k] := ⟨_, rfl⟩
        obtain ⟨y, hy⟩ : ∃ x, x = m[k] := ⟨_, rfl⟩
        rw [← hx] at d1
        rw [← hy] at d2
        unfold u64v at d1 d2
        by_cases hxy : x = y
        · have HT2 : Hid (l.take (k + 1) = m.take (k + 1)) := by
            show _ = _
            rw [List.take_succ_eq_append_getElem hk1, List.take_succ_eq_append_getElem hk2, HT.out, ← hx, ← hy, hxy]
          subst hxy
          clear hx hy
          subst hp1
          subst hp2
          go_wp2_with fail
          go_region_held3 (fun w' => w'.cell? ⟨b, off + k, none⟩ = some (.int .u64 x) ∧ w'.cell? ⟨b2, off2 + k, none⟩ = some (.int .u64 x)) (first | exact ⟨d1, d2⟩ | (go_keep; done)) (fail)
          go_wp2
          go_roundg (len - (k + 1))
          case measure => omega
          case rel => exact ⟨k + 1, by go_num, by omega, by omega, HT2.out, HB.out.drew⟩
        · have hb : ((x : Int) != (y : Int)) = true := by rw [bne_iff_ne]; omega
          have E : Hid (R = false) := by
            show _ = _
            rw [HR.out]
            refine decide_eq_false fun e => hxy ?_
            subst e
            rw [hx, hy]
          clear hx hy
          subst hp1
          subst hp2
          go_wp2_with fail
          go_region_held3 (fun w' => w'.cell? ⟨b, off + k, none⟩ = some (.int .u64 x) ∧ w'.cell? ⟨b2, off2 + k, none⟩ = some (.int .u64 y)) (first | exact ⟨d1, d2⟩ | (go_keep; done)) (fail)
          go_wp2
          go_ret
          exact ⟨ret_bool E.out.symm, HB.out.drew⟩
      · have hltz : ¬ (k : Int) < (len : Int) := by omega
        have E : Hid (R = true) := by
          show _ = _
          rw [HR.out]
          refine decide_eq_true ?_
          have := HT.out
          rw [List.take_of_length_le (by have := HL.out; omega), List.take_of_length_le (by have := HL2.out; omega)] at this
          exact this
        go_wp2
        go_ret
        exact ⟨ret_bool E.out.symm, HB.out⟩
  · have E : Hid (R = false) := by
      show _ = _
      rw [HR.out]
      refine decide_eq_false fun e => hln ?_
      subst e
      have h1 := HL.out
      have h2 := HL2.out
      omega
    have hb : ((len : Int) != (len2 : Int)) = true := by rw [bne_iff_ne]; omega
    go_enter Tryd.func19, Tryd.ntmps19
    go_wp2
    go_ret
    exact ⟨ret_bool E.out.symm, Below.refl _ _⟩
end Go.Proofs.YtlbaggljmbkfdaaDoor
