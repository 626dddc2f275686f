/-
  Contracts of Has, of the functions of the library that it calls, and of the reference's Same.
-/
import Derived.Test.YtomcngnfdflkkaaSWalks3
namespace Go.Proofs.Ytomcngnfdflkkaa
open Go.RowKit Spn Go.Sort

theorem hasFn_any (x y d : Int) (bx : Nat) (w : World) (hbx : w.cell? ⟨bx, 0, none⟩ = some (.int .i64 d)) (hbl : bx < w.heap.size) :
    Calls Try.prog 39 #[.agg #[.int .i64 x, .int .i64 y], .pointer (some ⟨bx, 0, none⟩)] w fun e w' => e = .returned (.bool (decide (x ≤ d) && decide (d < y))) ∧ RowKit.Below w.heap.size w w' := by
  by_cases h1 : x ≤ d
  · rw [decide_eq_true h1, Bool.true_and]
    go_enter Try.func39, Try.ntmps39
    go_wp2
    go_ret
    exact ⟨rfl, (Below.refl _ _).alloc (Nat.le_refl _) _⟩
  · have h1' : decide (x ≤ d) = false := decide_eq_false h1
    rw [h1', Bool.false_and]
    go_enter Try.func39, Try.ntmps39
    go_wp2
    go_ret
    exact ⟨rfl, (Below.refl _ _).alloc (Nat.le_refl _) _⟩
theorem hasFn_b (x y d : Int) (bx : Nat) (c : Bool) (hc : (decide (x ≤ d) && decide (d < y)) = c) (w : World) (hbx : w.cell? ⟨bx, 0, none⟩ = some (.int .i64 d)) (hbl : bx < w.heap.size) :
    Calls Try.prog 39 #[.agg #[.int .i64 x, .int .i64 y], .pointer (some ⟨bx, 0, none⟩)] w fun e w' => e = .returned (.bool c) ∧ RowKit.Below w.heap.size w w' := by
  rw [← hc]; exact hasFn_any x y d bx w hbx hbl

set_option maxHeartbeats 1000000 in
set_option maxRecDepth 100000 in
theorem idx_any (l : List (Int × Int)) (d : Int) (bx : Nat) (p : Option Addr) (b off cap len : Nat) (w : World) (hS : Sl w p b off len l) (hbx : w.cell? ⟨bx, 0, none⟩ = some (.int .i64 d)) (hbl : bx < w.heap.size) :
    Calls Try.prog 41 #[.slice p len cap, .func (.func 39) #[] #[.pointer (some ⟨bx, 0, none⟩)]] w
      fun e w' => (∃ r : Int, e = .returned (.int .i64 r) ∧ decide (0 ≤ r) = cov l d) ∧ Below w.heap.size w w' := by
  have HS := Lib.hid hS
  have hm := hS.2.2.2.2.1
  have HL := Lib.hid hS.1
  have HX := Lib.hid hbx
  have HXL := Lib.hid hbl
  clear hS hbx hbl
  go_enter Try.func41, Try.ntmps41
  go_wp2_with fail
  go_loopg [8] len (fun g s8 wr => ∃ (k : Nat), s8 = .int .i64 k ∧ k ≤ len ∧ len - k ≤ g ∧ Hid (cov (l.take k) d = false) ∧ Hid (RowKit.Below w.heap.size w wr))
  case atStart => exact ⟨0, rfl, by omega, by omega, rfl, Below.refl _ _⟩
  case round =>
    obtain ⟨k, rfl, hk, hkg, HT, HBr⟩ := hrel
    by_cases hlt : k < len
    · have hltz : (k : Int) < (len : Int) := by omega
      have hp1 := HS.out.2.1 (by omega)
      have hkl : k < l.length := by rw [HL.out]; exact hlt
      have HS2 := Lib.hid (HS.out.below HBr.out)
      obtain ⟨x, hx⟩ : ∃ x, x = l[k].1 := ⟨_, rfl⟩
      obtain ⟨y, hy⟩ : ∃ x, x = l[k].2 := ⟨_, rfl⟩
      have c1 := (HS2.out.2.2.1 k hkl).1
      have c2 := (HS2.out.2.2.1 k hkl).2
      rw [← hx] at c1
      rw [← hy] at c2
      have hk2 : l[k] = (x, y) := Prod.ext hx.symm hy.symm
      clear hx hy
      subst hp1
      have HX2 : Hid (wr.cell? ⟨bx, 0, none⟩ = some (.int .i64 d)) := (HBr.out.cell (p := ⟨bx, 0, none⟩) HXL.out).trans HX.out
      have HXL2 : Hid (bx < wr.heap.size) := Nat.lt_of_lt_of_le HXL.out HBr.out.size
      by_cases h : x ≤ d ∧ d < y
      · have K := Lib.hid (hasFn_b x y d bx true (by rw [decide_eq_true h.1, decide_eq_true h.2]; rfl))
        have E : Hid (decide ((0 : Int) ≤ (k : Int)) = cov l d) := by show _ = _; rw [cov_here hkl hk2 h.1 h.2]; exact decide_eq_true (by omega)
        clear hk2 h
        go_wp2_with fail
        refine (K.out _ HX2.out HXL2.out).mono ?_
        rintro _ w1 ⟨rfl, hb⟩
        have HB2 := Lib.hid (HBr.out.trans (hb.mono HBr.out.size))
        clear hb
        go_wp2
        go_ret
        exact ⟨⟨_, rfl, E.out⟩, HB2.out⟩
      · have K := Lib.hid (hasFn_b x y d bx false (by
          by_cases h1 : x ≤ d
          · rw [decide_eq_true h1, decide_eq_false (by omega)]; rfl
          · rw [decide_eq_false h1]; rfl))
        have HTn : Hid (cov (l.take (k + 1)) d = false) := cov_past hkl hk2 HT.out h
        clear hk2 h
        go_wp2_with fail
        refine (K.out _ HX2.out HXL2.out).mono ?_
        rintro _ w1 ⟨rfl, hb⟩
        have HB2 := Lib.hid (HBr.out.trans (hb.mono HBr.out.size))
        clear hb
        go_wp2
        go_roundg (len - (k + 1))
        case measure => omega
        case rel => exact ⟨k + 1, by go_num, by omega, by omega, HTn, HB2.out⟩
    · have hltz : ¬ (k : Int) < (len : Int) := by omega
      have E : Hid (decide ((0 : Int) ≤ -1) = cov l d) := by show _ = _; rw [← show cov (l.take k) d = cov l d by rw [List.take_of_length_le (by have := HL.out; omega)], HT.out]; rfl
      go_wp2
      go_ret
      exact ⟨⟨_, rfl, E.out⟩, HBr.out⟩

set_option maxHeartbeats 1000000 in
theorem cont_any (l : List (Int × Int)) (d : Int) (bx : Nat) (p : Option Addr) (b off cap len : Nat) (w : World) (hS : Sl w p b off len l) (hbx : w.cell? ⟨bx, 0, none⟩ = some (.int .i64 d)) (hbl : bx < w.heap.size) :
    Calls Try.prog 38 #[.slice p len cap, .func (.func 39) #[] #[.pointer (some ⟨bx, 0, none⟩)]] w
      fun e w' => e = .returned (.bool (cov l d)) ∧ Below w.heap.size w w' := by
  have K := Lib.hid (idx_any l d bx p b off cap len w hS hbx hbl)
  clear hS hbx hbl
  go_enter Try.func38, Try.ntmps38
  go_wp2_with fail
  refine K.out.mono ?_
  rintro _ w1 ⟨⟨r, rfl, hr⟩, hb⟩
  have HR := Lib.hid hr
  have HB := Lib.hid hb
  clear hr hb
  go_wp2
  go_ret
  exact ⟨ret_bool HR.out, HB.out⟩

set_option maxHeartbeats 1000000 in
theorem Has_any (l : List (Int × Int)) (d : Int) (p : Option Addr) (b off cap len : Nat) (w : World) (hS : Sl w p b off len l) :
    Calls Try.prog 21 #[.slice p len cap, .int .i64 d] w fun e w' => e = .returned (.tuple #[.bool (hsV l d), .int .i64 (hsE l)]) ∧ Below w.heap.size w w' := by
  have HS := Lib.hid hS
  clear hS
  cases hv : vl l with
  | false =>
    have E := Lib.hid (hs_bad d hv)
    have KV := Lib.hid (valid_b l p b off cap len false hv)
    clear hv
    go_enter Try.func21, Try.ntmps21
    go_wp2_with fail
    refine (KV.out _ (HS.out.below ((Below.refl _ _).alloc (Nat.le_refl _) _))).mono ?_
    rintro _ w1 ⟨rfl, hb⟩
    have HB : Hid (RowKit.Below w.heap.size w w1) := ((Below.refl _ _).alloc (Nat.le_refl _) _).trans (hb.mono (by simp))
    clear hb
    go_wp2
    go_ret2
    exact ⟨ret_bi E.out.1.symm E.out.2.symm, HB.out⟩
  | true =>
    have E := Lib.hid (hs_ok d hv)
    have KV := Lib.hid (valid_b l p b off cap len true hv)
    clear hv
    go_enter Try.func21, Try.ntmps21
    go_wp2_with fail
    refine (KV.out _ (HS.out.below ((Below.refl _ _).alloc (Nat.le_refl _) _))).mono ?_
    rintro _ w1 ⟨rfl, hb⟩
    have HB : Hid (RowKit.Below w.heap.size w w1) := ((Below.refl _ _).alloc (Nat.le_refl _) _).trans (hb.mono (by simp))
    have HX : Hid (w1.cell? ⟨w.heap.size, 0, none⟩ = some (.int .i64 d)) := (hb.cell (p := ⟨w.heap.size, 0, none⟩) (by simp)).trans (by rw [World.cell?_alloc_new]; rfl)
    have HXL : Hid (w.heap.size < w1.heap.size) := by have := hb.size; simp at this; show _ < _; omega
    clear hb
    go_wp2_with fail
    refine (cont_any l d w.heap.size p b off cap len _ (HS.out.below HB.out) HX.out HXL.out).mono ?_
    rintro _ w2 ⟨rfl, hb⟩
    have HB2 := Lib.hid (HB.out.trans (hb.mono HB.out.size))
    clear hb
    go_wp2
    go_ret2
    exact ⟨ret_bi E.out.1.symm E.out.2.symm, HB2.out⟩
end Go.Proofs.Ytomcngnfdflkkaa
