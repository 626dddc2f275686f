/-
  The law on trees: the root is the digest of 1 and the roots of the first m leaves and of the others.
-/
import Derived.Test.YtlbaggljmbkfdaaDoorDPathW
namespace Go.Proofs.YtlbaggljmbkfdaaDoor
open Go.RowKit Dg

theorem SlF.take {α : Type} {f : α → Value} {w : World} {p : Option Addr} {b off len : Nat} {l : List α} (h : SlF f w p b off len l) {m : Nat} (hm : m ≤ len) : SlF f w p b off m (l.take m) :=
  ⟨by rw [List.length_take, h.ln]; omega, fun hh => h.ptr (by omega), fun k hk => by rw [List.length_take] at hk; rw [List.getElem_take]; exact h.cells k (by omega), fun hh => h.lt (by omega), by have := h.max; omega⟩
theorem SlF.drop {α : Type} {f : α → Value} {w : World} {b off len : Nat} {l : List α} {p : Option Addr} (h : SlF f w p b off len l) {m : Nat} (hm : m ≤ len) : SlF f w (some ⟨b, off + m, none⟩) b (off + m) (len - m) (l.drop m) :=
  ⟨by rw [List.length_drop, h.ln], fun hh => rfl, fun k hk => by rw [List.length_drop] at hk; rw [List.getElem_drop, Nat.add_assoc]; exact h.cells (m + k) (by omega), fun hh => h.lt (by omega), by have := h.max; omega⟩

set_option maxRecDepth 100000 in
set_option maxHeartbeats 2000000 in
theorem tree_law (l : List Nat) (p : Option Addr) (b off cap len : Nat) (w : World) (hS : SlF u64v w p b off len l) (hc : len ≤ cap) (hT : Tab w) :
    Calls Tryd.prog 6 #[.slice p len cap] w fun e w' => e = .returned (.bool true) ∧ RowKit.Below w.heap.size w w' := by
  have HSL := Lib.hid hS
  have HT0 := Lib.hid hT
  have hmx := hS.max
  have HL := Lib.hid hS.ln
  clear hS
  by_cases h0 : len = 0
  · have hz : decide ((len : Int) = 0) = true := decide_eq_true (by omega)
    have HB0 : Hid (RowKit.Below w.heap.size w w) := Below.refl _ _
    go_enter Tryd.func6, Tryd.ntmps6
    go_wp2_with fail
    refine (head_any _ HT0.out).mono ?_
    rintro _ w1 ⟨rfl, hb⟩
    have HB1 := Lib.hid (HB0.out.trans (hb.mono HB0.out.size))
    have HT1 := Lib.hid (HT0.out.below hb)
    clear hb
    go_wp2
    go_ret
    exact ⟨rfl, HB1.out⟩
  by_cases h1 : 1024 < len
  · have hz : (1024 : Int) < (len : Int) := by omega
    have hz0 : decide ((len : Int) = 0) = false := decide_eq_false (by omega)
    have HB0 : Hid (RowKit.Below w.heap.size w w) := Below.refl _ _
    go_enter Tryd.func6, Tryd.ntmps6
    go_wp2_with fail
    refine (head_any _ HT0.out).mono ?_
    rintro _ w1 ⟨rfl, hb⟩
    have HB1 := Lib.hid (HB0.out.trans (hb.mono HB0.out.size))
    have HT1 := Lib.hid (HT0.out.below hb)
    clear hb
    go_wp2
    go_ret
    exact ⟨rfl, HB1.out⟩
  obtain ⟨R, hR⟩ : ∃ R, R = rt l := ⟨_, rfl⟩
  have hln : l.length = len := HL.out
  have HR : Hid (rtR l = R) := by show _ = _; unfold rtR; rw [if_pos (cE_zero (by omega) (by omega)), hR]
  have HE : Hid (cE l.length = 0) := cE_zero (by omega) (by omega)
  have hp1 := HSL.out.ptr (by omega)
  have hz1 : ¬ (1024 : Int) < (len : Int) := by omega
  have hz0 : decide ((len : Int) = 0) = false := decide_eq_false (by omega)
  have hb0 : ((len : Int) == 0) = false := by rw [beq_eq_false_iff_ne]; omega
  have hd1 : decide ((1024 : Int) < (len : Int)) = false := decide_eq_false (by omega)
  subst hp1
  by_cases hone : len = 1
  · obtain ⟨x, rfl⟩ : ∃ x, l = [x] := by
      rcases l with _ | ⟨x, _ | ⟨y, l⟩⟩
      · simp at hln; omega
      · exact ⟨x, rfl⟩
      · simp at hln; omega
    subst hone
    obtain ⟨N9, hN9⟩ : ∃ N, N = 9 := ⟨_, rfl⟩
    obtain ⟨L, hL⟩ : ∃ L, L = lfB x := ⟨_, rfl⟩
    have HBA : Hid (0 :: blk [x] = L) := by show _ = _; rw [hL, blk_lf]
    have HNA : Hid (L.length = N9) := by show _ = _; rw [hL, hN9]; rfl
    have HDA : Hid (dig L = R) := by show _ = _; rw [hL, hR, rt_one]; rfl
    have HYA : Hid (Bytes L) := by rw [hL]; exact bytes_lf _
    have HX : Hid (∀ W, SlF u64v W (some ⟨b, off, none⟩) b off 1 [x] → W.cell? ⟨b, off, none⟩ = some (.int .u64 x)) := fun W h => h.cells 0 (by simp)
    clear hR hN9 hL hln
    have HB0 : Hid (RowKit.Below w.heap.size w w) := Below.refl _ _
    go_enter Tryd.func6, Tryd.ntmps6
    go_wp2_with fail
    refine (head_any _ HT0.out).mono ?_
    rintro _ w1 ⟨rfl, hb⟩
    have HB1 := Lib.hid (HB0.out.trans (hb.mono HB0.out.size))
    have HT1 := Lib.hid (HT0.out.below hb)
    have HL1 := Lib.hid (HSL.out.bel hb)
    clear hb
    go_wp2_with fail
    refine (rootK HR.out HE.out HL1.out).mono ?_
    rintro _ w2 ⟨rfl, hb⟩
    have HB2 := Lib.hid (HB1.out.trans (hb.mono HB1.out.size))
    have HT2 := Lib.hid (HT1.out.below hb)
    have HL2 := Lib.hid (HL1.out.bel hb)
    clear hb
    have c1 := HX.out _ HL2.out
    have HB3 := Lib.hid (HB2.out.alloc HB2.out.size (.cells (([x] : List _).map u64v).toArray 25))
    have HL3 := Lib.hid (HL2.out.alloc (.cells (([x] : List _).map u64v).toArray 25))
    have HS3 := Lib.hid (SlF.lit w2 u64v [x] 25 (fr := (0, 0)))
    have HT3 := Lib.hid (HT2.out.below ((Below.refl _ _).alloc (Nat.le_refl _) (.cells (([x] : List _).map u64v).toArray 25)))
    go_wp2_with fail
    refine (bytesK HBA.out HNA.out HS3.out (by simp)).mono ?_
    rintro _ w4 ⟨q4, b4, cap4, rfl, hs, hc4, hb⟩
    have HB4 := Lib.hid (HB3.out.trans (hb.mono HB3.out.size))
    have HT4 := Lib.hid (HT3.out.below hb)
    have HS4 := Lib.hid (HS3.out.bel hb)
    clear hb
    have HQ4 := Lib.hid hs
    clear hs
    go_wp2_with fail
    refine (sumK HDA.out HYA.out HQ4.out).mono ?_
    rintro _ w5 ⟨rfl, hb⟩
    have HB5 := Lib.hid (HB4.out.trans (hb.mono HB4.out.size))
    have HT5 := Lib.hid (HT4.out.below hb)
    have HQ5 := Lib.hid (HQ4.out.bel hb)
    clear hb
    go_wp2
    go_ret
    exact ⟨rfl, HB5.out⟩
  have hone1 : decide ((len : Int) = 1) = false := decide_eq_false (by omega)
  have hone2 : ((len : Int) == 1) = false := by rw [beq_eq_false_iff_ne]; omega
  clear hR
  have HB0 : Hid (RowKit.Below w.heap.size w w) := Below.refl _ _
  go_enter Tryd.func6, Tryd.ntmps6
  go_wp2_with fail
  refine (head_any _ HT0.out).mono ?_
  rintro _ w1 ⟨rfl, hb⟩
  have HB1 := Lib.hid (HB0.out.trans (hb.mono HB0.out.size))
  have HT1 := Lib.hid (HT0.out.below hb)
  have HL1 := Lib.hid (HSL.out.bel hb)
  clear hb
  go_wp2_with fail
  refine (rootK HR.out HE.out HL1.out).mono ?_
  rintro _ w2 ⟨rfl, hb⟩
  have HB2 := Lib.hid (HB1.out.trans (hb.mono HB1.out.size))
  have HT2 := Lib.hid (HT1.out.below hb)
  have HL2 := Lib.hid (HL1.out.bel hb)
  clear hb
  go_wp2_with fail
  go_loopg [6] len (fun g s6 wr => ∃ (k m : Nat), s6 = .int .i64 m ∧ m = 2 ^ k ∧ m < len ∧ len - m ≤ g ∧ wr = w2)
  case atStart => exact ⟨0, 1, rfl, rfl, by omega, by omega, rfl⟩
  case round =>
    obtain ⟨k, m, rfl, hm, hml, hg, rfl⟩ := hrel
    have HMP := Lib.hid hm
    have hm1 : 1 ≤ m := by have := Nat.two_pow_pos k; omega
    clear hm
    by_cases hlt : 2 * m < len
    · have hltz : 2 * (m : Int) < (len : Int) := by omega
      go_wp2
      go_roundg (len - 2 * m)
      case measure => omega
      case rel => exact ⟨k + 1, 2 * m, by go_num, by have := HMP.out; rw [Nat.pow_succ]; omega, by omega, Nat.le_refl _, rfl⟩
    · have hltz : ¬ 2 * (m : Int) < (len : Int) := by omega
      obtain ⟨a, ha⟩ : ∃ a, a = rt (l.take m) := ⟨_, rfl⟩
      obtain ⟨c, hc2⟩ : ∃ a, a = rt (l.drop m) := ⟨_, rfl⟩
      have HA : Hid (rtR (l.take m) = a) := by show _ = _; unfold rtR; rw [if_pos (cE_zero (by rw [List.length_take]; omega) (by rw [List.length_take]; omega)), ha]
      have HAE : Hid (cE (l.take m).length = 0) := cE_zero (by rw [List.length_take]; omega) (by rw [List.length_take]; omega)
      have HC : Hid (rtR (l.drop m) = c) := by show _ = _; unfold rtR; rw [if_pos (cE_zero (by rw [List.length_drop]; omega) (by rw [List.length_drop]; omega)), hc2]
      have HCE : Hid (cE (l.drop m).length = 0) := cE_zero (by rw [List.length_drop]; omega) (by rw [List.length_drop]; omega)
      have HJ : Hid (R = prN a c) := by
        show _ = _
        have h := rt_join (l := l) (k := k) (by have := HMP.out; omega) (by have := HMP.out; omega)
        rw [← HMP.out, ← ha, ← hc2] at h
        have h2 := HR.out
        unfold rtR at h2
        rw [if_pos HE.out] at h2
        rw [← h2, h]
      obtain ⟨N17, hN17⟩ : ∃ N, N = 17 := ⟨_, rfl⟩
      obtain ⟨L, hL⟩ : ∃ L, L = prB a c := ⟨_, rfl⟩
      have HBA : Hid (1 :: blk [a, c] = L) := by show _ = _; rw [hL, blk_pr]
      have HNA : Hid (L.length = N17) := by show _ = _; rw [hL, hN17]; rfl
      have HDA : Hid (dig L = R) := by show _ = _; rw [hL, HJ.out]; rfl
      have HYA : Hid (Bytes L) := by rw [hL]; exact bytes_pr _ _
      have hmc : (m : Int) ≤ (cap : Int) := by omega
      have hml2 : (m : Int) ≤ (len : Int) := by omega
      have hlc : (len : Int) ≤ (cap : Int) := by omega
      have hne : ¬ cap = m := by omega
      have hmn : m ≤ len := by omega
      clear ha hc2 hN17 hL HJ
      go_wp2_with fail
      refine (rootK HA.out HAE.out (HL2.out.take hmn)).mono ?_
      rintro _ w3 ⟨rfl, hb⟩
      have HB3 := Lib.hid (HB2.out.trans (hb.mono HB2.out.size))
      have HT3 := Lib.hid (HT2.out.below hb)
      have HL3 := Lib.hid (HL2.out.bel hb)
      clear hb
      go_wp2_with fail
      refine (rootK HC.out HCE.out (HL3.out.drop hmn)).mono ?_
      rintro _ w4 ⟨rfl, hb⟩
      have HB4 := Lib.hid (HB3.out.trans (hb.mono HB3.out.size))
      have HT4 := Lib.hid (HT3.out.below hb)
      have HL4 := Lib.hid (HL3.out.bel hb)
      clear hb
      have HB5 := Lib.hid (HB4.out.alloc HB4.out.size (.cells (([a, c] : List _).map u64v).toArray 25))
      have HS5 := Lib.hid (SlF.lit w4 u64v [a, c] 25 (fr := (0, 0)))
      have HT5 := Lib.hid (HT4.out.below ((Below.refl _ _).alloc (Nat.le_refl _) (.cells (([a, c] : List _).map u64v).toArray 25)))
      go_wp2_with fail
      refine (bytesK HBA.out HNA.out HS5.out (by simp)).mono ?_
      rintro _ w6 ⟨q6, b6, cap6, rfl, hs, hc6, hb⟩
      have HB6 := Lib.hid (HB5.out.trans (hb.mono HB5.out.size))
      have HT6 := Lib.hid (HT5.out.below hb)
      have HS6 := Lib.hid (HS5.out.bel hb)
      clear hb
      have HQ6 := Lib.hid hs
      clear hs
      go_wp2_with fail
      refine (sumK HDA.out HYA.out HQ6.out).mono ?_
      rintro _ w7 ⟨rfl, hb⟩
      have HB7 := Lib.hid (HB6.out.trans (hb.mono HB6.out.size))
      have HT7 := Lib.hid (HT6.out.below hb)
      have HQ7 := Lib.hid (HQ6.out.bel hb)
      clear hb
      go_wp2
      go_ret
      exact ⟨rfl, HB7.out⟩
end Go.Proofs.YtlbaggljmbkfdaaDoor
