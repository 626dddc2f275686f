/-
  The walk of the law on parts.
-/
import Derived.Test.YtamccmeibnihpaaDoorMPartsNeg
import Derived.Test.YtamccmeibnihpaaDoorMPartsZero
import Derived.Test.YtamccmeibnihpaaDoorMPartsPos
namespace Go.Proofs.YtamccmeibnihpaaDoor
open Go.RowKit

set_option maxRecDepth 100000 in
set_option maxHeartbeats 8000000 in
theorem parts_law (c : Int) (l : List Int) (p : Option Addr) (b off cap len : Nat) (w : World) (hE : Tab w) (_c0 : -9223372036854775808 ≤ c) (_c1 : c ≤ 9223372036854775807) (hlen : l.length = len) (hp : 0 < len → p = some ⟨b, off, none⟩) (hA : At w b off l) (hm : len ≤ 9223372036854775807) (hb : 0 < len → b < w.heap.size) :
    Calls Tryd.prog 6 #[.int .i64 c, .slice p len cap] w fun e w' => e = .returned (.bool true) ∧ Below w.heap.size w w' := by
  by_cases hg : amt c = true ∧ ¬ whole l = 0
  · rcases Int.lt_trichotomy c 0 with h | h | h
    · exact parts_neg c l p b off cap len w hE hlen hp hA hm hb hg h
    · exact parts_zero c l p b off cap len w hE hlen hp hA hm hb hg h
    · exact parts_pos c l p b off cap len w hE hlen hp hA hm hb hg h
  · skip
    have HE := Lib.hid hE
    have HL : Hid (l.length = len) := hlen
    have HA : Aside (At w b off l) := hA
    have HP : Aside (0 < len → p = some ⟨b, off, none⟩) := hp
    have HB : Aside (0 < len → b < w.heap.size) := hb
    have KA := Lib.hid (fun w : World => ramount_any c w)
    have E1 : Hid (splL c l = []) := by show _ = _; unfold splL; rw [if_neg hg]
    have E2 : Hid (splE c l = 1) := by show _ = _; unfold splE; rw [if_neg hg]
    obtain ⟨W, hWe⟩ : ∃ W, W = whole l := ⟨_, rfl⟩
    have HW : Hid (W = whole l) := hWe
    rw [← hWe] at hg
    have hcase : amt c = false ∨ (amt c = true ∧ W = 0) := by
      cases hc : amt c with
      | false => left; rfl
      | true => right; exact ⟨rfl, Classical.byContradiction fun x => hg ⟨hc, x⟩⟩
    clear hE hA hp hb hlen hg hWe
    rcases hcase with hc | ⟨hc, rfl⟩
    all_goals
      rw [hc] at KA
      clear hc
      go_enter Tryd.func6, Tryd.ntmps6
      go_wp2_with fail
      refine (head_any _ HE.out).mono ?_
      rintro _ w1 ⟨rfl, hb1⟩
      have HB1 : Aside (Below w.heap.size w w1) := hb1
      have A1 : Aside (At w1 b off l) := fun k hk => by
        have hl := HL.out
        exact (HA.out.below hb1 (HB.out (by omega))) k hk
      have hbw1 : Hid (0 < len → b < w1.heap.size) := fun h => Nat.lt_of_lt_of_le (HB.out h) hb1.size
      clear hb1
      go_wp2_with fail
      refine (split_any c l _ b off cap len _ HL.out HP.out A1.out hm hbw1.out).mono ?_
      rintro _ w2 ⟨p', blk, rfl, _, _, hb2⟩
      rw [E1.out, E2.out]
      have HB2 : Aside (Below w.heap.size w w2) := HB1.out.trans (hb2.mono HB1.out.size)
      have A2 : Aside (At w2 b off l) := fun k hk => by
        have hl := HL.out
        exact (A1.out.below hb2 (hbw1.out (by omega))) k hk
      clear hb2 HB1 A1 E1 E2
      go_wp2_with fail
      refine (rwhole_any l _ b off cap len _ HL.out HP.out A2.out hm).mono ?_
      rw [← HW.out]
      rintro _ w3 ⟨rfl, rfl⟩
      go_wp2_with fail
      refine (KA.out _).mono ?_
      rintro _ w3 ⟨rfl, rfl⟩
      go_wp2
      go_ret
      exact ⟨rfl, HB2.out⟩
end Go.Proofs.YtamccmeibnihpaaDoor
