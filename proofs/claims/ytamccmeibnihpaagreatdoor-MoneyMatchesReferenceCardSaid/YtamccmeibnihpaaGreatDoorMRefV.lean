/-
  The contract of the reference's Split: the same value as the program's.
-/
import Derived.Test.YtamccmeibnihpaaGreatDoorMRefU
namespace Go.Proofs.YtamccmeibnihpaaGreatDoor
open Go.RowKit Go.Lib

set_option maxHeartbeats 1000000 in
set_option maxRecDepth 100000 in
theorem rsplit_any (c : Int) (l : List Int) (p : Option Addr) (b off cap len : Nat) (w : World) (hlen : l.length = len) (hp : 0 < len → p = some ⟨b, off, none⟩) (hA : At w b off l) (hm : len ≤ 9223372036854775807) (hb : 0 < len → b < w.heap.size) :
    Calls Tryz.prog 11 #[.int .i64 c, .slice p len cap] w fun e w' =>
      ∃ (p' : Option Addr) (blk : Nat), e = .returned (.tuple #[.slice p' (splL c l).length (splL c l).length, .int .i64 (splE c l)]) ∧ (0 < (splL c l).length → p' = some ⟨blk, 0, none⟩ ∧ w.heap.size ≤ blk ∧ blk < w'.heap.size) ∧ At w' blk 0 (splL c l) ∧ RowKit.Below w.heap.size w w' := by
  by_cases hg : amt c = true ∧ ¬ whole l = 0
  · obtain ⟨hc, hw⟩ := hg
    have E1 : splL c l = partL c (whole l) l (len - 1) := by unfold splL; rw [if_pos ⟨hc, hw⟩, hlen]
    have E2 : splE c l = 0 := by unfold splE; rw [if_pos ⟨hc, hw⟩]
    obtain ⟨f1, f2, f3, f4, f5, f6⟩ := whole_facts hw
    have hcb := (amt_iff c).1 hc
    have hp1 := hp (by omega)
    have hbw := hb (by omega)
    subst hp1
    rw [E1, E2, partL_length, hlen]
    have key : Calls Tryz.prog 11 #[.int .i64 c, .slice (some ⟨b, off, none⟩) len cap] w fun e w' =>
      ∃ blk, e = .returned (.tuple #[.slice (some ⟨blk, 0, none⟩) len len, .int .i64 0]) ∧ At w' blk 0 (partL c (whole l) l (len - 1)) ∧ w.heap.size ≤ blk ∧ blk < w'.heap.size ∧ RowKit.Below w.heap.size w w' := by
      by_cases hn : c < 0
      · obtain ⟨s, rfl⟩ : ∃ s, c = -s := ⟨-c, by omega⟩
        exact rsplit_n (n := len - 1) s (whole l) l b off cap len w hlen (by omega) (by omega) f2 f3 rfl f4 f5 (by omega) (by omega) hA hbw
      · exact rsplit_p (n := len - 1) c (whole l) l b off cap len w hlen (by omega) (by omega) f2 f3 rfl f4 f5 (by omega) (by omega) hA hbw
    refine key.mono ?_
    rintro e w' ⟨blk, rfl, h1, h2, h3, h4⟩
    exact ⟨some ⟨blk, 0, none⟩, blk, rfl, fun _ => ⟨rfl, h2, h3⟩, h1, h4⟩
  · have E1 : splL c l = [] := by unfold splL; rw [if_neg hg]
    have E2 : splE c l = 1 := by unfold splE; rw [if_neg hg]
    rw [E1, E2]
    have KW := Lib.hid (fun w : World => fun (h : At w b off l) => rwhole_any l p b off cap len w hlen hp h hm)
    have K := Lib.hid (fun w : World => ramount_any c w)
    have HA : Aside (At w b off l) := hA
    generalize whole l = W at hg KW
    clear E1 E2 hA hp hb hlen
    cases hc : amt c with
    | true =>
      rw [hc] at K hg
      have hW : W = 0 := by apply Classical.byContradiction; intro h; exact hg ⟨rfl, h⟩
      subst hW
      clear hg hc
      go_enter Tryz.func11, Tryz.ntmps11
      go_wp2_with fail
      refine (K.out _).mono ?_
      rintro e w' ⟨rfl, rfl⟩
      go_wp2_with fail
      refine (KW.out _ HA.out).mono ?_
      rintro e w' ⟨rfl, rfl⟩
      go_wp2
      go_ret2
      exact ⟨none, 0, rfl, fun h => by simp at h, fun k h => by simp at h, RowKit.Below.refl _ _⟩
    | false =>
      rw [hc] at K
      clear hg hc
      go_enter Tryz.func11, Tryz.ntmps11
      go_wp2_with fail
      refine (K.out _).mono ?_
      rintro e w' ⟨rfl, rfl⟩
      go_wp2_with fail
      refine (KW.out _ HA.out).mono ?_
      rintro e w' ⟨rfl, rfl⟩
      go_wp2
      all_goals
        go_ret2
        exact ⟨none, 0, rfl, fun h => by simp at h, fun k h => by simp at h, RowKit.Below.refl _ _⟩
end Go.Proofs.YtamccmeibnihpaaGreatDoor
