/-
  The walk of few: a list cut to 100 elements.
-/
import Derived.Test.YtamccmeibnihpaaGreatDoorMWhole
namespace Go.Proofs.YtamccmeibnihpaaGreatDoor
open Go.RowKit

set_option maxHeartbeats 1000000 in
theorem few_any (p : Option Addr) (len cap : Nat) (w : World) (hm : len ≤ 9223372036854775807) (hc : len ≤ cap) :
    Calls Tryz.prog 5 #[.slice p len cap] w fun e w' => e = .returned (.slice p (min len 100) cap) ∧ w = w' := by
  by_cases h : 100 < len
  · have e : min len 100 = 100 := by omega
    rw [e]
    have hl : (100 : Int) < (len : Int) := by omega
    go_enter Tryz.func5, Tryz.ntmps5
    go_wp2
    go_ret
    exact ⟨rfl, rfl⟩
  · have e : min len 100 = len := by omega
    rw [e]
    have hl : ¬ (100 : Int) < (len : Int) := by omega
    go_enter Tryz.func5, Tryz.ntmps5
    go_wp2
    go_ret
    exact ⟨rfl, rfl⟩

theorem At.take {w : World} {b off k : Nat} {l : List Int} (h : At w b off l) : At w b off (l.take k) := fun i hi => by
  rw [List.length_take] at hi
  rw [List.getElem_take]
  exact h i (by omega)
end Go.Proofs.YtamccmeibnihpaaGreatDoor
