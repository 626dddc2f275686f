/-
  Mathematics of the parts: no more cents are missing than there are weights.
-/
import Derived.Test.YtamccmeibnihpaaGreatDoorMPartsDef
namespace Go.Proofs.YtamccmeibnihpaaGreatDoor
open Go.RowKit

theorem rem_sum (c W : Int) : ∀ l : List Int, c * l.sum = W * (l.map (pq c W)).sum + (l.map (fun x => (c * x).tmod W)).sum
  | [] => by simp
  | x :: l => by
    have h := rem_sum c W l
    have e := Int.mul_tdiv_add_tmod (c * x) W
    simp only [List.map_cons, List.sum_cons, Int.mul_add]
    rw [h]
    unfold pq
    omega

theorem rem_le (c W : Int) (hW : 0 < W) : ∀ l : List Int, -(W * l.length) ≤ (l.map (fun x => (c * x).tmod W)).sum ∧ (l.map (fun x => (c * x).tmod W)).sum ≤ W * l.length
  | [] => by simp
  | x :: l => by
    have h := rem_le c W hW l
    have h3 : ((c * x).tmod W).natAbs < W.natAbs := by rw [Int.natAbs_tmod]; exact Nat.mod_lt _ (by omega)
    simp only [List.map_cons, List.sum_cons, List.length_cons, Int.natCast_add, Int.mul_add, Int.natCast_one, Int.mul_one]
    omega

theorem miss_le (c W : Int) (l : List Int) (hl : l.sum = W) (hW : 0 < W) : ab (miss c W l) ≤ l.length := by
  have h := rem_sum c W l
  have k := rem_le c W hW l
  rw [hl] at h
  have e : W * miss c W l = (l.map (fun x => (c * x).tmod W)).sum := by
    unfold miss
    rw [Int.mul_sub, Int.mul_comm W c, h]
    omega
  rw [← e] at k
  have k1 : miss c W l ≤ l.length := Int.le_of_mul_le_mul_left k.2 hW
  have k2 : -(l.length : Int) ≤ miss c W l := Int.le_of_mul_le_mul_left (by rw [Int.mul_neg]; exact k.1) hW
  unfold ab
  split <;> omega

/-- One more of those who get a cent. -/
theorem gj_step (c W : Int) (l : List Int) (o : List Nat) (x k : Nat) (hx : x ∉ o) : gj c W l (o ++ [x]) k = gj c W l o k + if k = x then sgn c else 0 := by
  unfold gj
  by_cases e : k = x
  · subst e
    rw [if_pos (by simp), if_neg hx, if_pos rfl]; omega
  · rw [if_neg e]
    by_cases h : k ∈ o
    · rw [if_pos (by simp [h]), if_pos h]; omega
    · rw [if_neg (by simp [h, e]), if_neg h]; omega

theorem gj_nil (c W : Int) (l : List Int) (k : Nat) : gj c W l [] k = pq c W (l.getD k 0) := by
  unfold gj; rw [if_neg (by simp)]; omega

theorem partL_length (c W : Int) (l : List Int) (n : Nat) : (partL c W l n).length = l.length := by simp [partL]
theorem partL_get (c W : Int) (l : List Int) (n k : Nat) (h : k < (partL c W l n).length) : (partL c W l n)[k] = gj c W l ((upL c W l n).map (·.val)) k := by simp [partL]
end Go.Proofs.YtamccmeibnihpaaGreatDoor
