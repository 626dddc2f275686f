/-
  The law on order: what binds more tightly is combined first, and a greater one is a less one with the operands exchanged.
-/
import Derived.Test.YtedbpjcglnkjmaaGreatDoorZS
namespace Go.Proofs.YtedbpjcglnkjmaaGreatDoor
open Go.RowKit Lx Pa

theorem par_data' {s : ByteArray} {l : List UInt8} (h : s.data.toList = l) : (⟨#[40]⟩ ++ s ++ ⟨#[10, 41]⟩ : ByteArray).data.toList = par l := by
  rw [← h]; simp [par, sLp, sRp]
def TwoC (S T : ByteArray) : Prop := ∀ w : World, Calls Tryz.prog 20 #[.string S, .string T] w fun e w' => e = .returned (.bool true) ∧ RowKit.Below w.heap.size w w'
theorem twoC {S T : ByteArray} {a b : List UInt8} (ha : S.data.toList = a) (hb : T.data.toList = b) (hs : S.size ≤ 281474976710656) (ht : T.size ≤ 281474976710656) (h : Two M0 Vh a b) : Hid (TwoC S T) := fun w => two_any S T a b ha hb hs ht (two_vals h) w
theorem lit_size (l : Array UInt8) : (⟨l⟩ : ByteArray).size = l.toList.length := by simp [ByteArray.size]
theorem size_le {n : Nat} (h : n ≤ 100000) : n ≤ 281474976710656 := by omega
def pairL : List (List UInt8 × List UInt8) := [(sAdd, sMul), (sSub, sDiv), (sLt, sAdd), (sGe, sSub), (kAnd, sEq), (kOr, kAnd), (kOr, sLe), (sNe, sMul)]
theorem pair_at (k : Nat) (hk : k < 8) : ∃ g0 g1 : ByteArray, #[.string ⟨#[43]⟩, .string ⟨#[42]⟩, .string ⟨#[45]⟩, .string ⟨#[47]⟩, .string ⟨#[60]⟩, .string ⟨#[43]⟩, .string ⟨#[62, 61]⟩, .string ⟨#[45]⟩, .string ⟨#[97, 110, 100]⟩, .string ⟨#[61]⟩, .string ⟨#[111, 114]⟩, .string ⟨#[97, 110, 100]⟩, .string ⟨#[111, 114]⟩, .string ⟨#[60, 61]⟩, .string ⟨#[33, 61]⟩, .string ⟨#[42]⟩][k * 2]? = some (Value.string g0) ∧ #[.string ⟨#[43]⟩, .string ⟨#[42]⟩, .string ⟨#[45]⟩, .string ⟨#[47]⟩, .string ⟨#[60]⟩, .string ⟨#[43]⟩, .string ⟨#[62, 61]⟩, .string ⟨#[45]⟩, .string ⟨#[97, 110, 100]⟩, .string ⟨#[61]⟩, .string ⟨#[111, 114]⟩, .string ⟨#[97, 110, 100]⟩, .string ⟨#[111, 114]⟩, .string ⟨#[60, 61]⟩, .string ⟨#[33, 61]⟩, .string ⟨#[42]⟩][k * 2 + 1]? = some (Value.string g1) ∧ (g0.data.toList, g1.data.toList) ∈ pairL ∧ g0.size ≤ 3 ∧ g1.size ≤ 3 := by
  rcases (show k = 0 ∨ k = 1 ∨ k = 2 ∨ k = 3 ∨ k = 4 ∨ k = 5 ∨ k = 6 ∨ k = 7 by omega) with rfl | rfl | rfl | rfl | rfl | rfl | rfl | rfl
  · exact ⟨⟨#[43]⟩, ⟨#[42]⟩, rfl, rfl, by decide, by decide, by decide⟩
  · exact ⟨⟨#[45]⟩, ⟨#[47]⟩, rfl, rfl, by decide, by decide, by decide⟩
  · exact ⟨⟨#[60]⟩, ⟨#[43]⟩, rfl, rfl, by decide, by decide, by decide⟩
  · exact ⟨⟨#[62, 61]⟩, ⟨#[45]⟩, rfl, rfl, by decide, by decide, by decide⟩
  · exact ⟨⟨#[97, 110, 100]⟩, ⟨#[61]⟩, rfl, rfl, by decide, by decide, by decide⟩
  · exact ⟨⟨#[111, 114]⟩, ⟨#[97, 110, 100]⟩, rfl, rfl, by decide, by decide, by decide⟩
  · exact ⟨⟨#[111, 114]⟩, ⟨#[60, 61]⟩, rfl, rfl, by decide, by decide, by decide⟩
  · exact ⟨⟨#[33, 61]⟩, ⟨#[42]⟩, rfl, rfl, by decide, by decide, by decide⟩
set_option maxRecDepth 100000 in
set_option maxHeartbeats 12000000 in
theorem order_main (s0 s1 s2 : ByteArray) (op : Nat) (w : World) (h0 : s0.size + s1.size + s2.size ≤ 900) (hop : op < 256) : Calls Tryz.prog 8 #[.string s0, .string s1, .string s2, .int .u8 op] w fun e w' => e = .returned (.bool true) ∧ RowKit.Below w.heap.size w w' := by
  obtain ⟨A, hA⟩ : ∃ l, s0.data.toList = l := ⟨_, rfl⟩
  obtain ⟨B, hB⟩ : ∃ l, s1.data.toList = l := ⟨_, rfl⟩
  obtain ⟨C, hC⟩ : ∃ l, s2.data.toList = l := ⟨_, rfl⟩
  have z0 : s0.size = A.length := by rw [← hA, len_bytes]
  have z1 : s1.size = B.length := by rw [← hB, len_bytes]
  have z2 : s2.size = C.length := by rw [← hC, len_bytes]
  obtain ⟨k, hk⟩ : ∃ k, k = op % 8 := ⟨_, rfl⟩
  have hk8 : k < 8 := by omega
  have hkr : Int.tmod (op : Int) 8 = (k : Int) := by rw [hk]; exact (Int.tmod_eq_emod_of_nonneg (by omega)).trans (by omega)
  obtain ⟨g0, g1, hg0, hg1, hmem, hz0, hz1⟩ := pair_at k hk8
  obtain ⟨G0, hG0⟩ : ∃ l, g0.data.toList = l := ⟨_, rfl⟩
  obtain ⟨G1, hG1⟩ : ∃ l, g1.data.toList = l := ⟨_, rfl⟩
  rw [hG0, hG1] at hmem
  obtain ⟨E1, hE1⟩ : ∃ E, xE A = E := ⟨_, rfl⟩
  obtain ⟨E2, hE2⟩ : ∃ E, xE B = E := ⟨_, rfl⟩
  obtain ⟨E3, hE3⟩ : ∃ E, xE C = E := ⟨_, rfl⟩
  have K1 := Lib.hid (fun w => exprS (s := s0) w hA hE1 (by omega))
  have K2 := Lib.hid (fun w => exprS (s := s1) w hB hE2 (by omega))
  have K3 := Lib.hid (fun w => exprS (s := s2) w hC hE3 (by omega))
  have LAW : Hid (E1 = 0 → E2 = 0 → E3 = 0 → Hid (TwoC ((⟨#[40]⟩ ++ s0 ++ ⟨#[10, 41]⟩) ++ g0 ++ (⟨#[40]⟩ ++ s1 ++ ⟨#[10, 41]⟩) ++ g1 ++ (⟨#[40]⟩ ++ s2 ++ ⟨#[10, 41]⟩)) ((⟨#[40]⟩ ++ s0 ++ ⟨#[10, 41]⟩) ++ g0 ++ ⟨#[40]⟩ ++ (⟨#[40]⟩ ++ s1 ++ ⟨#[10, 41]⟩) ++ g1 ++ (⟨#[40]⟩ ++ s2 ++ ⟨#[10, 41]⟩) ++ ⟨#[41]⟩)) ∧ Hid (TwoC ((⟨#[40]⟩ ++ s0 ++ ⟨#[10, 41]⟩) ++ g1 ++ (⟨#[40]⟩ ++ s1 ++ ⟨#[10, 41]⟩) ++ ⟨#[32]⟩ ++ g0 ++ (⟨#[40]⟩ ++ s2 ++ ⟨#[10, 41]⟩)) (⟨#[40]⟩ ++ (⟨#[40]⟩ ++ s0 ++ ⟨#[10, 41]⟩) ++ g1 ++ (⟨#[40]⟩ ++ s1 ++ ⟨#[10, 41]⟩) ++ ⟨#[41]⟩ ++ g0 ++ (⟨#[40]⟩ ++ s2 ++ ⟨#[10, 41]⟩))) ∧ Hid (TwoC (⟨#[110, 111, 116, 32]⟩ ++ (⟨#[40]⟩ ++ s0 ++ ⟨#[10, 41]⟩) ++ ⟨#[32, 97, 110, 100, 32]⟩ ++ (⟨#[40]⟩ ++ s1 ++ ⟨#[10, 41]⟩)) (⟨#[40, 110, 111, 116, 32]⟩ ++ (⟨#[40]⟩ ++ s0 ++ ⟨#[10, 41]⟩) ++ ⟨#[41, 32, 97, 110, 100, 32]⟩ ++ (⟨#[40]⟩ ++ s1 ++ ⟨#[10, 41]⟩))) ∧ Hid (TwoC (⟨#[110, 111, 116, 32]⟩ ++ (⟨#[40]⟩ ++ s0 ++ ⟨#[10, 41]⟩) ++ ⟨#[32, 61, 32]⟩ ++ (⟨#[40]⟩ ++ s1 ++ ⟨#[10, 41]⟩)) (⟨#[110, 111, 116, 32, 40]⟩ ++ (⟨#[40]⟩ ++ s0 ++ ⟨#[10, 41]⟩) ++ ⟨#[32, 61, 32]⟩ ++ (⟨#[40]⟩ ++ s1 ++ ⟨#[10, 41]⟩) ++ ⟨#[41]⟩)) ∧ Hid (TwoC (⟨#[105, 102, 32]⟩ ++ (⟨#[40]⟩ ++ s0 ++ ⟨#[10, 41]⟩) ++ ⟨#[32, 116, 104, 101, 110, 32]⟩ ++ (⟨#[40]⟩ ++ s1 ++ ⟨#[10, 41]⟩) ++ ⟨#[32, 101, 108, 115, 101, 32]⟩ ++ (⟨#[40]⟩ ++ s2 ++ ⟨#[10, 41]⟩) ++ ⟨#[32, 111, 114, 32]⟩ ++ (⟨#[40]⟩ ++ s0 ++ ⟨#[10, 41]⟩)) (⟨#[105, 102, 32]⟩ ++ (⟨#[40]⟩ ++ s0 ++ ⟨#[10, 41]⟩) ++ ⟨#[32, 116, 104, 101, 110, 32]⟩ ++ (⟨#[40]⟩ ++ s1 ++ ⟨#[10, 41]⟩) ++ ⟨#[32, 101, 108, 115, 101, 32, 40]⟩ ++ (⟨#[40]⟩ ++ s2 ++ ⟨#[10, 41]⟩) ++ ⟨#[32, 111, 114, 32]⟩ ++ (⟨#[40]⟩ ++ s0 ++ ⟨#[10, 41]⟩) ++ ⟨#[41]⟩)) ∧ Hid (TwoC ((⟨#[40]⟩ ++ s0 ++ ⟨#[10, 41]⟩) ++ ⟨#[32, 62, 32]⟩ ++ (⟨#[40]⟩ ++ s1 ++ ⟨#[10, 41]⟩)) ((⟨#[40]⟩ ++ s1 ++ ⟨#[10, 41]⟩) ++ ⟨#[32, 60, 32]⟩ ++ (⟨#[40]⟩ ++ s0 ++ ⟨#[10, 41]⟩))) ∧ Hid (TwoC ((⟨#[40]⟩ ++ s0 ++ ⟨#[10, 41]⟩) ++ ⟨#[32, 62, 61, 32]⟩ ++ (⟨#[40]⟩ ++ s1 ++ ⟨#[10, 41]⟩)) ((⟨#[40]⟩ ++ s1 ++ ⟨#[10, 41]⟩) ++ ⟨#[32, 60, 61, 32]⟩ ++ (⟨#[40]⟩ ++ s0 ++ ⟨#[10, 41]⟩)))) := by
    intro x1 x2 x3
    subst x1 x2 x3
    obtain ⟨x, sx⟩ := src_of0 hE1
    obtain ⟨y, sy⟩ := src_of0 hE2
    obtain ⟨z, sz⟩ := src_of0 hE3
    have q0 : Hid (TwoC ((⟨#[40]⟩ ++ s0 ++ ⟨#[10, 41]⟩) ++ g0 ++ (⟨#[40]⟩ ++ s1 ++ ⟨#[10, 41]⟩) ++ g1 ++ (⟨#[40]⟩ ++ s2 ++ ⟨#[10, 41]⟩)) ((⟨#[40]⟩ ++ s0 ++ ⟨#[10, 41]⟩) ++ g0 ++ ⟨#[40]⟩ ++ (⟨#[40]⟩ ++ s1 ++ ⟨#[10, 41]⟩) ++ g1 ++ (⟨#[40]⟩ ++ s2 ++ ⟨#[10, 41]⟩) ++ ⟨#[41]⟩)) := by
      refine twoC ?_ ?_ ?_ ?_ ((ord_pair (p := (G0, G1)) hmem sx sy sz (by omega)).1)
      · rw [← par_data' hA, ← par_data' hB, ← par_data' hC, ← hG0, ← hG1]; simp <;> rfl
      · rw [← par_data' hA, ← par_data' hB, ← par_data' hC, ← hG0, ← hG1]; simp <;> rfl
      · exact size_le (by simp only [ByteArray.size_append, lit_size, List.length_cons, List.length_nil]; omega)
      · exact size_le (by simp only [ByteArray.size_append, lit_size, List.length_cons, List.length_nil]; omega)
    have q1 : Hid (TwoC ((⟨#[40]⟩ ++ s0 ++ ⟨#[10, 41]⟩) ++ g1 ++ (⟨#[40]⟩ ++ s1 ++ ⟨#[10, 41]⟩) ++ ⟨#[32]⟩ ++ g0 ++ (⟨#[40]⟩ ++ s2 ++ ⟨#[10, 41]⟩)) (⟨#[40]⟩ ++ (⟨#[40]⟩ ++ s0 ++ ⟨#[10, 41]⟩) ++ g1 ++ (⟨#[40]⟩ ++ s1 ++ ⟨#[10, 41]⟩) ++ ⟨#[41]⟩ ++ g0 ++ (⟨#[40]⟩ ++ s2 ++ ⟨#[10, 41]⟩))) := by
      refine twoC ?_ ?_ ?_ ?_ ((ord_pair (p := (G0, G1)) hmem sx sy sz (by omega)).2)
      · rw [← par_data' hA, ← par_data' hB, ← par_data' hC, ← hG0, ← hG1]; simp <;> rfl
      · rw [← par_data' hA, ← par_data' hB, ← par_data' hC, ← hG0, ← hG1]; simp <;> rfl
      · exact size_le (by simp only [ByteArray.size_append, lit_size, List.length_cons, List.length_nil]; omega)
      · exact size_le (by simp only [ByteArray.size_append, lit_size, List.length_cons, List.length_nil]; omega)
    have q2 : Hid (TwoC (⟨#[110, 111, 116, 32]⟩ ++ (⟨#[40]⟩ ++ s0 ++ ⟨#[10, 41]⟩) ++ ⟨#[32, 97, 110, 100, 32]⟩ ++ (⟨#[40]⟩ ++ s1 ++ ⟨#[10, 41]⟩)) (⟨#[40, 110, 111, 116, 32]⟩ ++ (⟨#[40]⟩ ++ s0 ++ ⟨#[10, 41]⟩) ++ ⟨#[41, 32, 97, 110, 100, 32]⟩ ++ (⟨#[40]⟩ ++ s1 ++ ⟨#[10, 41]⟩))) := by
      refine twoC ?_ ?_ ?_ ?_ (ord_not_and sx sy (by omega))
      · rw [← par_data' hA, ← par_data' hB]; simp <;> rfl
      · rw [← par_data' hA, ← par_data' hB]; simp <;> rfl
      · exact size_le (by simp only [ByteArray.size_append, lit_size, List.length_cons, List.length_nil]; omega)
      · exact size_le (by simp only [ByteArray.size_append, lit_size, List.length_cons, List.length_nil]; omega)
    have q3 : Hid (TwoC (⟨#[110, 111, 116, 32]⟩ ++ (⟨#[40]⟩ ++ s0 ++ ⟨#[10, 41]⟩) ++ ⟨#[32, 61, 32]⟩ ++ (⟨#[40]⟩ ++ s1 ++ ⟨#[10, 41]⟩)) (⟨#[110, 111, 116, 32, 40]⟩ ++ (⟨#[40]⟩ ++ s0 ++ ⟨#[10, 41]⟩) ++ ⟨#[32, 61, 32]⟩ ++ (⟨#[40]⟩ ++ s1 ++ ⟨#[10, 41]⟩) ++ ⟨#[41]⟩)) := by
      refine twoC ?_ ?_ ?_ ?_ (ord_not_eq sx sy (by omega))
      · rw [← par_data' hA, ← par_data' hB]; simp <;> rfl
      · rw [← par_data' hA, ← par_data' hB]; simp <;> rfl
      · exact size_le (by simp only [ByteArray.size_append, lit_size, List.length_cons, List.length_nil]; omega)
      · exact size_le (by simp only [ByteArray.size_append, lit_size, List.length_cons, List.length_nil]; omega)
    have q4 : Hid (TwoC (⟨#[105, 102, 32]⟩ ++ (⟨#[40]⟩ ++ s0 ++ ⟨#[10, 41]⟩) ++ ⟨#[32, 116, 104, 101, 110, 32]⟩ ++ (⟨#[40]⟩ ++ s1 ++ ⟨#[10, 41]⟩) ++ ⟨#[32, 101, 108, 115, 101, 32]⟩ ++ (⟨#[40]⟩ ++ s2 ++ ⟨#[10, 41]⟩) ++ ⟨#[32, 111, 114, 32]⟩ ++ (⟨#[40]⟩ ++ s0 ++ ⟨#[10, 41]⟩)) (⟨#[105, 102, 32]⟩ ++ (⟨#[40]⟩ ++ s0 ++ ⟨#[10, 41]⟩) ++ ⟨#[32, 116, 104, 101, 110, 32]⟩ ++ (⟨#[40]⟩ ++ s1 ++ ⟨#[10, 41]⟩) ++ ⟨#[32, 101, 108, 115, 101, 32, 40]⟩ ++ (⟨#[40]⟩ ++ s2 ++ ⟨#[10, 41]⟩) ++ ⟨#[32, 111, 114, 32]⟩ ++ (⟨#[40]⟩ ++ s0 ++ ⟨#[10, 41]⟩) ++ ⟨#[41]⟩)) := by
      refine twoC ?_ ?_ ?_ ?_ (ord_if sx sy sz (by omega))
      · rw [← par_data' hA, ← par_data' hB, ← par_data' hC]; simp <;> rfl
      · rw [← par_data' hA, ← par_data' hB, ← par_data' hC]; simp <;> rfl
      · exact size_le (by simp only [ByteArray.size_append, lit_size, List.length_cons, List.length_nil]; omega)
      · exact size_le (by simp only [ByteArray.size_append, lit_size, List.length_cons, List.length_nil]; omega)
    have q5 : Hid (TwoC ((⟨#[40]⟩ ++ s0 ++ ⟨#[10, 41]⟩) ++ ⟨#[32, 62, 32]⟩ ++ (⟨#[40]⟩ ++ s1 ++ ⟨#[10, 41]⟩)) ((⟨#[40]⟩ ++ s1 ++ ⟨#[10, 41]⟩) ++ ⟨#[32, 60, 32]⟩ ++ (⟨#[40]⟩ ++ s0 ++ ⟨#[10, 41]⟩))) := by
      refine twoC ?_ ?_ ?_ ?_ ((ord_gt sx sy (by omega)).1)
      · rw [← par_data' hA, ← par_data' hB]; simp <;> rfl
      · rw [← par_data' hA, ← par_data' hB]; simp <;> rfl
      · exact size_le (by simp only [ByteArray.size_append, lit_size, List.length_cons, List.length_nil]; omega)
      · exact size_le (by simp only [ByteArray.size_append, lit_size, List.length_cons, List.length_nil]; omega)
    have q6 : Hid (TwoC ((⟨#[40]⟩ ++ s0 ++ ⟨#[10, 41]⟩) ++ ⟨#[32, 62, 61, 32]⟩ ++ (⟨#[40]⟩ ++ s1 ++ ⟨#[10, 41]⟩)) ((⟨#[40]⟩ ++ s1 ++ ⟨#[10, 41]⟩) ++ ⟨#[32, 60, 61, 32]⟩ ++ (⟨#[40]⟩ ++ s0 ++ ⟨#[10, 41]⟩))) := by
      refine twoC ?_ ?_ ?_ ?_ ((ord_gt sx sy (by omega)).2)
      · rw [← par_data' hA, ← par_data' hB]; simp <;> rfl
      · rw [← par_data' hA, ← par_data' hB]; simp <;> rfl
      · exact size_le (by simp only [ByteArray.size_append, lit_size, List.length_cons, List.length_nil]; omega)
      · exact size_le (by simp only [ByteArray.size_append, lit_size, List.length_cons, List.length_nil]; omega)
    exact ⟨q0, q1, q2, q3, q4, q5, q6⟩
  have SG : Hid (#[.string ⟨#[43]⟩, .string ⟨#[42]⟩, .string ⟨#[45]⟩, .string ⟨#[47]⟩, .string ⟨#[60]⟩, .string ⟨#[43]⟩, .string ⟨#[62, 61]⟩, .string ⟨#[45]⟩, .string ⟨#[97, 110, 100]⟩, .string ⟨#[61]⟩, .string ⟨#[111, 114]⟩, .string ⟨#[97, 110, 100]⟩, .string ⟨#[111, 114]⟩, .string ⟨#[60, 61]⟩, .string ⟨#[33, 61]⟩, .string ⟨#[42]⟩][k * 2]? = some (Value.string g0) ∧ #[.string ⟨#[43]⟩, .string ⟨#[42]⟩, .string ⟨#[45]⟩, .string ⟨#[47]⟩, .string ⟨#[60]⟩, .string ⟨#[43]⟩, .string ⟨#[62, 61]⟩, .string ⟨#[45]⟩, .string ⟨#[97, 110, 100]⟩, .string ⟨#[61]⟩, .string ⟨#[111, 114]⟩, .string ⟨#[97, 110, 100]⟩, .string ⟨#[111, 114]⟩, .string ⟨#[60, 61]⟩, .string ⟨#[33, 61]⟩, .string ⟨#[42]⟩][k * 2 + 1]? = some (Value.string g1)) := ⟨hg0, hg1⟩
  have d1 : decide ((900 : Int) < (s0.size : Int) + (s1.size : Int) + (s2.size : Int)) = false := decide_eq_false (by omega)
  have y0 : s0.size ≤ 900 := by omega
  have y1 : s1.size ≤ 900 := by omega
  have y2 : s2.size ≤ 900 := by omega
  clear hA hB hC z0 z1 z2 hE1 hE2 hE3 hG0 hG1 hmem hg0 hg1 hk
  go_enter Tryz.func8, Tryz.ntmps8
  go_wp2_with fail
  refine (head_any _).mono ?_
  rintro _ w0 ⟨rfl, hb⟩
  have B0 := Lib.hid hb
  clear hb
  go_wp2_with fail
  refine (K1.out _).mono ?_
  rintro _ v1 ⟨⟨xo, xa, xs, xn, xd, xf, xm, xr, xy, xq, xk, xc⟩, at1, rfl, hx, hsz1, hb⟩
  unfold nv
  have bV := (Below.refl _ v1).alloc (Nat.le_refl _) (.cells #[.int .i64 xo, .int .i64 xa, .string xs, .int .i64 xn, .int .i64 xd, .bool xf, .int .i64 xm, .int .i64 xr, .int .i64 xy, .slice xq xk xc] 36)
  have hbV := hb.trans (bV.mono hb.size)
  have B1 := Lib.hid (B0.out.trans (hbV.mono B0.out.size))
  have X1 := Lib.hid (NodeA.bel bV _ _ hx)
  have C1 := Lib.hid (B10.new v1 (.int .i64 xo) (.int .i64 xa) (.string xs) (.int .i64 xn) (.int .i64 xd) (.bool xf) (.int .i64 xm) (.int .i64 xr) (.int .i64 xy) (.slice xq xk xc) 36)
  clear bV hbV hb hx
  go_wp2_with fail
  generalize v1.alloc (.cells #[.int .i64 xo, .int .i64 xa, .string xs, .int .i64 xn, .int .i64 xd, .bool xf, .int .i64 xm, .int .i64 xr, .int .i64 xy, .slice xq xk xc] 36) = V1 at *
  generalize v1.heap.size = z1 at *
  refine (K2.out _).mono ?_
  rintro _ v2 ⟨⟨yo, ya, ys, yn, yd, yf, ym, yr, yy, yq, yk, yc⟩, at2, rfl, hx, hsz2, hb⟩
  unfold nv
  have bV := (Below.refl _ v2).alloc (Nat.le_refl _) (.cells #[.int .i64 yo, .int .i64 ya, .string ys, .int .i64 yn, .int .i64 yd, .bool yf, .int .i64 ym, .int .i64 yr, .int .i64 yy, .slice yq yk yc] 36)
  have hbV := hb.trans (bV.mono hb.size)
  have B2 := Lib.hid (B1.out.trans (hbV.mono B1.out.size))
  have X2 := Lib.hid (NodeA.bel bV _ _ hx)
  have C2 := Lib.hid (B10.new v2 (.int .i64 yo) (.int .i64 ya) (.string ys) (.int .i64 yn) (.int .i64 yd) (.bool yf) (.int .i64 ym) (.int .i64 yr) (.int .i64 yy) (.slice yq yk yc) 36)
  clear bV hbV hb hx
  go_wp2_with fail
  generalize v2.alloc (.cells #[.int .i64 yo, .int .i64 ya, .string ys, .int .i64 yn, .int .i64 yd, .bool yf, .int .i64 ym, .int .i64 yr, .int .i64 yy, .slice yq yk yc] 36) = V2 at *
  generalize v2.heap.size = z2 at *
  refine (K3.out _).mono ?_
  rintro _ v3 ⟨⟨zo, za, zs, zn, zd, zf, zm, zr, zy, zq, zk, zc⟩, at3, rfl, hx, hsz3, hb⟩
  unfold nv
  have bV := (Below.refl _ v3).alloc (Nat.le_refl _) (.cells #[.int .i64 zo, .int .i64 za, .string zs, .int .i64 zn, .int .i64 zd, .bool zf, .int .i64 zm, .int .i64 zr, .int .i64 zy, .slice zq zk zc] 36)
  have hbV := hb.trans (bV.mono hb.size)
  have B3 := Lib.hid (B2.out.trans (hbV.mono B2.out.size))
  have X3 := Lib.hid (NodeA.bel bV _ _ hx)
  have C3 := Lib.hid (B10.new v3 (.int .i64 zo) (.int .i64 za) (.string zs) (.int .i64 zn) (.int .i64 zd) (.bool zf) (.int .i64 zm) (.int .i64 zr) (.int .i64 zy) (.slice zq zk zc) 36)
  clear bV hbV hb hx
  by_cases h1 : ¬ E1 = 0
  · have e1 : (E1 == 0) = false := by simpa using h1
    have e1' : (E1 != 0) = true := by simpa using h1
    clear h1
    go_wp2_with fail
    go_ret
    exact ⟨rfl, B3.out⟩
  replace h1 : E1 = 0 := by omega
  have e1 : (E1 == 0) = true := by simpa using h1
  have e1' : (E1 != 0) = false := by simpa using h1
  by_cases h2 : ¬ E2 = 0
  · have e2 : (E2 == 0) = false := by simpa using h2
    have e2' : (E2 != 0) = true := by simpa using h2
    clear h1 h2
    go_wp2_with fail
    go_ret
    exact ⟨rfl, B3.out⟩
  replace h2 : E2 = 0 := by omega
  have e2 : (E2 == 0) = true := by simpa using h2
  have e2' : (E2 != 0) = false := by simpa using h2
  by_cases h3 : ¬ E3 = 0
  · have e3 : (E3 == 0) = false := by simpa using h3
    have e3' : (E3 != 0) = true := by simpa using h3
    clear h1 h2 h3
    go_wp2_with fail
    go_ret
    exact ⟨rfl, B3.out⟩
  replace h3 : E3 = 0 := by omega
  have e3 : (E3 == 0) = true := by simpa using h3
  have e3' : (E3 != 0) = false := by simpa using h3
  obtain ⟨T1, T2, T3, T4, T5, T6, T7⟩ := LAW.out h1 h2 h3
  clear h1 h2 h3
  have hrow : ∀ (V : World) (T : Nat), (V.alloc (.cells #[.string ⟨#[43]⟩, .string ⟨#[42]⟩, .string ⟨#[45]⟩, .string ⟨#[47]⟩, .string ⟨#[60]⟩, .string ⟨#[43]⟩, .string ⟨#[62, 61]⟩, .string ⟨#[45]⟩, .string ⟨#[97, 110, 100]⟩, .string ⟨#[61]⟩, .string ⟨#[111, 114]⟩, .string ⟨#[97, 110, 100]⟩, .string ⟨#[111, 114]⟩, .string ⟨#[60, 61]⟩, .string ⟨#[33, 61]⟩, .string ⟨#[42]⟩] T)).cell? ⟨V.heap.size, k * 2, none⟩ = some (.string g0) ∧ (V.alloc (.cells #[.string ⟨#[43]⟩, .string ⟨#[42]⟩, .string ⟨#[45]⟩, .string ⟨#[47]⟩, .string ⟨#[60]⟩, .string ⟨#[43]⟩, .string ⟨#[62, 61]⟩, .string ⟨#[45]⟩, .string ⟨#[97, 110, 100]⟩, .string ⟨#[61]⟩, .string ⟨#[111, 114]⟩, .string ⟨#[97, 110, 100]⟩, .string ⟨#[111, 114]⟩, .string ⟨#[60, 61]⟩, .string ⟨#[33, 61]⟩, .string ⟨#[42]⟩] T)).cell? ⟨V.heap.size, k * 2 + 1, none⟩ = some (.string g1) := fun V T => by
    rw [cell_of_row _ _ _ _ _ _ (heap_alloc_new V _), cell_of_row _ _ _ _ _ _ (heap_alloc_new V _)]; exact SG.out
  have hc0 := (hrow (v3.alloc (.cells #[.int .i64 zo, .int .i64 za, .string zs, .int .i64 zn, .int .i64 zd, .bool zf, .int .i64 zm, .int .i64 zr, .int .i64 zy, .slice zq zk zc] 36)) 56).1
  have hc1 := (hrow (v3.alloc (.cells #[.int .i64 zo, .int .i64 za, .string zs, .int .i64 zn, .int .i64 zd, .bool zf, .int .i64 zm, .int .i64 zr, .int .i64 zy, .slice zq zk zc] 36)) 56).2
  rw [World.size_alloc] at hc0 hc1
  have bR := (Below.refl _ (v3.alloc (.cells #[.int .i64 zo, .int .i64 za, .string zs, .int .i64 zn, .int .i64 zd, .bool zf, .int .i64 zm, .int .i64 zr, .int .i64 zy, .slice zq zk zc] 36))).alloc (Nat.le_refl _) (.cells #[.string ⟨#[43]⟩, .string ⟨#[42]⟩, .string ⟨#[45]⟩, .string ⟨#[47]⟩, .string ⟨#[60]⟩, .string ⟨#[43]⟩, .string ⟨#[62, 61]⟩, .string ⟨#[45]⟩, .string ⟨#[97, 110, 100]⟩, .string ⟨#[61]⟩, .string ⟨#[111, 114]⟩, .string ⟨#[97, 110, 100]⟩, .string ⟨#[111, 114]⟩, .string ⟨#[60, 61]⟩, .string ⟨#[33, 61]⟩, .string ⟨#[42]⟩] 56)
  have bS := (Below.refl _ ((v3.alloc (.cells #[.int .i64 zo, .int .i64 za, .string zs, .int .i64 zn, .int .i64 zd, .bool zf, .int .i64 zm, .int .i64 zr, .int .i64 zy, .slice zq zk zc] 36)).alloc (.cells #[.string ⟨#[43]⟩, .string ⟨#[42]⟩, .string ⟨#[45]⟩, .string ⟨#[47]⟩, .string ⟨#[60]⟩, .string ⟨#[43]⟩, .string ⟨#[62, 61]⟩, .string ⟨#[45]⟩, .string ⟨#[97, 110, 100]⟩, .string ⟨#[61]⟩, .string ⟨#[111, 114]⟩, .string ⟨#[97, 110, 100]⟩, .string ⟨#[111, 114]⟩, .string ⟨#[60, 61]⟩, .string ⟨#[33, 61]⟩, .string ⟨#[42]⟩] 56))).alloc (Nat.le_refl _) (.cells #[.string g0, .string g1] 56)
  have B5 := Lib.hid ((B3.out.trans (bR.mono B3.out.size)).trans (bS.mono (Nat.le_trans B3.out.size bR.size)))
  have A5 := Lib.hid (At2.new ((v3.alloc (.cells #[.int .i64 zo, .int .i64 za, .string zs, .int .i64 zn, .int .i64 zd, .bool zf, .int .i64 zm, .int .i64 zr, .int .i64 zy, .slice zq zk zc] 36)).alloc (.cells #[.string ⟨#[43]⟩, .string ⟨#[42]⟩, .string ⟨#[45]⟩, .string ⟨#[47]⟩, .string ⟨#[60]⟩, .string ⟨#[43]⟩, .string ⟨#[62, 61]⟩, .string ⟨#[45]⟩, .string ⟨#[97, 110, 100]⟩, .string ⟨#[61]⟩, .string ⟨#[111, 114]⟩, .string ⟨#[97, 110, 100]⟩, .string ⟨#[111, 114]⟩, .string ⟨#[60, 61]⟩, .string ⟨#[33, 61]⟩, .string ⟨#[42]⟩] 56)) (.string g0) (.string g1) 56)
  rw [World.size_alloc, World.size_alloc] at A5
  have c0 := A5.out.c0
  have c1 := A5.out.c1
  clear bR bS hrow
  go_wp2_with fail
  generalize ((v3.alloc (.cells #[.int .i64 zo, .int .i64 za, .string zs, .int .i64 zn, .int .i64 zd, .bool zf, .int .i64 zm, .int .i64 zr, .int .i64 zy, .slice zq zk zc] 36)).alloc (.cells #[.string ⟨#[43]⟩, .string ⟨#[42]⟩, .string ⟨#[45]⟩, .string ⟨#[47]⟩, .string ⟨#[60]⟩, .string ⟨#[43]⟩, .string ⟨#[62, 61]⟩, .string ⟨#[45]⟩, .string ⟨#[97, 110, 100]⟩, .string ⟨#[61]⟩, .string ⟨#[111, 114]⟩, .string ⟨#[97, 110, 100]⟩, .string ⟨#[111, 114]⟩, .string ⟨#[60, 61]⟩, .string ⟨#[33, 61]⟩, .string ⟨#[42]⟩] 56)).alloc (.cells #[.string g0, .string g1] 56) = V5 at *
  refine (T1.out _).mono ?_
  rintro _ v6 ⟨rfl, hb⟩
  have B6 := Lib.hid (B5.out.trans (hb.mono B5.out.size))
  replace A5 := Lib.hid (A5.out.bel hb)
  clear c0 c1
  have c0 := A5.out.c0
  have c1 := A5.out.c1
  clear hb
  go_wp2_with fail
  refine (T2.out _).mono ?_
  rintro _ v7 ⟨rfl, hb⟩
  have B7 := Lib.hid (B6.out.trans (hb.mono B6.out.size))
  clear hb
  go_wp2_with fail
  refine (T3.out _).mono ?_
  rintro _ v8 ⟨rfl, hb⟩
  have B8 := Lib.hid (B7.out.trans (hb.mono B7.out.size))
  clear hb
  go_wp2_with fail
  refine (T4.out _).mono ?_
  rintro _ v9 ⟨rfl, hb⟩
  have B9 := Lib.hid (B8.out.trans (hb.mono B8.out.size))
  clear hb
  go_wp2_with fail
  refine (T5.out _).mono ?_
  rintro _ v10 ⟨rfl, hb⟩
  have B10 := Lib.hid (B9.out.trans (hb.mono B9.out.size))
  clear hb
  go_wp2_with fail
  refine (T6.out _).mono ?_
  rintro _ v11 ⟨rfl, hb⟩
  have B11 := Lib.hid (B10.out.trans (hb.mono B10.out.size))
  clear hb
  go_wp2_with fail
  refine (T7.out _).mono ?_
  rintro _ v12 ⟨rfl, hb⟩
  have B12 := Lib.hid (B11.out.trans (hb.mono B11.out.size))
  clear hb
  go_wp2_with fail
  go_ret
  exact ⟨rfl, B12.out⟩
set_option maxRecDepth 100000 in
set_option maxHeartbeats 2000000 in
theorem order_law (s0 s1 s2 : ByteArray) (op : Nat) (w : World) (h0 : s0.size ≤ 281474976710656) (h1 : s1.size ≤ 281474976710656) (h2 : s2.size ≤ 281474976710656) (hop : op < 256) : Calls Tryz.prog 8 #[.string s0, .string s1, .string s2, .int .u8 op] w fun e w' => e = .returned (.bool true) ∧ RowKit.Below w.heap.size w w' := by
  by_cases hl : s0.size + s1.size + s2.size ≤ 900
  · exact order_main s0 s1 s2 op w hl hop
  have d1 : decide ((900 : Int) < (s0.size : Int) + (s1.size : Int) + (s2.size : Int)) = true := decide_eq_true (by omega)
  clear hl
  go_enter Tryz.func8, Tryz.ntmps8
  go_wp2_with fail
  refine (head_any _).mono ?_
  rintro _ w0 ⟨rfl, hb⟩
  have B0 := Lib.hid hb
  clear hb
  go_wp2_with fail
  go_ret
  exact ⟨rfl, B0.out⟩
end Go.Proofs.YtedbpjcglnkjmaaGreatDoor
