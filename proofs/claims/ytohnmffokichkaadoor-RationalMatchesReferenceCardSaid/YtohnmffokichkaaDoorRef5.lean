/-
  Contract of the reference implementation's Number.
-/
import Derived.Test.YtohnmffokichkaaDoorRef4
import Derived.Test.YtohnmffokichkaaDoorMath3
namespace Go.Proofs.YtohnmffokichkaaDoor
open Go.RowKit

/-- The value of digits. -/
def valOf (l : List UInt8) : Nat := l.foldl (fun a c => 10 * a + (c.toNat - 48)) 0
def isDig (c : UInt8) : Bool := decide (48 ≤ c.toNat) && decide (c.toNat ≤ 57)
theorem valOf_snoc (l : List UInt8) (c : UInt8) : valOf (l ++ [c]) = 10 * valOf l + (c.toNat - 48) := by unfold valOf; rw [List.foldl_append]; rfl
theorem valOf_lt (l : List UInt8) (h : l.all isDig = true) : valOf l < 10 ^ l.length := by
  suffices H : ∀ (k : Nat) (l : List UInt8), l.length = k → l.all isDig = true → valOf l < 10 ^ k from H _ l rfl h
  intro k
  induction k with
  | zero => intro l hl _; rw [List.length_eq_zero_iff.1 hl]; decide
  | succ k ih =>
    intro l hl hd
    rcases List.eq_nil_or_concat l with rfl | ⟨m, c, rfl⟩
    · simp at hl
    · rw [List.concat_eq_append] at hl hd ⊢
      rw [List.all_append] at hd
      simp only [Bool.and_eq_true, List.all_cons, List.all_nil, Bool.and_true] at hd
      have i := ih m (by simp at hl; omega) hd.1
      rw [valOf_snoc, Nat.pow_succ]
      have hc : c.toNat ≤ 57 := by have := hd.2; unfold isDig at this; simp at this; omega
      omega
/-- What Number gives. -/
def numR (l : List UInt8) : Int × Bool :=
  if l.length < 1 ∨ 10 < l.length then (0, false)
  else if l.all isDig = true then ((valOf l : Nat), Lib.decDigits (valOf l) == l) else (0, false)

theorem take_snoc (s : ByteArray) (k : Nat) (h : k < s.size) : s.data.toList.take (k + 1) = s.data.toList.take k ++ [s[k]] := by
  rw [List.take_succ_eq_append_getElem (by simpa using h)]; rfl

set_option maxRecDepth 100000 in
set_option maxHeartbeats 400000 in
theorem number_far (s : ByteArray) (w : World) (hs : s.size ≤ 9223372036854775806) (h : s.size < 1 ∨ 10 < s.size) :
    Calls Tryd.prog 49 #[.string s] w fun e w' => e = .returned (.tuple #[.int .i64 0, .bool false]) ∧ Below w.heap.size w w' := by
  by_cases h1 : s.size < 1
  · clear h
    have f0 : decide ((s.size : Int) < 1) = true := by simp; omega
    go_enter Tryd.func49, Tryd.ntmps49
    go_wp2
    go_ret2
    exact ⟨rfl, Below.refl _ _⟩
  · have h2 : 10 < s.size := by omega
    clear h
    have f0 : decide ((s.size : Int) < 1) = false := by simp; omega
    have f1 : decide ((10 : Int) < (s.size : Int)) = true := by simp; omega
    go_enter Tryd.func49, Tryd.ntmps49
    go_wp2
    go_ret2
    exact ⟨rfl, Below.refl _ _⟩

set_option maxRecDepth 100000 in
set_option maxHeartbeats 400000 in
theorem number_near (s : ByteArray) (w : World) (h1 : 1 ≤ s.size) (h2 : s.size ≤ 10) :
    Calls Tryd.prog 49 #[.string s] w fun e w' => e = .returned (.tuple #[.int .i64 (numR s.data.toList).1, .bool (numR s.data.toList).2]) ∧ Below w.heap.size w w' := by
  have hlen : s.data.toList.length = s.size := by simp
  have HR := Lib.hid (show numR s.data.toList = if s.data.toList.all isDig = true then (((valOf s.data.toList : Nat) : Int), Lib.decDigits (valOf s.data.toList) == s.data.toList) else (0, false) by
    unfold numR; rw [if_neg (by omega)])
  have HL := Lib.hid hlen
  clear hlen
  have f0 : decide ((s.size : Int) < 1) = false := by simp; omega
  have f1 : decide ((10 : Int) < (s.size : Int)) = false := by simp; omega
  go_enter Tryd.func49, Tryd.ntmps49
  go_wp2
  go_loopg [4, 5] s.size (fun k x y wr => ∃ j : Nat, j ≤ s.size ∧ k = s.size - j ∧ x = .int .i64 (valOf (s.data.toList.take j)) ∧ y = .int .i64 j ∧ (s.data.toList.take j).all isDig = true ∧ Below w.heap.size w wr)
  case atStart => exact ⟨0, Nat.zero_le _, by omega, rfl, rfl, rfl, Below.refl _ _⟩
  case round =>
    obtain ⟨j, hj, hk, rfl, rfl, hd, hbw⟩ := hrel
    have hv : valOf (s.data.toList.take j) < 10000000000 := by
      refine Nat.lt_of_lt_of_le (valOf_lt _ hd) ?_
      have : (s.data.toList.take j).length ≤ 10 := by rw [List.length_take]; omega
      exact Nat.pow_le_pow_right (by omega) this
    have HD := Lib.hid hd
    have HK := Lib.hid hk
    clear hd hk
    obtain ⟨V, eV⟩ : ∃ V, V = valOf (s.data.toList.take j) := ⟨_, rfl⟩
    rw [← eV] at hv ⊢
    have HV := Lib.hid eV
    clear eV
    by_cases hlt : j < s.size
    · by_cases hc : 48 ≤ (s[j].toNat : Int) ∧ (s[j].toNat : Int) ≤ 57
      · obtain ⟨c1, c2⟩ := hc
        have g1 : decide ((s[j].toNat : Int) < 48) = false := by simp; omega
        have g2 : decide (57 < (s[j].toNat : Int)) = false := by simp; omega
        have hdig : isDig s[j] = true := by unfold isDig; simp; omega
        have HG := Lib.hid hdig
        clear hdig
        go_wp2
        go_roundg (s.size - (j + 1))
        case measure => have := HK.out; omega
        case rel =>
          refine ⟨j + 1, by omega, rfl, ?_, by go_num, ?_, hbw⟩
          · rw [take_snoc s j hlt, valOf_snoc, ← HV.out]
            congr 1; omega
          · rw [take_snoc s j hlt, List.all_append, HD.out]
            simp [HG.out]
      · have hdig : isDig s[j] = false := by
          rw [Bool.eq_false_iff]; intro h
          unfold isDig at h; simp at h; omega
        have hall : s.data.toList.all isDig = false := by
          rw [List.all_eq_false]
          refine ⟨s[j], ?_, by simp [hdig]⟩
          have e : s.data.toList[j]? = some s[j] := by
            rw [List.getElem?_eq_getElem (by rw [HL.out]; exact hlt)]; rfl
          exact List.mem_of_getElem? e
        have HA := Lib.hid hall
        clear hdig hall
        by_cases c1 : (s[j].toNat : Int) < 48
        · go_wp2
          go_ret2
          refine ⟨?_, hbw⟩
          rw [HR.out, HA.out]; rfl
        · have g1 : decide ((s[j].toNat : Int) < 48) = false := by simp; omega
          have g2 : decide (57 < (s[j].toNat : Int)) = true := by simp; omega
          go_wp2
          go_ret2
          refine ⟨?_, hbw⟩
          rw [HR.out, HA.out]; rfl
    · have e : j = s.size := by omega
      have hall : s.data.toList.all isDig = true := by
        have := HD.out
        rw [e, ← HL.out, List.take_length] at this; exact this
      have hV : V = valOf s.data.toList := by
        have := HV.out
        rw [e, ← HL.out, List.take_length] at this; exact this
      have HA := Lib.hid hall
      have HW := Lib.hid hV
      have hd : decide ((j : Int) < (s.size : Int)) = false := by simp; omega
      clear e hall hV
      go_wp2_with fail
      refine (digits_any V _ (by omega)).mono ?_
      rintro e w1 ⟨rfl, hb1⟩
      have HBX : Below w.heap.size w w1 := hbw.trans (hb1.mono hbw.size)
      clear hb1
      go_wp2
      go_ret2
      refine ⟨?_, HBX⟩
      have e : ((bs (Lib.decDigits V)).toList == s.toList) = (Lib.decDigits V == s.data.toList) := by rw [bs_list, Lib.toList_data]
      rw [HR.out, HA.out, ← HW.out, if_pos rfl, ← e]; rfl

theorem number_any (s : ByteArray) (w : World) (hs : s.size ≤ 9223372036854775806) :
    Calls Tryd.prog 49 #[.string s] w fun e w' => e = .returned (.tuple #[.int .i64 (numR s.data.toList).1, .bool (numR s.data.toList).2]) ∧ Below w.heap.size w w' := by
  by_cases h : s.size < 1 ∨ 10 < s.size
  · have e : numR s.data.toList = (0, false) := by
      have hlen : s.data.toList.length = s.size := by simp
      unfold numR; rw [if_pos (by omega)]
    rw [e]
    exact number_far s w hs h
  · exact number_near s w (by omega) (by omega)
end Go.Proofs.YtohnmffokichkaaDoor
