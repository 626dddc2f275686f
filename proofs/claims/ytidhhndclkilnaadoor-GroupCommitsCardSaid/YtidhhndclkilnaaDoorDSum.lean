/-
  The digest of bytes: contracts of extend, Sum, and of the reference's Sum.
-/
import Derived.Test.YtidhhndclkilnaaDoorDKit
namespace Go.Proofs.YtidhhndclkilnaaDoor
open Go.RowKit Dg

set_option maxRecDepth 100000 in
set_option maxHeartbeats 400000 in
theorem extend_any (l : List Nat) (h : Nat) (p : Option Addr) (b off cap len : Nat) (w : World) (hS : SlF u8v w p b off len l) (hB : Bytes l) (hh : h < 18446744073709551616) :
    Calls Tryd.prog 58 #[.int .u64 h, .slice p len cap] w fun e w' => e = .returned (.int .u64 (dgF h l : Nat)) ∧ w' = w := by
  have HS := Lib.hid hS
  have HBY := Lib.hid hB
  have hm := hS.max
  have HL := Lib.hid hS.ln
  clear hS hB
  go_enter Tryd.func58, Tryd.ntmps58
  go_wp2_with fail
  go_loopg [0, 9] len (fun g s0 s9 wr => ∃ k : Nat, s9 = .int .i64 k ∧ k ≤ len ∧ len - k ≤ g ∧ s0 = .int .u64 (dgF h (l.take k) : Nat) ∧ wr = w)
  case atStart => exact ⟨0, rfl, by omega, by omega, rfl, rfl⟩
  case round =>
    obtain ⟨k, rfl, hk, hkg, rfl, rfl⟩ := hrel
    by_cases hlt : k < len
    · have hltz : (k : Int) < (len : Int) := by omega
      have hp1 := HS.out.ptr (by omega)
      have hkl : k < l.length := by rw [HL.out]; exact hlt
      have c1 := HS.out.cells k hkl
      have hc := HBY.out _ (List.getElem_mem hkl)
      have hx := dgF_lt (l.take k) hh
      obtain ⟨y, hy⟩ : ∃ y, y = dgF h (l.take (k + 1)) := ⟨_, rfl⟩
      have E : y = stp (dgF h (l.take k)) l[k] := by rw [hy]; exact dgF_take hkl
      have HY := Lib.hid hy
      clear hy
      generalize l[k] = c at *
      generalize dgF h (l.take k) = x at *
      have hq := xor_step x c hx (by omega)
      rw [← E] at hq
      unfold u8v at c1
      subst hp1
      clear E
      go_wp2
      go_roundg (len - (k + 1))
      case measure => omega
      case rel => exact ⟨k + 1, by go_num, by omega, by omega, by rw [← HY.out], rfl⟩
    · have hltz : ¬ (k : Int) < (len : Int) := by omega
      have E : Hid (l.take k = l) := List.take_of_length_le (by have := HL.out; omega)
      go_wp2
      go_ret
      exact ⟨ret_u64 (by rw [E.out]), rfl⟩
set_option maxRecDepth 100000 in
set_option maxHeartbeats 400000 in
theorem rsum_any (l : List Nat) (p : Option Addr) (b off cap len : Nat) (w : World) (hS : SlF u8v w p b off len l) (hB : Bytes l) :
    Calls Tryd.prog 56 #[.slice p len cap] w fun e w' => e = .returned (.int .u64 (dig l : Nat)) ∧ w' = w := by
  have HS := Lib.hid hS
  have HBY := Lib.hid hB
  have hm := hS.max
  have HL := Lib.hid hS.ln
  have HD := Lib.hid (dig_def l)
  obtain ⟨h, hh0⟩ : ∃ h, h = 14695981039346656037 := ⟨_, rfl⟩
  rw [← hh0] at HD
  have hh : h < 18446744073709551616 := by rw [hh0]; decide
  have HH := Lib.hid hh0
  clear hS hB hh0
  go_enter Tryd.func56, Tryd.ntmps56
  go_wp2_with fail
  go_loopg [3, 4] len (fun g s0 s9 wr => ∃ k : Nat, s9 = .int .i64 k ∧ k ≤ len ∧ len - k ≤ g ∧ s0 = .int .u64 (dgF h (l.take k) : Nat) ∧ wr = w)
  case atStart => exact ⟨0, rfl, by omega, by omega, by rw [HH.out]; rfl, rfl⟩
  case round =>
    obtain ⟨k, rfl, hk, hkg, rfl, rfl⟩ := hrel
    by_cases hlt : k < len
    · have hltz : (k : Int) < (len : Int) := by omega
      have hp1 := HS.out.ptr (by omega)
      have hkl : k < l.length := by rw [HL.out]; exact hlt
      have c1 := HS.out.cells k hkl
      have hc := HBY.out _ (List.getElem_mem hkl)
      have hx := dgF_lt (l.take k) hh
      obtain ⟨y, hy⟩ : ∃ y, y = dgF h (l.take (k + 1)) := ⟨_, rfl⟩
      have E : y = stp (dgF h (l.take k)) l[k] := by rw [hy]; exact dgF_take hkl
      have HY := Lib.hid hy
      clear hy
      generalize l[k] = c at *
      generalize dgF h (l.take k) = x at *
      have hq := xor_step x c hx (by omega)
      rw [← E] at hq
      unfold u8v at c1
      subst hp1
      clear E
      go_wp2
      go_roundg (len - (k + 1))
      case measure => omega
      case rel => exact ⟨k + 1, by go_num, by omega, by omega, by rw [← HY.out], rfl⟩
    · have hltz : ¬ (k : Int) < (len : Int) := by omega
      have E : Hid (l.take k = l) := List.take_of_length_le (by have := HL.out; omega)
      go_wp2
      go_ret
      exact ⟨ret_u64 (by rw [HD.out, E.out]), rfl⟩
end Go.Proofs.YtidhhndclkilnaaDoor
