/-
  Contracts of the reference implementation: Digits and Text.
-/
import Derived.Test.YtohnmffokichkaaDoorRef3
import Derived.Test.YtohnmffokichkaaDoorWalks6
import Derived.Laws.BytesString
namespace Go.Proofs.YtohnmffokichkaaDoor
open Go.RowKit

/-- One byte as a string. -/
theorem conv1 (w : World) (x : Int) : (convert 67 9 (.slice (some ⟨w.heap.size, 0, none⟩) 1 1)).run Tryd.prog (w.alloc (.cells #[.int .u8 x] 5)) =
    .ok (.string ⟨#[UInt8.ofNat x.toNat]⟩) (w.alloc (.cells #[.int .u8 x] 5)) := by
  rw [run_convert_bytes_string _ _ _ _ _ _ _ Tryd.underlying67 Tryd.underlying5 Tryd.underlying9]
  rw [run_bytesToString _ _ 1 1 [x] (by simp [go_sem, loadCells])]
  rfl

/-- What stands in the loop: the digits behind the number that is left. -/
def Dinv (n m : Nat) (s : List UInt8) : Prop := Lib.decDigits n = if m < 10 then s else Lib.decDigits (m / 10) ++ s
theorem dinv_start (n : Nat) : Dinv n n [UInt8.ofNat (48 + n % 10)] := by
  unfold Dinv
  split
  · rename_i h
    rw [Lib.decDigits_one h, Nat.mod_eq_of_lt h]
  · rename_i h
    rw [Lib.decDigits, dif_neg h]
theorem dinv_next {n m : Nat} {s : List UInt8} (hm : 10 ≤ m) (h : Dinv n m s) : Dinv n (m / 10) (UInt8.ofNat (48 + m / 10 % 10) :: s) := by
  unfold Dinv at h ⊢
  rw [h, if_neg (by omega)]
  have k := dinv_start (m / 10)
  unfold Dinv at k
  rw [k]
  split <;> simp
theorem dinv_len {n m : Nat} {s : List UInt8} (hn : n ≤ 10000000000) (h : Dinv n m s) : s.length ≤ 20 := by
  have l : (Lib.decDigits n).length ≤ 20 := by rw [Lib.decDigits_length]; exact Lib.nDigits_le20 n (by omega)
  unfold Dinv at h
  rw [h] at l
  split at l
  · exact l
  · rw [List.length_append] at l; omega
theorem bs_cons (c : UInt8) (s : List UInt8) : (⟨#[c]⟩ : ByteArray) ++ bs s = bs (c :: s) := by
  apply ByteArray.ext
  simp [bs]

theorem of_add_fin : ∀ k : Fin 10, (48 : UInt8) + UInt8.ofNat k.val = UInt8.ofNat (48 + k.val) := by decide
theorem of_add {k : Nat} (h : k < 10) : (48 : UInt8) + UInt8.ofNat k = UInt8.ofNat (48 + k) := of_add_fin ⟨k, h⟩

set_option maxRecDepth 100000 in
set_option maxHeartbeats 400000 in
theorem digits_any (n : Nat) (w : World) (hn : n ≤ 10000000000) :
    Calls Tryd.prog 46 #[.int .i64 n] w fun e w' => e = .returned (.string (bs (Lib.decDigits n))) ∧ Below w.heap.size w w' := by
  have hc := conv1
  go_enter Tryd.func46, Tryd.ntmps46
  go_wp2
  go_loopg [0, 3] n (fun k x y wr => ∃ (m : Nat) (s : List UInt8), m ≤ k ∧ m ≤ n ∧ x = .int .i64 m ∧ y = .string (bs s) ∧ Dinv n m s ∧ Below w.heap.size w wr)
  case atStart => exact ⟨n, _, Nat.le_refl _, Nat.le_refl _, rfl, (by rfl), dinv_start n, (Below.refl _ _).alloc (Nat.le_refl _) _⟩
  case round =>
    obtain ⟨m, s, hk, hmn, rfl, rfl, hd, hbw⟩ := hrel
    have hl := dinv_len hn hd
    have hs : (bs s).size ≤ 20 := by rw [bs_size]; exact hl
    have hzw := hbw.size
    have HD := Lib.hid hd
    clear hd hl
    by_cases h : 9 < m
    · go_wp2
      go_roundg (m / 10)
      case measure => omega
      case rel =>
        refine ⟨m / 10, _, Nat.le_refl _, by omega, ?_, ?_, dinv_next (by omega) HD.out, hbw.alloc hzw _⟩
        · rw [Int.natCast_ediv]; rfl
        · rw [of_add (by omega), bs_cons]
    · have hdd : decide (9 < (m : Int)) = false := by simp; omega
      go_wp2
      go_ret
      refine ⟨?_, hbw⟩
      have e := HD.out
      unfold Dinv at e
      rw [if_pos (by omega)] at e
      rw [e]; rfl

theorem itoa_pos {n : Int} (h : 0 ≤ n) : Lib.itoa n = Lib.decDigits n.toNat := by unfold Lib.itoa; rw [if_neg (by omega)]
theorem itoa_min {n : Int} (h : n < 0) : Lib.itoa n = 45 :: Lib.decDigits (-n).toNat := by unfold Lib.itoa; rw [if_pos h]; congr 2; omega
theorem dig_call (x : Int) (w : World) (h0 : 0 ≤ x) (h1 : x ≤ 10000000000) :
    Calls Tryd.prog 46 #[.int .i64 x] w fun e w' => e = .returned (.string (bs (Lib.decDigits x.toNat))) ∧ Below w.heap.size w w' := by
  obtain ⟨n, rfl⟩ : ∃ n : Nat, x = n := ⟨x.toNat, by omega⟩
  exact digits_any n w (by omega)
theorem dig_len (x : Int) (h0 : 0 ≤ x) (h1 : x ≤ 10000000000) : (bs (Lib.decDigits x.toNat)).size ≤ 20 := by
  rw [bs_size, Lib.decDigits_length]; exact Lib.nDigits_le20 _ (by omega)

set_option maxRecDepth 100000 in
set_option maxHeartbeats 400000 in
theorem rtext_any (a b : Int) (w : World)
    (a0 : -9223372036854775808 ≤ a) (a1 : a ≤ 9223372036854775807) (b0 : -9223372036854775808 ≤ b) (b1 : b ≤ 9223372036854775807) :
    Calls Tryd.prog 27 #[.agg #[.int .i64 a, .int .i64 b]] w fun e w' =>
      e = .returned (.tuple #[.string (bs (texR a b).1), .int .i64 (texR a b).2]) ∧ Below w.heap.size w w' := by
  cases h : vld a b
  · have e : texR a b = ([], 1) := by unfold texR; rw [if_neg (fun x => by rw [h] at x; cases x)]
    rw [e]
    go_enter Tryd.func27, Tryd.ntmps27
    go_wp2_with fail
    refine (rvalid_any _ _ _ (by omega) (by omega) (by omega) (by omega)).mono ?_
    rintro e w1 ⟨rfl, hb1⟩
    have HBX : Below w.heap.size w w1 := ((Below.refl _ _).alloc (Nat.le_refl _) _).trans (hb1.mono (by simp))
    clear hb1
    go_wp2
    go_ret2
    exact ⟨rfl, HBX⟩
  have e : texR a b = (txt a b, 0) := by unfold texR; rw [if_pos h]
  rw [e]
  obtain ⟨v1, v2, v3, v4, _⟩ := (vld_iff a b).1 h
  have l2 := dig_len b (by omega) (by omega)
  by_cases hn : a < 0
  · have hmx : max a (-a) = -a := by omega
    have l1 := dig_len (-a) (by omega) (by omega)
    have HI := Lib.hid (itoa_min hn)
    have HJ := Lib.hid (itoa_pos (show 0 ≤ b by omega))
    go_enter Tryd.func27, Tryd.ntmps27
    go_wp2_with fail
    refine (rvalid_any _ _ _ (by omega) (by omega) (by omega) (by omega)).mono ?_
    rintro e w1 ⟨rfl, hb1⟩
    have hz1 := hb1.size
    simp only [World.size_alloc] at hz1
    have A1 : At2 w1 w.heap.size (.int .i64 a) (.int .i64 b) := (At2.new w _ _ _).below hb1 (by simp)
    have HB1 : Below w.heap.size w w1 := ((Below.refl _ _).alloc (Nat.le_refl _) _).trans (hb1.mono (by simp))
    clear hb1
    obtain ⟨p0, p1, p2, p3⟩ := A1
    go_wp2_with fail
    refine (dig_call (-a) _ (by omega) (by omega)).mono ?_
    rintro e w2 ⟨rfl, hb2⟩
    have A2 := (At2.mk p0 p1 p2 p3).below hb2 (by omega)
    have HB2 : Below w.heap.size w w2 := HB1.trans (hb2.mono (by omega))
    clear p0 p1 p2 p3 hb2 HB1
    obtain ⟨p0, p1, p2, p3⟩ := A2
    generalize Lib.decDigits (-a).toNat = X at l1 HI ⊢
    by_cases hb : b = 1
    · subst hb
      go_wp2
      go_ret2
      refine ⟨?_, HB2⟩
      rw [txt_one, HI.out]
      rw [← bs_cons]; rfl
    · have hbb : decide (1 < b) = true := by simp; omega
      go_wp2_with fail
      refine (dig_call b _ (by omega) (by omega)).mono ?_
      rintro e w3 ⟨rfl, hb3⟩
      have HBX : Below w.heap.size w w3 := HB2.trans (hb3.mono HB2.size)
      clear p0 p1 p2 p3 hb3 HB2
      generalize Lib.decDigits b.toNat = Y at l2 HJ ⊢
      go_wp2
      go_ret2
      refine ⟨?_, HBX⟩
      rw [txt_two hb, HI.out, HJ.out, ← bs_cons, ← ByteArray.append_assoc]; rfl
  · have hmx : max a (-a) = a := by omega
    have l1 := dig_len a (by omega) (by omega)
    have HI := Lib.hid (itoa_pos (show 0 ≤ a by omega))
    have HJ := Lib.hid (itoa_pos (show 0 ≤ b by omega))
    go_enter Tryd.func27, Tryd.ntmps27
    go_wp2_with fail
    refine (rvalid_any _ _ _ (by omega) (by omega) (by omega) (by omega)).mono ?_
    rintro e w1 ⟨rfl, hb1⟩
    have hz1 := hb1.size
    simp only [World.size_alloc] at hz1
    have A1 : At2 w1 w.heap.size (.int .i64 a) (.int .i64 b) := (At2.new w _ _ _).below hb1 (by simp)
    have HB1 : Below w.heap.size w w1 := ((Below.refl _ _).alloc (Nat.le_refl _) _).trans (hb1.mono (by simp))
    clear hb1
    obtain ⟨p0, p1, p2, p3⟩ := A1
    go_wp2_with fail
    refine (dig_call a _ (by omega) (by omega)).mono ?_
    rintro e w2 ⟨rfl, hb2⟩
    have A2 := (At2.mk p0 p1 p2 p3).below hb2 (by omega)
    have HB2 : Below w.heap.size w w2 := HB1.trans (hb2.mono (by omega))
    clear p0 p1 p2 p3 hb2 HB1
    obtain ⟨p0, p1, p2, p3⟩ := A2
    generalize Lib.decDigits a.toNat = X at l1 HI ⊢
    by_cases hb : b = 1
    · subst hb
      go_wp2
      go_ret2
      refine ⟨?_, HB2⟩
      rw [txt_one, HI.out]; rfl

    · have hbb : decide (1 < b) = true := by simp; omega
      go_wp2_with fail
      refine (dig_call b _ (by omega) (by omega)).mono ?_
      rintro e w3 ⟨rfl, hb3⟩
      have HBX : Below w.heap.size w w3 := HB2.trans (hb3.mono HB2.size)
      clear p0 p1 p2 p3 hb3 HB2
      generalize Lib.decDigits b.toNat = Y at l2 HJ ⊢
      go_wp2
      go_ret2
      refine ⟨?_, HBX⟩
      rw [txt_two hb, HI.out, HJ.out, ← ByteArray.append_assoc]; rfl
end Go.Proofs.YtohnmffokichkaaDoor
