/-
  The walks of the reference's digits and Text: the same values as the program's.
-/
import Derived.Test.YtamccmeibnihpaaGreatDoorMTextMath
import Derived.Test.YtamccmeibnihpaaGreatDoorMWhole
import Derived.Laws.BytesString
namespace Go.Proofs.YtamccmeibnihpaaGreatDoor
open Go.RowKit

/-- One byte as a string. -/
theorem conv1 (w : World) (x : Int) : (convert 47 9 (.slice (some ⟨w.heap.size, 0, none⟩) 1 1)).run Tryz.prog (w.alloc (.cells #[.int .u8 x] 5)) =
    .ok (.string ⟨#[UInt8.ofNat x.toNat]⟩) (w.alloc (.cells #[.int .u8 x] 5)) := by
  rw [run_convert_bytes_string _ _ _ _ _ _ _ Tryz.underlying47 Tryz.underlying5 Tryz.underlying9]
  rw [run_bytesToString _ _ 1 1 [x] (by simp [go_sem, loadCells])]
  rfl
/-- Two bytes as a string. -/
theorem conv2 (w : World) (x y : Int) : (convert 47 9 (.slice (some ⟨w.heap.size, 0, none⟩) 2 2)).run Tryz.prog (w.alloc (.cells #[.int .u8 x, .int .u8 y] 5)) =
    .ok (.string ⟨#[UInt8.ofNat x.toNat, UInt8.ofNat y.toNat]⟩) (w.alloc (.cells #[.int .u8 x, .int .u8 y] 5)) := by
  rw [run_convert_bytes_string _ _ _ _ _ _ _ Tryz.underlying47 Tryz.underlying5 Tryz.underlying9]
  rw [run_bytesToString _ _ 2 2 [x, y] (by simp [go_sem, loadCells])]
  rfl

/-- What is written so far, and what is left. -/
def dgI (N m : Nat) (t : List UInt8) : Prop := Lib.decDigits N = if m < 10 then t else Lib.decDigits (m / 10) ++ t
theorem dgI_start (N : Nat) : dgI N N [UInt8.ofNat (48 + N % 10)] := by
  unfold dgI
  split
  · rename_i h; rw [dec_small h, Nat.mod_eq_of_lt h]
  · rename_i h; rw [dec_big (by omega)]
theorem dgI_step {N m : Nat} {t : List UInt8} (h : dgI N m t) (hm : 10 ≤ m) : dgI N (m / 10) (UInt8.ofNat (48 + m / 10 % 10) :: t) := by
  unfold dgI at h ⊢
  rw [if_neg (by omega)] at h
  rw [h]
  split
  · rename_i h2; rw [dec_small h2, Nat.mod_eq_of_lt h2]; rfl
  · rename_i h2; rw [dec_big (n := m / 10) (by omega), List.append_assoc]; rfl
theorem dgI_len {N m : Nat} {t : List UInt8} (hN : N ≤ 10000000000) (h : dgI N m t) : t.length ≤ 20 := by
  have l : (Lib.decDigits N).length ≤ 20 := by rw [Lib.decDigits_length]; exact Lib.nDigits_le20 N (by omega)
  unfold dgI at h
  rw [h] at l
  split at l
  · exact l
  · rw [List.length_append] at l; omega
theorem bs_cons (c : UInt8) (s : List UInt8) : (⟨#[c]⟩ : ByteArray) ++ bs s = bs (c :: s) := by
  apply ByteArray.ext
  simp [bs]
theorem of_add_fin : ∀ k : Fin 10, (48 : UInt8) + UInt8.ofNat k.val = UInt8.ofNat (48 + k.val) := by decide
theorem of_add {k : Nat} (h : k < 10) : (48 : UInt8) + UInt8.ofNat k = UInt8.ofNat (48 + k) := of_add_fin ⟨k, h⟩

set_option maxRecDepth 100000 in
set_option maxHeartbeats 400000 in
theorem digits_any (n : Nat) (w : World) (hn : n ≤ 1000000000) :
    Calls Tryz.prog 28 #[.int .i64 n] w fun e w' => e = .returned (.string (bs (Lib.decDigits n))) ∧ Below w.heap.size w w' := by
  have hc := conv1
  go_enter Tryz.func28, Tryz.ntmps28
  go_wp2
  go_loopg [0, 3] n (fun k x y wr => ∃ (m : Nat) (s : List UInt8), m ≤ k ∧ m ≤ n ∧ x = .int .i64 m ∧ y = .string (bs s) ∧ dgI n m s ∧ Below w.heap.size w wr)
  case atStart => exact ⟨n, _, Nat.le_refl _, Nat.le_refl _, rfl, (by rfl), dgI_start n, (Below.refl _ _).alloc (Nat.le_refl _) _⟩
  case round =>
    obtain ⟨m, s, hk, hmn, rfl, rfl, hd, hbw⟩ := hrel
    have hl := dgI_len (by omega) hd
    have hs : (bs s).size ≤ 20 := by rw [bs_size]; exact hl
    have hzw := hbw.size
    have HD := Lib.hid hd
    clear hd hl
    by_cases h : 10 ≤ m
    · have hdd : decide (10 ≤ (m : Int)) = true := by simp; omega
      go_wp2
      go_roundg (m / 10)
      case measure => omega
      case rel =>
        refine ⟨m / 10, _, Nat.le_refl _, by omega, ?_, ?_, dgI_step HD.out (by omega), hbw.alloc hzw _⟩
        · rw [Int.natCast_ediv]; rfl
        · rw [of_add (by omega), bs_cons]
    · have hdd : decide (10 ≤ (m : Int)) = false := by simp; omega
      go_wp2
      go_ret
      refine ⟨?_, hbw⟩
      have e := HD.out
      unfold dgI at e
      rw [if_pos (by omega)] at e
      rw [e]; rfl

set_option maxRecDepth 100000 in
set_option maxHeartbeats 1000000 in
theorem rtext_any (c : Int) (w : World) :
    Calls Tryz.prog 14 #[.int .i64 c] w fun e w' => e = .returned (.tuple #[.string (bs (texT c)), .int .i64 (texE c)]) ∧ Below w.heap.size w w' := by
  have hca := fun w : World => ramount_any c w
  cases hc : amt c with
  | false =>
    have E1 : texT c = [] := by unfold texT; rw [hc, if_neg (by simp)]
    have E2 : texE c = 1 := by unfold texE; rw [hc, if_neg (by simp)]
    rw [E1, E2]
    rw [hc] at hca
    have K := Lib.hid hca
    clear hc hca E1 E2
    go_enter Tryz.func14, Tryz.ntmps14
    go_wp2_with fail
    refine (K.out _).mono ?_
    rintro e w' ⟨rfl, rfl⟩
    go_wp2
    go_ret2
    exact ⟨rfl, Below.refl _ _⟩
  | true =>
    have E1 : texT c = txM c := by unfold texT; rw [if_pos hc]
    have E2 : texE c = 0 := by unfold texE; rw [if_pos hc]
    rw [E1, E2]
    have hcb := (amt_iff c).1 hc
    rw [hc] at hca
    have K := Lib.hid hca
    have hcv := conv2
    by_cases hn : c < 0
    · obtain ⟨a, ha⟩ : ∃ a : Nat, (a : Int) = -c := ⟨(-c).toNat, by omega⟩
      have KD := Lib.hid (fun w : World => digits_any (a / 100) w (by omega))
      have HX : Hid (txM c = [45] ++ (Lib.decDigits (a / 100) ++ ([46] ++ ([UInt8.ofNat (48 + a / 10 % 10)] ++ [UInt8.ofNat (48 + a % 10)])))) := by
        show _ = _
        unfold txM
        rw [if_pos hn, ← txA_nat]
        congr 2
        unfold ab; rw [if_pos hn, ha]
      have l1 : (bs (Lib.decDigits (a / 100))).size ≤ 20 := by rw [bs_size, Lib.decDigits_length]; exact Lib.nDigits_le20 _ (by omega)
      generalize Lib.decDigits (a / 100) = D at KD HX l1
      obtain rfl : c = -(a : Int) := by omega
      rw [Int.natCast_ediv] at KD
      clear hc hca E1 E2 ha
      go_enter Tryz.func14, Tryz.ntmps14
      go_wp2_with fail
      refine (K.out _).mono ?_
      rintro e w' ⟨rfl, rfl⟩
      go_wp2_with fail
      refine (KD.out _).mono ?_
      rintro e w1 ⟨rfl, hb⟩
      have HB : Aside (Below w.heap.size w w1) := hb
      have hz := hb.size
      clear hb
      go_wp2
      go_ret2
      refine ⟨?_, HB.out.alloc hz _⟩
      rw [HX.out, of_add (by omega), of_add (by omega)]
      have e : ∀ A B : ByteArray, A = B → Ending.returned (Value.tuple #[.string A, .int .i64 0]) = Ending.returned (Value.tuple #[.string B, .int .i64 0]) := fun _ _ h => by rw [h]
      refine e _ _ ?_
      apply ByteArray.ext
      simp [bs]
    · obtain ⟨a, ha⟩ : ∃ a : Nat, (a : Int) = c := ⟨c.toNat, by omega⟩
      have KD := Lib.hid (fun w : World => digits_any (a / 100) w (by omega))
      have HX : Hid (txM c = Lib.decDigits (a / 100) ++ ([46] ++ ([UInt8.ofNat (48 + a / 10 % 10)] ++ [UInt8.ofNat (48 + a % 10)]))) := by
        show _ = _
        unfold txM
        rw [if_neg hn, ← txA_nat]
        congr 1
        unfold ab; rw [if_neg hn, ha]
      have l1 : (bs (Lib.decDigits (a / 100))).size ≤ 20 := by rw [bs_size, Lib.decDigits_length]; exact Lib.nDigits_le20 _ (by omega)
      generalize Lib.decDigits (a / 100) = D at KD HX l1
      obtain rfl : c = (a : Int) := by omega
      rw [Int.natCast_ediv] at KD
      clear hc hca E1 E2 ha
      go_enter Tryz.func14, Tryz.ntmps14
      go_wp2_with fail
      refine (K.out _).mono ?_
      rintro e w' ⟨rfl, rfl⟩
      go_wp2_with fail
      refine (KD.out _).mono ?_
      rintro e w1 ⟨rfl, hb⟩
      have HB : Aside (Below w.heap.size w w1) := hb
      have hz := hb.size
      clear hb
      go_wp2
      go_ret2
      refine ⟨?_, HB.out.alloc hz _⟩
      rw [HX.out, of_add (by omega), of_add (by omega)]
      have e : ∀ A B : ByteArray, A = B → Ending.returned (Value.tuple #[.string A, .int .i64 0]) = Ending.returned (Value.tuple #[.string B, .int .i64 0]) := fun _ _ h => by rw [h]
      refine e _ _ ?_
      apply ByteArray.ext
      simp [bs]
end Go.Proofs.YtamccmeibnihpaaGreatDoor
