/-
  Digits of the reference, and the decimal digits of a number.
-/
import Derived.Test.YtoaeceeookknnaaDoorLJoinsW
import Derived.Test.YtoaeceeookknnaaDoorLValM
import Derived.Laws.BytesString
import Derived.Lib.ItoaLen
namespace Go.Proofs.YtoaeceeookknnaaDoor
open Go.RowKit Lx

/-- One byte as a string. -/
theorem conv1 (w : World) (x : Int) : (convert 35 9 (.slice (some ⟨w.heap.size, 0, none⟩) 1 1)).run Tryd.prog (w.alloc (.cells #[.int .u8 x] 5)) =
    .ok (.string ⟨#[UInt8.ofNat x.toNat]⟩) (w.alloc (.cells #[.int .u8 x] 5)) := by
  rw [run_convert_bytes_string _ _ _ _ _ _ _ Tryd.underlying35 Tryd.underlying5 Tryd.underlying9]
  rw [run_bytesToString _ _ 1 1 [x] (by simp [go_sem, loadCells])]
  rfl

/-- What stands in the loop: the digits behind the number that is left. -/
def Dinv (n m : Nat) (s : List UInt8) : Prop := Lib.decDigits n = if m < 10 then s else Lib.decDigits (m / 10) ++ s
theorem dinv_start (n : Nat) : Dinv n n [UInt8.ofNat (48 + n % 10)] := by
  unfold Dinv
  split
  · rename_i h
    rw [Lib.decDigits_one h, Nat.mod_eq_of_lt h]
  · rename_i h
    rw [Lib.decDigits, dif_neg h]
theorem dinv_next {n m : Nat} {s : List UInt8} (hm : 10 ≤ m) (h : Dinv n m s) : Dinv n (m / 10) (UInt8.ofNat (48 + m / 10 % 10) :: s) := by
  unfold Dinv at h ⊢
  rw [h, if_neg (by omega)]
  have k := dinv_start (m / 10)
  unfold Dinv at k
  rw [k]
  split <;> simp
theorem dinv_len {n m : Nat} {s : List UInt8} (hn : n ≤ 10000000000) (h : Dinv n m s) : s.length ≤ 20 := by
  have l : (Lib.decDigits n).length ≤ 20 := by rw [Lib.decDigits_length]; exact Lib.nDigits_le20 n (by omega)
  unfold Dinv at h
  rw [h] at l
  split at l
  · exact l
  · rw [List.length_append] at l; omega
theorem bs_cons (c : UInt8) (s : List UInt8) : (⟨#[c]⟩ : ByteArray) ++ bs s = bs (c :: s) := by
  apply ByteArray.ext
  simp [bs]

theorem of_add_fin : ∀ k : Fin 10, (48 : UInt8) + UInt8.ofNat k.val = UInt8.ofNat (48 + k.val) := by decide
theorem of_add {k : Nat} (h : k < 10) : (48 : UInt8) + UInt8.ofNat k = UInt8.ofNat (48 + k) := of_add_fin ⟨k, h⟩

set_option maxRecDepth 100000 in
set_option maxHeartbeats 400000 in
theorem digits_any (n : Nat) (w : World) (hn : n ≤ 10000000000) :
    Calls Tryd.prog 18 #[.int .i64 n] w fun e w' => e = .returned (.string (bs (Lib.decDigits n))) ∧ RowKit.Below w.heap.size w w' := by
  have hc := conv1
  go_enter Tryd.func18, Tryd.ntmps18
  go_wp2
  go_loopg [0, 3] n (fun k x y wr => ∃ (m : Nat) (s : List UInt8), m ≤ k ∧ m ≤ n ∧ x = .int .i64 m ∧ y = .string (bs s) ∧ Dinv n m s ∧ RowKit.Below w.heap.size w wr)
  case atStart => exact ⟨n, _, Nat.le_refl _, Nat.le_refl _, rfl, (by rfl), dinv_start n, (Below.refl _ _).alloc (Nat.le_refl _) _⟩
  case round =>
    obtain ⟨m, s, hk, hmn, rfl, rfl, hd, hbw⟩ := hrel
    have hl := dinv_len hn hd
    have hs : (bs s).size ≤ 20 := by rw [bs_size]; exact hl
    have hzw := hbw.size
    have HD := Lib.hid hd
    clear hd hl
    by_cases h : 9 < m
    · go_wp2
      go_roundg (m / 10)
      case measure => omega
      case rel =>
        refine ⟨m / 10, _, Nat.le_refl _, by omega, ?_, ?_, dinv_next (by omega) HD.out, hbw.alloc hzw _⟩
        · rw [Int.natCast_ediv]; rfl
        · rw [of_add (by omega), bs_cons]
    · have hdd : decide (9 < (m : Int)) = false := by simp; omega
      go_wp2
      go_ret
      refine ⟨?_, hbw⟩
      have e := HD.out
      unfold Dinv at e
      rw [if_pos (by omega)] at e
      rw [e]; rfl

theorem dec_small {n : Nat} (h : n < 10) : Lib.decDigits n = [UInt8.ofNat (48 + n)] := by
  rw [Lib.decDigits]; simp [h]
theorem dec_big {n : Nat} (h : 10 ≤ n) : Lib.decDigits n = Lib.decDigits (n / 10) ++ [UInt8.ofNat (48 + n % 10)] := by
  rw [Lib.decDigits]; simp [show ¬ n < 10 by omega]
theorem ofNat_toNat {d : Nat} (h : d < 10) : (UInt8.ofNat (48 + d)).toNat = 48 + d := by
  have : ∀ k : Fin 10, (UInt8.ofNat (48 + k.val)).toNat = 48 + k.val := by decide
  exact this ⟨d, h⟩
theorem dgt_of {d : Nat} (h : d < 10) : dgt (UInt8.ofNat (48 + d)) = true := by
  unfold dgt; rw [ofNat_toNat h]; simp; omega
theorem dec_allD (n : Nat) : allD (Lib.decDigits n) = true ∧ Lib.decDigits n ≠ [] ∧ valD (Lib.decDigits n) = n := by
  induction n using Nat.strongRecOn with
  | _ n ih =>
    by_cases h : n < 10
    · rw [dec_small h]
      have e := ofNat_toNat h
      refine ⟨?_, by simp, ?_⟩
      · unfold allD; simp only [List.all_cons, List.all_nil, dgt_of h, Bool.and_self]
      · unfold valD; simp only [List.foldl_cons, List.foldl_nil, e]; omega
    · rw [dec_big (by omega)]
      obtain ⟨i1, i2, i3⟩ := ih (n / 10) (by omega)
      have e := ofNat_toNat (show n % 10 < 10 by omega)
      refine ⟨?_, by simp, ?_⟩
      · unfold allD at i1 ⊢
        rw [List.all_append, i1]; simp only [List.all_cons, List.all_nil, dgt_of (show n % 10 < 10 by omega), Bool.and_self]
      · rw [valD_snoc, i3, e]; omega
theorem dec_len : ∀ (k n : Nat), 1 ≤ k → n < 10 ^ k → (Lib.decDigits n).length ≤ k
  | 0, _, h, _ => by omega
  | k + 1, n, _, h => by
    by_cases h10 : n < 10
    · rw [dec_small h10]; simp
    · rw [dec_big (by omega), List.length_append, List.length_singleton]
      have hk : 1 ≤ k := by
        cases k with
        | zero => simp at h; omega
        | succ k => omega
      have := dec_len k (n / 10) hk (by rw [Nat.pow_succ] at h; omega)
      omega

/-! ### Numbers that are written out -/
theorem whole_app {A : List UInt8} (h : allD A = true) (B : List UInt8) : whole (A ++ 46 :: B) = A ∧ behind (A ++ 46 :: B) = 46 :: B := by
  have hp : A.all (fun c => decide (c.toNat ≠ 46)) = true := by
    rw [List.all_eq_true]
    intro c hc
    have := List.all_eq_true.1 h c hc
    simpa using (dgt_not c this).2.2.2.2
  have hw : whole (A ++ 46 :: B) = A := by unfold whole; exact tw_eq A _ hp (fun c hc => by simp only [List.head?_cons, Option.some.injEq] at hc; subst hc; rfl)
  refine ⟨hw, ?_⟩
  have := cut_parts (A ++ 46 :: B)
  rw [hw] at this
  exact List.append_cancel_left this
theorem whole_all {A : List UInt8} (h : allD A = true) : whole A = A ∧ behind A = [] := by
  have hp : A.all (fun c => decide (c.toNat ≠ 46)) = true := by
    rw [List.all_eq_true]
    intro c hc
    have := List.all_eq_true.1 h c hc
    simpa using (dgt_not c this).2.2.2.2
  have hw : whole A = A := by unfold whole; exact tw_whole hp
  refine ⟨hw, ?_⟩
  have := cut_parts A
  rw [hw] at this
  simpa using this
/-- A text that is a number: its form, its bytes, its hundredths. -/
structure Num (x : List UInt8) (h : Nat) : Prop where
  frm : frm x = true
  hun : hun x = h
  all : x.all nmb = true
  hd : ∃ c r, x = c :: r ∧ dgt c = true
theorem all_nmb {A : List UInt8} (h : allD A = true) : A.all nmb = true := by
  rw [List.all_eq_true]
  intro c hc
  exact (dgt_not c (List.all_eq_true.1 h c hc)).2.2.2.1
theorem num0 {A : List UInt8} (h : digs A 9 = true) : Num A (100 * valD A) := by
  obtain ⟨a1, a2, a3⟩ := digs_all h
  obtain ⟨w1, w2⟩ := whole_all a3
  refine ⟨by unfold Lx.frm; rw [w1, w2, h]; rfl, ?_, all_nmb a3, ?_⟩
  · unfold Lx.hun
    rw [w1, w2]
    show valD (A ++ [48, 48]) = _
    rw [show A ++ [48, 48] = (A ++ [48]) ++ [48] by simp, valD_snoc, valD_snoc]
    have : (48 : UInt8).toNat = 48 := rfl
    omega
  · cases A with
    | nil => exact absurd rfl a1
    | cons c r =>
      unfold allD at a3
      rw [List.all_cons, Bool.and_eq_true] at a3
      exact ⟨c, r, rfl, a3.1⟩
theorem num1 {A : List UInt8} {d : Nat} (h : digs A 9 = true) (hd : d < 10) : Num (A ++ [46, UInt8.ofNat (48 + d)]) (100 * valD A + 10 * d) := by
  obtain ⟨a1, a2, a3⟩ := digs_all h
  obtain ⟨w1, w2⟩ := whole_app a3 [UInt8.ofNat (48 + d)]
  refine ⟨?_, ?_, ?_, ?_⟩
  · unfold Lx.frm
    rw [w1, w2, h]
    unfold digs allD
    simp only [List.tail_cons, List.all_cons, List.all_nil, dgt_of hd, List.length_cons, List.length_nil]; rfl
  · unfold Lx.hun
    rw [w1, w2]
    show valD (A ++ [UInt8.ofNat (48 + d), 48]) = _
    rw [show A ++ [UInt8.ofNat (48 + d), 48] = (A ++ [UInt8.ofNat (48 + d)]) ++ [48] by simp, valD_snoc, valD_snoc, ofNat_toNat hd]
    have : (48 : UInt8).toNat = 48 := rfl
    omega
  · rw [List.all_append, all_nmb a3]
    have := (dgt_not _ (dgt_of hd)).2.2.2.1
    simp only [List.all_cons, List.all_nil, this]; rfl
  · cases A with
    | nil => exact absurd rfl a1
    | cons c r =>
      unfold allD at a3
      rw [List.all_cons, Bool.and_eq_true] at a3
      exact ⟨c, _, rfl, a3.1⟩
theorem num2 {A : List UInt8} {d e : Nat} (h : digs A 9 = true) (hd : d < 10) (he : e < 10) : Num (A ++ [46, UInt8.ofNat (48 + d), UInt8.ofNat (48 + e)]) (100 * valD A + 10 * d + e) := by
  obtain ⟨a1, a2, a3⟩ := digs_all h
  obtain ⟨w1, w2⟩ := whole_app a3 [UInt8.ofNat (48 + d), UInt8.ofNat (48 + e)]
  refine ⟨?_, ?_, ?_, ?_⟩
  · unfold Lx.frm
    rw [w1, w2, h]
    unfold digs allD
    simp only [List.tail_cons, List.all_cons, List.all_nil, dgt_of hd, dgt_of he, List.length_cons, List.length_nil]; rfl
  · unfold Lx.hun
    rw [w1, w2]
    show valD (A ++ [UInt8.ofNat (48 + d), UInt8.ofNat (48 + e)]) = _
    rw [show A ++ [UInt8.ofNat (48 + d), UInt8.ofNat (48 + e)] = (A ++ [UInt8.ofNat (48 + d)]) ++ [UInt8.ofNat (48 + e)] by simp, valD_snoc, valD_snoc, ofNat_toNat hd, ofNat_toNat he]
    omega
  · rw [List.all_append, all_nmb a3]
    have h1 := (dgt_not _ (dgt_of hd)).2.2.2.1
    have h2 := (dgt_not _ (dgt_of he)).2.2.2.1
    simp only [List.all_cons, List.all_nil, h1, h2]; rfl
  · cases A with
    | nil => exact absurd rfl a1
    | cons c r =>
      unfold allD at a3
      rw [List.all_cons, Bool.and_eq_true] at a3
      exact ⟨c, _, rfl, a3.1⟩
theorem num_nx {x : List UInt8} {h : Nat} (k : Num x h) : nx Vh x = if (Vh h).2.2 = 0 then .ok ⟨2, 0, [], (Vh h).1, (Vh h).2.1⟩ x.length else .er 3 := by
  obtain ⟨c, r, rfl, hc⟩ := k.hd
  have hl : ltr c = false := (dgt_not c hc).2.2.1
  have ht : (c :: r).takeWhile nmb = c :: r := tw_whole k.all
  simp only [nx]
  rw [if_neg (by simp [hl]), if_pos hc, ht, if_pos k.frm, k.hun]
theorem num_lx {x : List UInt8} {h : Nat} (k : Num x h) (f : Nat) : lx Vh (f + 1) 0 x = if (Vh h).2.2 = 0 then .ok [⟨2, 0, [], (Vh h).1, (Vh h).2.1⟩] else .er 3 0 := by
  have hn := num_nx k
  obtain ⟨c, r, hcr, hc⟩ := k.hd
  have hg : gp false x = 0 := by
    rw [hcr]; simp only [gp]
    rw [if_neg (dgt_not c hc).2.1, if_neg (by rw [(dgt_not c hc).1]; simp)]
  have hl : 0 < x.length := by rw [hcr]; simp
  simp only [lx, hg]
  rw [if_neg (by omega), List.drop_zero, hn]
  by_cases hv : (Vh h).2.2 = 0
  · simp only [if_pos hv, Nat.add_zero, Nat.zero_add]
    rw [lx_end (by rw [List.drop_eq_nil_of_le (Nat.le_refl _)]; rfl)]
    rfl
  · simp only [if_neg hv]
theorem num_lex {x : List UInt8} {h : Nat} (k : Num x h) (hx : x.length ≤ 8000) : lex Vh x = if (Vh h).2.2 = 0 then .ok [⟨2, 0, [], (Vh h).1, (Vh h).2.1⟩] else .er 3 0 := by
  unfold lex
  rw [if_neg (by omega)]
  exact num_lx k 1999
end Go.Proofs.YtoaeceeookknnaaDoor
