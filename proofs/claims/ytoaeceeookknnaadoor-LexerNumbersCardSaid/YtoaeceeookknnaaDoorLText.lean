/-
  Contracts of strings.Clone, strings.Cut at a point, isDigits, strconv.Atoi of digits.
-/
import Derived.Test.YtoaeceeookknnaaDoorLSkip
import Derived.Test.YtoaeceeookknnaaDoorLShelf
import Derived.Lib.IndexLaws
import Derived.Lib.Bytealg
import Derived.Lib.AtoiErrMem
namespace Go.Proofs.YtoaeceeookknnaaDoor
open Go.RowKit Lx

theorem clone_any (s : ByteArray) (w : World) (hs : s.size ≤ 281474976710656) : Calls Tryd.prog 44 #[.string s] w fun e w' => e = .returned (.string s) ∧ RowKit.Below w.heap.size w w' := by
  go_enter Tryd.func44, Tryd.ntmps44
  go_wp2_with fail
  refine (Tryd.stringslite_Clone _ _ hs).mono ?_
  rintro _ w1 ⟨rfl, hb⟩
  go_wp2
  go_ret
  exact ⟨rfl, hb⟩

theorem index_point : ∀ l : List UInt8, Lib.indexByte l 46 = if behind l = [] then -1 else ((whole l).length : Int)
  | [] => rfl
  | c :: l => by
    unfold Lib.indexByte
    by_cases h : c = 46
    · subst h
      have : behind (46 :: l) = 46 :: l := by unfold behind; rw [List.dropWhile_cons]; rfl
      have h2 : whole (46 :: l) = [] := by unfold whole; rw [List.takeWhile_cons]; rfl
      rw [this, h2]; simp
    · have hn : decide (c.toNat ≠ 46) = true := by
        simp only [decide_eq_true_eq]; intro e; exact h (UInt8.toNat_inj.1 e)
      have e1 : behind (c :: l) = behind l := by unfold behind; rw [List.dropWhile_cons, hn]; rfl
      have e2 : whole (c :: l) = c :: whole l := by unfold whole; rw [List.takeWhile_cons, hn]; rfl
      rw [if_neg (by simpa using h), e1, e2, index_point l]
      by_cases hb : behind l = []
      · rw [if_pos hb, if_pos hb]; simp
      · rw [if_neg hb, if_neg hb, if_neg (by simp)]; simp
theorem cut_parts (l : List UInt8) : whole l ++ behind l = l := by unfold whole behind; exact List.takeWhile_append_dropWhile
theorem behind_head {l : List UInt8} (h : behind l ≠ []) : behind l = 46 :: (behind l).tail := by
  unfold behind at h ⊢
  cases hb : l.dropWhile (fun c => decide (c.toNat ≠ 46)) with
  | nil => exact absurd hb h
  | cons c r =>
    have := List.head_dropWhile_not (fun c : UInt8 => decide (c.toNat ≠ 46)) (l := l) h
    simp only [hb, List.head_cons, decide_eq_false_iff_not, ne_eq, Decidable.not_not] at this
    have : c = 46 := UInt8.toNat_inj.1 this
    rw [this]; rfl
theorem behind_none {l : List UInt8} (h : behind l = []) : whole l = l := by have := cut_parts l; rwa [h, List.append_nil] at this

set_option maxRecDepth 100000 in
set_option maxHeartbeats 400000 in
theorem cut_some0 (s : ByteArray) (i : Nat) (w : World) (hs : s.size ≤ 9223372036854775806) (h : Lib.indexByte s.data.toList 46 = i) (hi : i < s.size) :
    Calls Tryd.prog 53 #[.string s, .string ⟨#[46]⟩] w fun e w' =>
      e = .returned (.tuple #[.string (s.extract 0 i), .string (s.extract (i + 1) s.size), .bool true]) ∧ RowKit.Below w.heap.size w w' := by
  have H := Lib.hid h
  clear h
  go_enter Tryd.func53, Tryd.ntmps53
  go_wp2_with fail
  refine (Tryd.stringslite_Index_one _ _ _).mono ?_
  rintro e w' ⟨rfl, rfl⟩
  rw [H.out]
  go_wp2
  go_quiet (fail)
  go_wp2
  go_ret3
  exact ⟨rfl, below_drewN (Below.refl _ _) _⟩

set_option maxRecDepth 100000 in
set_option maxHeartbeats 400000 in
theorem cut_none0 (s : ByteArray) (w : World) (h : Lib.indexByte s.data.toList 46 = -1) :
    Calls Tryd.prog 53 #[.string s, .string ⟨#[46]⟩] w fun e w' =>
      e = .returned (.tuple #[.string s, .string ⟨#[]⟩, .bool false]) ∧ RowKit.Below w.heap.size w w' := by
  have H := Lib.hid h
  clear h
  go_enter Tryd.func53, Tryd.ntmps53
  go_wp2_with fail
  refine (Tryd.stringslite_Index_one _ _ _).mono ?_
  rintro e w' ⟨rfl, rfl⟩
  rw [H.out]
  go_wp2
  go_ret3
  exact ⟨rfl, Below.refl _ _⟩

set_option maxRecDepth 100000 in
set_option maxHeartbeats 400000 in
theorem cut_any (l : List UInt8) (w : World) (hs : l.length ≤ 281474976710656) :
    Calls Tryd.prog 47 #[.string (bs l), .string ⟨#[46]⟩] w fun e w' =>
      e = .returned (.tuple #[.string (bs (whole l)), .string (bs (behind l).tail), .bool (decide (behind l ≠ []))]) ∧ RowKit.Below w.heap.size w w' := by
  have hF : ∀ w, Calls Tryd.prog 53 #[.string (bs l), .string ⟨#[46]⟩] w fun e w' =>
      e = .returned (.tuple #[.string (bs (whole l)), .string (bs (behind l).tail), .bool (decide (behind l ≠ []))]) ∧ RowKit.Below w.heap.size w w' := by
    intro w
    have hI := index_point l
    have hp := cut_parts l
    by_cases h : behind l = []
    · rw [if_pos h] at hI
      have := cut_none0 (bs l) w (by rw [bs_data]; exact hI)
      rw [behind_none h, h]
      have e : bs ([] : List UInt8).tail = ⟨#[]⟩ := rfl
      rw [e]
      simpa using this
    · rw [if_neg h] at hI
      have hb := behind_head h
      have hl := congrArg List.length hp
      rw [List.length_append, hb, List.length_cons] at hl
      have := cut_some0 (bs l) (whole l).length w (by rw [bs_size]; omega) (by rw [bs_data]; exact hI) (by rw [bs_size]; omega)
      have e1 : (bs l).extract 0 (whole l).length = bs (whole l) := by
        rw [bs_take]; congr 1; unfold whole; exact tw_take l
      have e2 : (bs l).extract ((whole l).length + 1) (bs l).size = bs (behind l).tail := by
        rw [bs_drop]; congr 1
        have : l.drop (whole l).length = behind l := by
          have h3 := congrArg (List.drop (whole l).length) hp
          rw [List.drop_left] at h3
          exact h3.symm
        rw [← List.drop_drop, this]; exact List.drop_one
      rw [e1, e2] at this
      simpa [h] using this
  generalize whole l = A at hF ⊢
  generalize (behind l).tail = B at hF ⊢
  generalize decide (behind l ≠ []) = r at hF ⊢
  have HF := Lib.hid hF
  clear hF
  go_enter Tryd.func47, Tryd.ntmps47
  go_wp2_with fail
  refine (HF.out _).mono ?_
  rintro e w1 ⟨rfl, hb1⟩
  go_wp2
  go_ret3
  exact ⟨rfl, hb1⟩

theorem tw_all {p : UInt8 → Bool} : ∀ l : List UInt8, (l.takeWhile p).all p = true
  | [] => rfl
  | c :: l => by
    rw [List.takeWhile_cons]
    cases h : p c with
    | false => rfl
    | true => simp only [if_true, List.all_cons, h, tw_all l, Bool.and_self]
theorem dec_from : ∀ (l : List UInt8) (a : Nat), allD l = true → Lib.decFrom a l = some (l.foldl (fun a c => a * 10 + (c.toNat - 48)) a)
  | [], a, _ => rfl
  | c :: l, a, h => by
    unfold allD at h
    rw [List.all_cons, Bool.and_eq_true] at h
    have hd : 48 ≤ c.toNat ∧ c.toNat ≤ 57 := by have := h.1; unfold dgt at this; simpa using this
    unfold Lib.decFrom Lib.digitVal
    rw [if_pos hd]
    exact dec_from l _ h.2
theorem atoi_val (l : List UInt8) (hne : l ≠ []) (h : allD l = true) : Lib.atoi l = some (valD l : Int) := by
  cases l with
  | nil => exact absurd rfl hne
  | cons c r =>
    have hd : 48 ≤ c.toNat ∧ c.toNat ≤ 57 := by
      unfold allD at h
      rw [List.all_cons, Bool.and_eq_true] at h
      have := h.1; unfold dgt at this; simpa using this
    have n45 : ¬ c = 45 := by intro e; subst e; revert hd; decide
    have n43 : ¬ c = 43 := by intro e; subst e; revert hd; decide
    simp only [Lib.atoi]
    rw [if_neg (by simpa using n45), if_neg (by simpa using n43)]
    unfold Lib.decNat
    rw [if_neg (by simp), dec_from _ _ h]
    rfl
theorem atoi_any (l : List UInt8) (w : World) (hl : l.length ≤ 18) (hne : l ≠ []) (h : allD l = true) :
    Calls Tryd.prog 49 #[.string (bs l)] w fun e w' => e = .returned (.tuple #[.int .i64 (valD l : Nat), .nilIface]) ∧ RowKit.Below w.heap.size w w' := by
  refine (Tryd.strconv_Atoi (bs l) (valD l : Nat) (by rw [bs_size]; exact hl) (by rw [bs_data]; exact atoi_val l hne h) w).mono ?_
  rintro e w' ⟨rfl, t, rfl⟩
  exact ⟨rfl, Lib.bytesWorld_below _ _ _⟩

set_option maxRecDepth 100000 in
set_option maxHeartbeats 400000 in
theorem isDigits_any (l : List UInt8) (k : Nat) (w : World) (hs : l.length ≤ 281474976710656) :
    Calls Tryd.prog 48 #[.string (bs l), .int .i64 k] w fun e w' => e = .returned (.bool (digs l k)) ∧ w' = w := by
  obtain ⟨r, hr⟩ : ∃ r, r = digs l k := ⟨_, rfl⟩
  rw [← hr]
  unfold digs at hr
  have hsz : (bs l).size = l.length := bs_size l
  by_cases h0 : l = []
  · have HR : Hid (r = false) := by show _ = _; rw [hr, h0]; rfl
    subst h0
    clear hr
    show Calls Tryd.prog 48 #[.string ⟨#[]⟩, .int .i64 k] w fun e w' => _
    go_enter Tryd.func48, Tryd.ntmps48
    go_wp2_with fail
    go_ret
    exact ⟨ret_bool HR.out.symm, rfl⟩
  · have f4 : ((bs l).toList == []) = false := by rw [bs_list]; simpa using h0
    have f5 : (bs l).toList.isEmpty = false := by rw [bs_list]; simpa using h0
    by_cases h1 : l.length ≤ k
    · have d1 : decide (((bs l).size : Int) ≤ (k : Int)) = true := by simp [hsz]; omega
      have K := Lib.hid (beginning_any 39 dgt says_digit (bs l) w (by omega))
      rw [bs_data] at K
      have HR : Hid (r = (l.takeWhile dgt == l)) := by
        show _ = _
        rw [hr, decide_eq_true h0, decide_eq_true h1, Bool.true_and, Bool.true_and, Bool.eq_iff_iff, beq_iff_eq]
        unfold allD
        exact ⟨tw_whole, fun h => by rw [← h]; exact tw_all l⟩
      have f6 : ((bs (l.takeWhile dgt)).toList == (bs l).toList) = (l.takeWhile dgt == l) := by rw [bs_list, bs_list]
      have d6 : ¬ (bs l).toList = [] := by rw [bs_list]; exact h0
      have d2 : decide ((bs l).size ≤ k) = true := decide_eq_true (by rw [hsz]; exact h1)
      have d5 : (bs l).size ≤ k := by rw [hsz]; exact h1
      clear hr h0 h1
      rw [← HR.out] at f6
      have d3 : (!(bs l).toList == []) = true := by rw [f4]; rfl
      generalize bs (l.takeWhile dgt) = T at *
      generalize bs l = s at *
      go_enter Tryd.func48, Tryd.ntmps48
      go_wp2_with (refine K.out.mono ?_; rintro _ _ ⟨rfl, rfl⟩)
      go_ret
      exact ⟨rfl, rfl⟩
    · have d1 : decide (((bs l).size : Int) ≤ (k : Int)) = false := by simp [hsz]; omega
      have HR : Hid (r = false) := by show _ = _; rw [hr, decide_eq_false h1]; simp
      have d2 : decide ((bs l).size ≤ k) = false := decide_eq_false (by rw [hsz]; exact h1)
      have d5 : ¬ (bs l).size ≤ k := by rw [hsz]; exact h1
      clear hr
      generalize bs l = s at *
      go_enter Tryd.func48, Tryd.ntmps48
      go_wp2_with fail
      go_ret
      exact ⟨ret_bool HR.out.symm, rfl⟩
end Go.Proofs.YtoaeceeookknnaaDoor
