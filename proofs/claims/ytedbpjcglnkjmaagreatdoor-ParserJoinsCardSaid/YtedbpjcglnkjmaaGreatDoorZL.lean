/-
  Contracts of strings.Clone, strings.Cut at a point, isDigits, strconv.Atoi of digits.
  The contract of signLength, and of the reference's Sign.
  Contracts of word, sign, number, and token.
  Contracts of word with an error, sign, number.
  The contract of token.
  The contract of tokens.
-/
import Derived.Test.YtedbpjcglnkjmaaGreatDoorZK
import Derived.Test.YtedbpjcglnkjmaaGreatDoorLShelf
import Derived.Test.YtedbpjcglnkjmaaGreatDoorZC
import Derived.Lib.IndexLaws
import Derived.Lib.Bytealg
import Derived.Lib.AtoiErrMem
namespace Go.Proofs.YtedbpjcglnkjmaaGreatDoor
open Go.RowKit Lx

theorem clone_any (s : ByteArray) (w : World) (hs : s.size ≤ 281474976710656) : Calls Tryz.prog 113 #[.string s] w fun e w' => e = .returned (.string s) ∧ RowKit.Below w.heap.size w w' := by
  go_enter Tryz.func113, Tryz.ntmps113
  go_wp2_with fail
  refine (Tryz.stringslite_Clone _ _ hs).mono ?_
  rintro _ w1 ⟨rfl, hb⟩
  go_wp2
  go_ret
  exact ⟨rfl, hb⟩

theorem index_point : ∀ l : List UInt8, Lib.indexByte l 46 = if behind l = [] then -1 else ((whole l).length : Int)
  | [] => rfl
  | c :: l => by
    unfold Lib.indexByte
    by_cases h : c = 46
    · subst h
      have : behind (46 :: l) = 46 :: l := by unfold behind; rw [List.dropWhile_cons]; rfl
      have h2 : whole (46 :: l) = [] := by unfold whole; rw [List.takeWhile_cons]; rfl
      rw [this, h2]; simp
    · have hn : decide (c.toNat ≠ 46) = true := by
        simp only [decide_eq_true_eq]; intro e; exact h (UInt8.toNat_inj.1 e)
      have e1 : behind (c :: l) = behind l := by unfold behind; rw [List.dropWhile_cons, hn]; rfl
      have e2 : whole (c :: l) = c :: whole l := by unfold whole; rw [List.takeWhile_cons, hn]; rfl
      rw [if_neg (by simpa using h), e1, e2, index_point l]
      by_cases hb : behind l = []
      · rw [if_pos hb, if_pos hb]; simp
      · rw [if_neg hb, if_neg hb, if_neg (by simp)]; simp
theorem cut_parts (l : List UInt8) : whole l ++ behind l = l := by unfold whole behind; exact List.takeWhile_append_dropWhile
theorem behind_head {l : List UInt8} (h : behind l ≠ []) : behind l = 46 :: (behind l).tail := by
  unfold behind at h ⊢
  cases hb : l.dropWhile (fun c => decide (c.toNat ≠ 46)) with
  | nil => exact absurd hb h
  | cons c r =>
    have := List.head_dropWhile_not (fun c : UInt8 => decide (c.toNat ≠ 46)) (l := l) h
    simp only [hb, List.head_cons, decide_eq_false_iff_not, ne_eq, Decidable.not_not] at this
    have : c = 46 := UInt8.toNat_inj.1 this
    rw [this]; rfl
theorem behind_none {l : List UInt8} (h : behind l = []) : whole l = l := by have := cut_parts l; rwa [h, List.append_nil] at this

set_option maxRecDepth 100000 in
set_option maxHeartbeats 400000 in
theorem cut_some0 (s : ByteArray) (i : Nat) (w : World) (hs : s.size ≤ 9223372036854775806) (h : Lib.indexByte s.data.toList 46 = i) (hi : i < s.size) :
    Calls Tryz.prog 124 #[.string s, .string ⟨#[46]⟩] w fun e w' =>
      e = .returned (.tuple #[.string (s.extract 0 i), .string (s.extract (i + 1) s.size), .bool true]) ∧ RowKit.Below w.heap.size w w' := by
  have H := Lib.hid h
  clear h
  go_enter Tryz.func124, Tryz.ntmps124
  go_wp2_with fail
  refine (Tryz.stringslite_Index_one _ _ _).mono ?_
  rintro e w' ⟨rfl, rfl⟩
  rw [H.out]
  go_wp2
  go_quiet (fail)
  go_wp2
  go_ret3
  exact ⟨rfl, below_drewN (Below.refl _ _) _⟩

set_option maxRecDepth 100000 in
set_option maxHeartbeats 400000 in
theorem cut_none0 (s : ByteArray) (w : World) (h : Lib.indexByte s.data.toList 46 = -1) :
    Calls Tryz.prog 124 #[.string s, .string ⟨#[46]⟩] w fun e w' =>
      e = .returned (.tuple #[.string s, .string ⟨#[]⟩, .bool false]) ∧ RowKit.Below w.heap.size w w' := by
  have H := Lib.hid h
  clear h
  go_enter Tryz.func124, Tryz.ntmps124
  go_wp2_with fail
  refine (Tryz.stringslite_Index_one _ _ _).mono ?_
  rintro e w' ⟨rfl, rfl⟩
  rw [H.out]
  go_wp2
  go_ret3
  exact ⟨rfl, Below.refl _ _⟩

set_option maxRecDepth 100000 in
set_option maxHeartbeats 400000 in
theorem cut_any (l : List UInt8) (w : World) (hs : l.length ≤ 281474976710656) :
    Calls Tryz.prog 116 #[.string (bs l), .string ⟨#[46]⟩] w fun e w' =>
      e = .returned (.tuple #[.string (bs (whole l)), .string (bs (behind l).tail), .bool (decide (behind l ≠ []))]) ∧ RowKit.Below w.heap.size w w' := by
  have hF : ∀ w, Calls Tryz.prog 124 #[.string (bs l), .string ⟨#[46]⟩] w fun e w' =>
      e = .returned (.tuple #[.string (bs (whole l)), .string (bs (behind l).tail), .bool (decide (behind l ≠ []))]) ∧ RowKit.Below w.heap.size w w' := by
    intro w
    have hI := index_point l
    have hp := cut_parts l
    by_cases h : behind l = []
    · rw [if_pos h] at hI
      have := cut_none0 (bs l) w (by rw [bs_data]; exact hI)
      rw [behind_none h, h]
      have e : bs ([] : List UInt8).tail = ⟨#[]⟩ := rfl
      rw [e]
      simpa using this
    · rw [if_neg h] at hI
      have hb := behind_head h
      have hl := congrArg List.length hp
      rw [List.length_append, hb, List.length_cons] at hl
      have := cut_some0 (bs l) (whole l).length w (by rw [bs_size]; omega) (by rw [bs_data]; exact hI) (by rw [bs_size]; omega)
      have e1 : (bs l).extract 0 (whole l).length = bs (whole l) := by
        rw [bs_take]; congr 1; unfold whole; exact tw_take l
      have e2 : (bs l).extract ((whole l).length + 1) (bs l).size = bs (behind l).tail := by
        rw [bs_drop]; congr 1
        have : l.drop (whole l).length = behind l := by
          have h3 := congrArg (List.drop (whole l).length) hp
          rw [List.drop_left] at h3
          exact h3.symm
        rw [← List.drop_drop, this]; exact List.drop_one
      rw [e1, e2] at this
      simpa [h] using this
  generalize whole l = A at hF ⊢
  generalize (behind l).tail = B at hF ⊢
  generalize decide (behind l ≠ []) = r at hF ⊢
  have HF := Lib.hid hF
  clear hF
  go_enter Tryz.func116, Tryz.ntmps116
  go_wp2_with fail
  refine (HF.out _).mono ?_
  rintro e w1 ⟨rfl, hb1⟩
  go_wp2
  go_ret3
  exact ⟨rfl, hb1⟩

theorem tw_all {p : UInt8 → Bool} : ∀ l : List UInt8, (l.takeWhile p).all p = true
  | [] => rfl
  | c :: l => by
    rw [List.takeWhile_cons]
    cases h : p c with
    | false => rfl
    | true => simp only [if_true, List.all_cons, h, tw_all l, Bool.and_self]
theorem dec_from : ∀ (l : List UInt8) (a : Nat), allD l = true → Lib.decFrom a l = some (l.foldl (fun a c => a * 10 + (c.toNat - 48)) a)
  | [], a, _ => rfl
  | c :: l, a, h => by
    unfold allD at h
    rw [List.all_cons, Bool.and_eq_true] at h
    have hd : 48 ≤ c.toNat ∧ c.toNat ≤ 57 := by have := h.1; unfold dgt at this; simpa using this
    unfold Lib.decFrom Lib.digitVal
    rw [if_pos hd]
    exact dec_from l _ h.2
theorem atoi_val (l : List UInt8) (hne : l ≠ []) (h : allD l = true) : Lib.atoi l = some (valD l : Int) := by
  cases l with
  | nil => exact absurd rfl hne
  | cons c r =>
    have hd : 48 ≤ c.toNat ∧ c.toNat ≤ 57 := by
      unfold allD at h
      rw [List.all_cons, Bool.and_eq_true] at h
      have := h.1; unfold dgt at this; simpa using this
    have n45 : ¬ c = 45 := by intro e; subst e; revert hd; decide
    have n43 : ¬ c = 43 := by intro e; subst e; revert hd; decide
    simp only [Lib.atoi]
    rw [if_neg (by simpa using n45), if_neg (by simpa using n43)]
    unfold Lib.decNat
    rw [if_neg (by simp), dec_from _ _ h]
    rfl
theorem atoi_any (l : List UInt8) (w : World) (hl : l.length ≤ 18) (hne : l ≠ []) (h : allD l = true) :
    Calls Tryz.prog 118 #[.string (bs l)] w fun e w' => e = .returned (.tuple #[.int .i64 (valD l : Nat), .nilIface]) ∧ RowKit.Below w.heap.size w w' := by
  refine (Tryz.strconv_Atoi (bs l) (valD l : Nat) (by rw [bs_size]; exact hl) (by rw [bs_data]; exact atoi_val l hne h) w).mono ?_
  rintro e w' ⟨rfl, t, rfl⟩
  exact ⟨rfl, Lib.bytesWorld_below _ _ _⟩

set_option maxRecDepth 100000 in
set_option maxHeartbeats 400000 in
theorem isDigits_any (l : List UInt8) (k : Nat) (w : World) (hs : l.length ≤ 281474976710656) :
    Calls Tryz.prog 117 #[.string (bs l), .int .i64 k] w fun e w' => e = .returned (.bool (digs l k)) ∧ w' = w := by
  obtain ⟨r, hr⟩ : ∃ r, r = digs l k := ⟨_, rfl⟩
  rw [← hr]
  unfold digs at hr
  have hsz : (bs l).size = l.length := bs_size l
  by_cases h0 : l = []
  · have HR : Hid (r = false) := by show _ = _; rw [hr, h0]; rfl
    subst h0
    clear hr
    show Calls Tryz.prog 117 #[.string ⟨#[]⟩, .int .i64 k] w fun e w' => _
    go_enter Tryz.func117, Tryz.ntmps117
    go_wp2_with fail
    go_ret
    exact ⟨ret_bool HR.out.symm, rfl⟩
  · have f4 : ((bs l).toList == []) = false := by rw [bs_list]; simpa using h0
    have f5 : (bs l).toList.isEmpty = false := by rw [bs_list]; simpa using h0
    by_cases h1 : l.length ≤ k
    · have d1 : decide (((bs l).size : Int) ≤ (k : Int)) = true := by simp [hsz]; omega
      have K := Lib.hid (beginning_any 100 dgt says_digit (bs l) w (by omega))
      rw [bs_data] at K
      have HR : Hid (r = (l.takeWhile dgt == l)) := by
        show _ = _
        rw [hr, decide_eq_true h0, decide_eq_true h1, Bool.true_and, Bool.true_and, Bool.eq_iff_iff, beq_iff_eq]
        unfold allD
        exact ⟨tw_whole, fun h => by rw [← h]; exact tw_all l⟩
      have f6 : ((bs (l.takeWhile dgt)).toList == (bs l).toList) = (l.takeWhile dgt == l) := by rw [bs_list, bs_list]
      have d6 : ¬ (bs l).toList = [] := by rw [bs_list]; exact h0
      have d2 : decide ((bs l).size ≤ k) = true := decide_eq_true (by rw [hsz]; exact h1)
      have d5 : (bs l).size ≤ k := by rw [hsz]; exact h1
      clear hr h0 h1
      rw [← HR.out] at f6
      have d3 : (!(bs l).toList == []) = true := by rw [f4]; rfl
      generalize bs (l.takeWhile dgt) = T at *
      generalize bs l = s at *
      go_enter Tryz.func117, Tryz.ntmps117
      go_wp2_with (refine K.out.mono ?_; rintro _ _ ⟨rfl, rfl⟩)
      go_ret
      exact ⟨rfl, rfl⟩
    · have d1 : decide (((bs l).size : Int) ≤ (k : Int)) = false := by simp [hsz]; omega
      have HR : Hid (r = false) := by show _ = _; rw [hr, decide_eq_false h1]; simp
      have d2 : decide ((bs l).size ≤ k) = false := decide_eq_false (by rw [hsz]; exact h1)
      have d5 : ¬ (bs l).size ≤ k := by rw [hsz]; exact h1
      clear hr
      generalize bs l = s at *
      go_enter Tryz.func117, Tryz.ntmps117
      go_wp2_with fail
      go_ret
      exact ⟨ret_bool HR.out.symm, rfl⟩
end Go.Proofs.YtedbpjcglnkjmaaGreatDoor
namespace Go.Proofs.YtedbpjcglnkjmaaGreatDoor
open Go.RowKit Lx

theorem pre_one (l : List UInt8) : Lib.hasPrefix l [61] = decide (l.head? = some 61) := by
  unfold Lib.hasPrefix
  cases l with
  | nil => rfl
  | cons c l =>
    simp only [List.isPrefixOf, List.head?_cons, Option.some.injEq, Bool.and_true]
    rw [Bool.eq_iff_iff, beq_iff_eq, decide_eq_true_eq]
    exact eq_comm
theorem nat61 {d : UInt8} (h : (d.toNat : Int) = 61) : d.toNat = 61 := by omega
theorem sgn_s1 {c : UInt8} (l : List UInt8) (h33 : c.toNat ≠ 33) (h60 : c.toNat ≠ 60) (h62 : c.toNat ≠ 62) : sgn (c :: l) = if isS1 c = true then 1 else 0 := by
  simp only [sgn]; rw [if_neg h33, if_neg (by omega)]
theorem sgn_33 {c : UInt8} (l : List UInt8) (h : c.toNat = 33) : sgn (c :: l) = if decide (l.head? = some 61) = true then 2 else 0 := by
  simp only [sgn, decide_eq_true_eq]; rw [if_pos h]
theorem sgn_6 {c : UInt8} (l : List UInt8) (h : c.toNat = 60 ∨ c.toNat = 62) : sgn (c :: l) = if decide (l.head? = some 61) = true then 2 else 1 := by
  simp only [sgn, decide_eq_true_eq]; rw [if_neg (by omega), if_pos h]

set_option maxRecDepth 100000 in
set_option maxHeartbeats 2000000 in
theorem signLength_any (s : ByteArray) (c : UInt8) (r : List UInt8) (w : World) (hl : s.data.toList = c :: r) (hs : s.size ≤ 281474976710656) :
    Calls Tryz.prog 111 #[.string s] w fun e w' => e = .returned (.int .i64 (sgn (c :: r) : Nat)) ∧ w' = w := by
  have hsz : s.size = r.length + 1 := by rw [← len_bytes, hl]; rfl
  have h0 : 0 < s.size := by omega
  have hget : s[0] = c := by rw [get_list s 0 h0, hl]; rfl
  have KP : Hid (∀ w : World, Calls Tryz.prog 122 #[.string (s.extract 1 s.size), .string ⟨#[61]⟩] w fun e w' => e = .returned (.bool (decide (r.head? = some 61))) ∧ w' = w) := fun w => by
    have h := Tryz.strings_HasPrefix (s.extract 1 s.size) ⟨#[61]⟩ w
    rw [Lib.extract_to_end, hl] at h
    show Calls _ _ _ _ _
    rw [← pre_one]; exact h
  have h1z : (1 : Int) ≤ (s.size : Int) := by omega
  have hn : ∀ h, (s[0]'h).toNat = c.toNat := fun h => by rw [← hget]
  have HG : Hid (s[0].toNat = c.toNat) := hn h0
  obtain ⟨R, hR⟩ : ∃ R, R = sgn (c :: r) := ⟨_, rfl⟩
  rw [← hR]
  have hd : Hid (if c.toNat = 33 then R = (if decide (r.head? = some 61) = true then 2 else 0) else if c.toNat = 60 ∨ c.toNat = 62 then R = (if decide (r.head? = some 61) = true then 2 else 1) else R = if isS1 c = true then 1 else 0) := by
    show ite _ _ _
    by_cases h33 : c.toNat = 33
    · rw [if_pos h33, hR, sgn_33 r h33]
    · rw [if_neg h33]
      by_cases h6 : c.toNat = 60 ∨ c.toNat = 62
      · rw [if_pos h6, hR, sgn_6 r h6]
      · rw [if_neg h6, hR, sgn_s1 r h33 (by omega) (by omega)]
  have hS : Hid (isS1 c = [123, 125, 40, 41, 59, 44, 58, 43, 45, 42, 47, 61].contains c.toNat) := rfl
  clear hR hl hget hn
  generalize decide (r.head? = some 61) = q at *
  generalize isS1 c = S at *
  generalize c.toNat = n at *
  by_cases h33 : n = 33
  · subst h33
    cases q
    · have HR : Hid (R = 0) := by have := hd.out; show _ = _; simpa using this
      have e33 : ((s[0].toNat : Int) == 33) = true := by rw [HG.out]; rfl
      have e60 : ((s[0].toNat : Int) == 60) = false := by rw [HG.out]; rfl
      have e62 : ((s[0].toNat : Int) == 62) = false := by rw [HG.out]; rfl
      have e123 : ((s[0].toNat : Int) == 123) = false := by rw [HG.out]; rfl
      have e125 : ((s[0].toNat : Int) == 125) = false := by rw [HG.out]; rfl
      have e40 : ((s[0].toNat : Int) == 40) = false := by rw [HG.out]; rfl
      have e41 : ((s[0].toNat : Int) == 41) = false := by rw [HG.out]; rfl
      have e59 : ((s[0].toNat : Int) == 59) = false := by rw [HG.out]; rfl
      have e44 : ((s[0].toNat : Int) == 44) = false := by rw [HG.out]; rfl
      have e58 : ((s[0].toNat : Int) == 58) = false := by rw [HG.out]; rfl
      have e43 : ((s[0].toNat : Int) == 43) = false := by rw [HG.out]; rfl
      have e45 : ((s[0].toNat : Int) == 45) = false := by rw [HG.out]; rfl
      have e42 : ((s[0].toNat : Int) == 42) = false := by rw [HG.out]; rfl
      have e47 : ((s[0].toNat : Int) == 47) = false := by rw [HG.out]; rfl
      have e61 : ((s[0].toNat : Int) == 61) = false := by rw [HG.out]; rfl
      clear HG hd hS hsz
      go_enter Tryz.func111, Tryz.ntmps111
      go_wp2_with (refine (KP.out _).mono ?_; rintro _ _ ⟨rfl, rfl⟩)
      go_ret
      exact ⟨ret_i64 (by rw [HR.out]; rfl), rfl⟩
    · have HR : Hid (R = 2) := by have := hd.out; show _ = _; simpa using this
      have e33 : ((s[0].toNat : Int) == 33) = true := by rw [HG.out]; rfl
      have e60 : ((s[0].toNat : Int) == 60) = false := by rw [HG.out]; rfl
      have e62 : ((s[0].toNat : Int) == 62) = false := by rw [HG.out]; rfl
      have e123 : ((s[0].toNat : Int) == 123) = false := by rw [HG.out]; rfl
      have e125 : ((s[0].toNat : Int) == 125) = false := by rw [HG.out]; rfl
      have e40 : ((s[0].toNat : Int) == 40) = false := by rw [HG.out]; rfl
      have e41 : ((s[0].toNat : Int) == 41) = false := by rw [HG.out]; rfl
      have e59 : ((s[0].toNat : Int) == 59) = false := by rw [HG.out]; rfl
      have e44 : ((s[0].toNat : Int) == 44) = false := by rw [HG.out]; rfl
      have e58 : ((s[0].toNat : Int) == 58) = false := by rw [HG.out]; rfl
      have e43 : ((s[0].toNat : Int) == 43) = false := by rw [HG.out]; rfl
      have e45 : ((s[0].toNat : Int) == 45) = false := by rw [HG.out]; rfl
      have e42 : ((s[0].toNat : Int) == 42) = false := by rw [HG.out]; rfl
      have e47 : ((s[0].toNat : Int) == 47) = false := by rw [HG.out]; rfl
      have e61 : ((s[0].toNat : Int) == 61) = false := by rw [HG.out]; rfl
      clear HG hd hS hsz
      go_enter Tryz.func111, Tryz.ntmps111
      go_wp2_with (refine (KP.out _).mono ?_; rintro _ _ ⟨rfl, rfl⟩)
      go_ret
      exact ⟨ret_i64 (by rw [HR.out]; rfl), rfl⟩
  by_cases h60 : n = 60
  · subst h60
    cases q
    · have HR : Hid (R = 1) := by have := hd.out; show _ = _; simpa using this
      have e33 : ((s[0].toNat : Int) == 33) = false := by rw [HG.out]; rfl
      have e60 : ((s[0].toNat : Int) == 60) = true := by rw [HG.out]; rfl
      have e62 : ((s[0].toNat : Int) == 62) = false := by rw [HG.out]; rfl
      have e123 : ((s[0].toNat : Int) == 123) = false := by rw [HG.out]; rfl
      have e125 : ((s[0].toNat : Int) == 125) = false := by rw [HG.out]; rfl
      have e40 : ((s[0].toNat : Int) == 40) = false := by rw [HG.out]; rfl
      have e41 : ((s[0].toNat : Int) == 41) = false := by rw [HG.out]; rfl
      have e59 : ((s[0].toNat : Int) == 59) = false := by rw [HG.out]; rfl
      have e44 : ((s[0].toNat : Int) == 44) = false := by rw [HG.out]; rfl
      have e58 : ((s[0].toNat : Int) == 58) = false := by rw [HG.out]; rfl
      have e43 : ((s[0].toNat : Int) == 43) = false := by rw [HG.out]; rfl
      have e45 : ((s[0].toNat : Int) == 45) = false := by rw [HG.out]; rfl
      have e42 : ((s[0].toNat : Int) == 42) = false := by rw [HG.out]; rfl
      have e47 : ((s[0].toNat : Int) == 47) = false := by rw [HG.out]; rfl
      have e61 : ((s[0].toNat : Int) == 61) = false := by rw [HG.out]; rfl
      clear HG hd hS hsz
      go_enter Tryz.func111, Tryz.ntmps111
      go_wp2_with (refine (KP.out _).mono ?_; rintro _ _ ⟨rfl, rfl⟩)
      go_ret
      exact ⟨ret_i64 (by rw [HR.out]; rfl), rfl⟩
    · have HR : Hid (R = 2) := by have := hd.out; show _ = _; simpa using this
      have e33 : ((s[0].toNat : Int) == 33) = false := by rw [HG.out]; rfl
      have e60 : ((s[0].toNat : Int) == 60) = true := by rw [HG.out]; rfl
      have e62 : ((s[0].toNat : Int) == 62) = false := by rw [HG.out]; rfl
      have e123 : ((s[0].toNat : Int) == 123) = false := by rw [HG.out]; rfl
      have e125 : ((s[0].toNat : Int) == 125) = false := by rw [HG.out]; rfl
      have e40 : ((s[0].toNat : Int) == 40) = false := by rw [HG.out]; rfl
      have e41 : ((s[0].toNat : Int) == 41) = false := by rw [HG.out]; rfl
      have e59 : ((s[0].toNat : Int) == 59) = false := by rw [HG.out]; rfl
      have e44 : ((s[0].toNat : Int) == 44) = false := by rw [HG.out]; rfl
      have e58 : ((s[0].toNat : Int) == 58) = false := by rw [HG.out]; rfl
      have e43 : ((s[0].toNat : Int) == 43) = false := by rw [HG.out]; rfl
      have e45 : ((s[0].toNat : Int) == 45) = false := by rw [HG.out]; rfl
      have e42 : ((s[0].toNat : Int) == 42) = false := by rw [HG.out]; rfl
      have e47 : ((s[0].toNat : Int) == 47) = false := by rw [HG.out]; rfl
      have e61 : ((s[0].toNat : Int) == 61) = false := by rw [HG.out]; rfl
      clear HG hd hS hsz
      go_enter Tryz.func111, Tryz.ntmps111
      go_wp2_with (refine (KP.out _).mono ?_; rintro _ _ ⟨rfl, rfl⟩)
      go_ret
      exact ⟨ret_i64 (by rw [HR.out]; rfl), rfl⟩
  by_cases h62 : n = 62
  · subst h62
    cases q
    · have HR : Hid (R = 1) := by have := hd.out; show _ = _; simpa using this
      have e33 : ((s[0].toNat : Int) == 33) = false := by rw [HG.out]; rfl
      have e60 : ((s[0].toNat : Int) == 60) = false := by rw [HG.out]; rfl
      have e62 : ((s[0].toNat : Int) == 62) = true := by rw [HG.out]; rfl
      have e123 : ((s[0].toNat : Int) == 123) = false := by rw [HG.out]; rfl
      have e125 : ((s[0].toNat : Int) == 125) = false := by rw [HG.out]; rfl
      have e40 : ((s[0].toNat : Int) == 40) = false := by rw [HG.out]; rfl
      have e41 : ((s[0].toNat : Int) == 41) = false := by rw [HG.out]; rfl
      have e59 : ((s[0].toNat : Int) == 59) = false := by rw [HG.out]; rfl
      have e44 : ((s[0].toNat : Int) == 44) = false := by rw [HG.out]; rfl
      have e58 : ((s[0].toNat : Int) == 58) = false := by rw [HG.out]; rfl
      have e43 : ((s[0].toNat : Int) == 43) = false := by rw [HG.out]; rfl
      have e45 : ((s[0].toNat : Int) == 45) = false := by rw [HG.out]; rfl
      have e42 : ((s[0].toNat : Int) == 42) = false := by rw [HG.out]; rfl
      have e47 : ((s[0].toNat : Int) == 47) = false := by rw [HG.out]; rfl
      have e61 : ((s[0].toNat : Int) == 61) = false := by rw [HG.out]; rfl
      clear HG hd hS hsz
      go_enter Tryz.func111, Tryz.ntmps111
      go_wp2_with (refine (KP.out _).mono ?_; rintro _ _ ⟨rfl, rfl⟩)
      go_ret
      exact ⟨ret_i64 (by rw [HR.out]; rfl), rfl⟩
    · have HR : Hid (R = 2) := by have := hd.out; show _ = _; simpa using this
      have e33 : ((s[0].toNat : Int) == 33) = false := by rw [HG.out]; rfl
      have e60 : ((s[0].toNat : Int) == 60) = false := by rw [HG.out]; rfl
      have e62 : ((s[0].toNat : Int) == 62) = true := by rw [HG.out]; rfl
      have e123 : ((s[0].toNat : Int) == 123) = false := by rw [HG.out]; rfl
      have e125 : ((s[0].toNat : Int) == 125) = false := by rw [HG.out]; rfl
      have e40 : ((s[0].toNat : Int) == 40) = false := by rw [HG.out]; rfl
      have e41 : ((s[0].toNat : Int) == 41) = false := by rw [HG.out]; rfl
      have e59 : ((s[0].toNat : Int) == 59) = false := by rw [HG.out]; rfl
      have e44 : ((s[0].toNat : Int) == 44) = false := by rw [HG.out]; rfl
      have e58 : ((s[0].toNat : Int) == 58) = false := by rw [HG.out]; rfl
      have e43 : ((s[0].toNat : Int) == 43) = false := by rw [HG.out]; rfl
      have e45 : ((s[0].toNat : Int) == 45) = false := by rw [HG.out]; rfl
      have e42 : ((s[0].toNat : Int) == 42) = false := by rw [HG.out]; rfl
      have e47 : ((s[0].toNat : Int) == 47) = false := by rw [HG.out]; rfl
      have e61 : ((s[0].toNat : Int) == 61) = false := by rw [HG.out]; rfl
      clear HG hd hS hsz
      go_enter Tryz.func111, Tryz.ntmps111
      go_wp2_with (refine (KP.out _).mono ?_; rintro _ _ ⟨rfl, rfl⟩)
      go_ret
      exact ⟨ret_i64 (by rw [HR.out]; rfl), rfl⟩
  by_cases h123 : n = 123
  · subst h123
    have HR : Hid (R = 1) := by have := hd.out; show _ = _; simpa [hS.out] using this
    have e33 : ((s[0].toNat : Int) == 33) = false := by rw [HG.out]; rfl
    have e60 : ((s[0].toNat : Int) == 60) = false := by rw [HG.out]; rfl
    have e62 : ((s[0].toNat : Int) == 62) = false := by rw [HG.out]; rfl
    have e123 : ((s[0].toNat : Int) == 123) = true := by rw [HG.out]; rfl
    have e125 : ((s[0].toNat : Int) == 125) = false := by rw [HG.out]; rfl
    have e40 : ((s[0].toNat : Int) == 40) = false := by rw [HG.out]; rfl
    have e41 : ((s[0].toNat : Int) == 41) = false := by rw [HG.out]; rfl
    have e59 : ((s[0].toNat : Int) == 59) = false := by rw [HG.out]; rfl
    have e44 : ((s[0].toNat : Int) == 44) = false := by rw [HG.out]; rfl
    have e58 : ((s[0].toNat : Int) == 58) = false := by rw [HG.out]; rfl
    have e43 : ((s[0].toNat : Int) == 43) = false := by rw [HG.out]; rfl
    have e45 : ((s[0].toNat : Int) == 45) = false := by rw [HG.out]; rfl
    have e42 : ((s[0].toNat : Int) == 42) = false := by rw [HG.out]; rfl
    have e47 : ((s[0].toNat : Int) == 47) = false := by rw [HG.out]; rfl
    have e61 : ((s[0].toNat : Int) == 61) = false := by rw [HG.out]; rfl
    clear HG hd hS hsz
    go_enter Tryz.func111, Tryz.ntmps111
    go_wp2_with (refine (KP.out _).mono ?_; rintro _ _ ⟨rfl, rfl⟩)
    go_ret
    exact ⟨ret_i64 (by rw [HR.out]; rfl), rfl⟩
  by_cases h125 : n = 125
  · subst h125
    have HR : Hid (R = 1) := by have := hd.out; show _ = _; simpa [hS.out] using this
    have e33 : ((s[0].toNat : Int) == 33) = false := by rw [HG.out]; rfl
    have e60 : ((s[0].toNat : Int) == 60) = false := by rw [HG.out]; rfl
    have e62 : ((s[0].toNat : Int) == 62) = false := by rw [HG.out]; rfl
    have e123 : ((s[0].toNat : Int) == 123) = false := by rw [HG.out]; rfl
    have e125 : ((s[0].toNat : Int) == 125) = true := by rw [HG.out]; rfl
    have e40 : ((s[0].toNat : Int) == 40) = false := by rw [HG.out]; rfl
    have e41 : ((s[0].toNat : Int) == 41) = false := by rw [HG.out]; rfl
    have e59 : ((s[0].toNat : Int) == 59) = false := by rw [HG.out]; rfl
    have e44 : ((s[0].toNat : Int) == 44) = false := by rw [HG.out]; rfl
    have e58 : ((s[0].toNat : Int) == 58) = false := by rw [HG.out]; rfl
    have e43 : ((s[0].toNat : Int) == 43) = false := by rw [HG.out]; rfl
    have e45 : ((s[0].toNat : Int) == 45) = false := by rw [HG.out]; rfl
    have e42 : ((s[0].toNat : Int) == 42) = false := by rw [HG.out]; rfl
    have e47 : ((s[0].toNat : Int) == 47) = false := by rw [HG.out]; rfl
    have e61 : ((s[0].toNat : Int) == 61) = false := by rw [HG.out]; rfl
    clear HG hd hS hsz
    go_enter Tryz.func111, Tryz.ntmps111
    go_wp2_with (refine (KP.out _).mono ?_; rintro _ _ ⟨rfl, rfl⟩)
    go_ret
    exact ⟨ret_i64 (by rw [HR.out]; rfl), rfl⟩
  by_cases h40 : n = 40
  · subst h40
    have HR : Hid (R = 1) := by have := hd.out; show _ = _; simpa [hS.out] using this
    have e33 : ((s[0].toNat : Int) == 33) = false := by rw [HG.out]; rfl
    have e60 : ((s[0].toNat : Int) == 60) = false := by rw [HG.out]; rfl
    have e62 : ((s[0].toNat : Int) == 62) = false := by rw [HG.out]; rfl
    have e123 : ((s[0].toNat : Int) == 123) = false := by rw [HG.out]; rfl
    have e125 : ((s[0].toNat : Int) == 125) = false := by rw [HG.out]; rfl
    have e40 : ((s[0].toNat : Int) == 40) = true := by rw [HG.out]; rfl
    have e41 : ((s[0].toNat : Int) == 41) = false := by rw [HG.out]; rfl
    have e59 : ((s[0].toNat : Int) == 59) = false := by rw [HG.out]; rfl
    have e44 : ((s[0].toNat : Int) == 44) = false := by rw [HG.out]; rfl
    have e58 : ((s[0].toNat : Int) == 58) = false := by rw [HG.out]; rfl
    have e43 : ((s[0].toNat : Int) == 43) = false := by rw [HG.out]; rfl
    have e45 : ((s[0].toNat : Int) == 45) = false := by rw [HG.out]; rfl
    have e42 : ((s[0].toNat : Int) == 42) = false := by rw [HG.out]; rfl
    have e47 : ((s[0].toNat : Int) == 47) = false := by rw [HG.out]; rfl
    have e61 : ((s[0].toNat : Int) == 61) = false := by rw [HG.out]; rfl
    clear HG hd hS hsz
    go_enter Tryz.func111, Tryz.ntmps111
    go_wp2_with (refine (KP.out _).mono ?_; rintro _ _ ⟨rfl, rfl⟩)
    go_ret
    exact ⟨ret_i64 (by rw [HR.out]; rfl), rfl⟩
  by_cases h41 : n = 41
  · subst h41
    have HR : Hid (R = 1) := by have := hd.out; show _ = _; simpa [hS.out] using this
    have e33 : ((s[0].toNat : Int) == 33) = false := by rw [HG.out]; rfl
    have e60 : ((s[0].toNat : Int) == 60) = false := by rw [HG.out]; rfl
    have e62 : ((s[0].toNat : Int) == 62) = false := by rw [HG.out]; rfl
    have e123 : ((s[0].toNat : Int) == 123) = false := by rw [HG.out]; rfl
    have e125 : ((s[0].toNat : Int) == 125) = false := by rw [HG.out]; rfl
    have e40 : ((s[0].toNat : Int) == 40) = false := by rw [HG.out]; rfl
    have e41 : ((s[0].toNat : Int) == 41) = true := by rw [HG.out]; rfl
    have e59 : ((s[0].toNat : Int) == 59) = false := by rw [HG.out]; rfl
    have e44 : ((s[0].toNat : Int) == 44) = false := by rw [HG.out]; rfl
    have e58 : ((s[0].toNat : Int) == 58) = false := by rw [HG.out]; rfl
    have e43 : ((s[0].toNat : Int) == 43) = false := by rw [HG.out]; rfl
    have e45 : ((s[0].toNat : Int) == 45) = false := by rw [HG.out]; rfl
    have e42 : ((s[0].toNat : Int) == 42) = false := by rw [HG.out]; rfl
    have e47 : ((s[0].toNat : Int) == 47) = false := by rw [HG.out]; rfl
    have e61 : ((s[0].toNat : Int) == 61) = false := by rw [HG.out]; rfl
    clear HG hd hS hsz
    go_enter Tryz.func111, Tryz.ntmps111
    go_wp2_with (refine (KP.out _).mono ?_; rintro _ _ ⟨rfl, rfl⟩)
    go_ret
    exact ⟨ret_i64 (by rw [HR.out]; rfl), rfl⟩
  by_cases h59 : n = 59
  · subst h59
    have HR : Hid (R = 1) := by have := hd.out; show _ = _; simpa [hS.out] using this
    have e33 : ((s[0].toNat : Int) == 33) = false := by rw [HG.out]; rfl
    have e60 : ((s[0].toNat : Int) == 60) = false := by rw [HG.out]; rfl
    have e62 : ((s[0].toNat : Int) == 62) = false := by rw [HG.out]; rfl
    have e123 : ((s[0].toNat : Int) == 123) = false := by rw [HG.out]; rfl
    have e125 : ((s[0].toNat : Int) == 125) = false := by rw [HG.out]; rfl
    have e40 : ((s[0].toNat : Int) == 40) = false := by rw [HG.out]; rfl
    have e41 : ((s[0].toNat : Int) == 41) = false := by rw [HG.out]; rfl
    have e59 : ((s[0].toNat : Int) == 59) = true := by rw [HG.out]; rfl
    have e44 : ((s[0].toNat : Int) == 44) = false := by rw [HG.out]; rfl
    have e58 : ((s[0].toNat : Int) == 58) = false := by rw [HG.out]; rfl
    have e43 : ((s[0].toNat : Int) == 43) = false := by rw [HG.out]; rfl
    have e45 : ((s[0].toNat : Int) == 45) = false := by rw [HG.out]; rfl
    have e42 : ((s[0].toNat : Int) == 42) = false := by rw [HG.out]; rfl
    have e47 : ((s[0].toNat : Int) == 47) = false := by rw [HG.out]; rfl
    have e61 : ((s[0].toNat : Int) == 61) = false := by rw [HG.out]; rfl
    clear HG hd hS hsz
    go_enter Tryz.func111, Tryz.ntmps111
    go_wp2_with (refine (KP.out _).mono ?_; rintro _ _ ⟨rfl, rfl⟩)
    go_ret
    exact ⟨ret_i64 (by rw [HR.out]; rfl), rfl⟩
  by_cases h44 : n = 44
  · subst h44
    have HR : Hid (R = 1) := by have := hd.out; show _ = _; simpa [hS.out] using this
    have e33 : ((s[0].toNat : Int) == 33) = false := by rw [HG.out]; rfl
    have e60 : ((s[0].toNat : Int) == 60) = false := by rw [HG.out]; rfl
    have e62 : ((s[0].toNat : Int) == 62) = false := by rw [HG.out]; rfl
    have e123 : ((s[0].toNat : Int) == 123) = false := by rw [HG.out]; rfl
    have e125 : ((s[0].toNat : Int) == 125) = false := by rw [HG.out]; rfl
    have e40 : ((s[0].toNat : Int) == 40) = false := by rw [HG.out]; rfl
    have e41 : ((s[0].toNat : Int) == 41) = false := by rw [HG.out]; rfl
    have e59 : ((s[0].toNat : Int) == 59) = false := by rw [HG.out]; rfl
    have e44 : ((s[0].toNat : Int) == 44) = true := by rw [HG.out]; rfl
    have e58 : ((s[0].toNat : Int) == 58) = false := by rw [HG.out]; rfl
    have e43 : ((s[0].toNat : Int) == 43) = false := by rw [HG.out]; rfl
    have e45 : ((s[0].toNat : Int) == 45) = false := by rw [HG.out]; rfl
    have e42 : ((s[0].toNat : Int) == 42) = false := by rw [HG.out]; rfl
    have e47 : ((s[0].toNat : Int) == 47) = false := by rw [HG.out]; rfl
    have e61 : ((s[0].toNat : Int) == 61) = false := by rw [HG.out]; rfl
    clear HG hd hS hsz
    go_enter Tryz.func111, Tryz.ntmps111
    go_wp2_with (refine (KP.out _).mono ?_; rintro _ _ ⟨rfl, rfl⟩)
    go_ret
    exact ⟨ret_i64 (by rw [HR.out]; rfl), rfl⟩
  by_cases h58 : n = 58
  · subst h58
    have HR : Hid (R = 1) := by have := hd.out; show _ = _; simpa [hS.out] using this
    have e33 : ((s[0].toNat : Int) == 33) = false := by rw [HG.out]; rfl
    have e60 : ((s[0].toNat : Int) == 60) = false := by rw [HG.out]; rfl
    have e62 : ((s[0].toNat : Int) == 62) = false := by rw [HG.out]; rfl
    have e123 : ((s[0].toNat : Int) == 123) = false := by rw [HG.out]; rfl
    have e125 : ((s[0].toNat : Int) == 125) = false := by rw [HG.out]; rfl
    have e40 : ((s[0].toNat : Int) == 40) = false := by rw [HG.out]; rfl
    have e41 : ((s[0].toNat : Int) == 41) = false := by rw [HG.out]; rfl
    have e59 : ((s[0].toNat : Int) == 59) = false := by rw [HG.out]; rfl
    have e44 : ((s[0].toNat : Int) == 44) = false := by rw [HG.out]; rfl
    have e58 : ((s[0].toNat : Int) == 58) = true := by rw [HG.out]; rfl
    have e43 : ((s[0].toNat : Int) == 43) = false := by rw [HG.out]; rfl
    have e45 : ((s[0].toNat : Int) == 45) = false := by rw [HG.out]; rfl
    have e42 : ((s[0].toNat : Int) == 42) = false := by rw [HG.out]; rfl
    have e47 : ((s[0].toNat : Int) == 47) = false := by rw [HG.out]; rfl
    have e61 : ((s[0].toNat : Int) == 61) = false := by rw [HG.out]; rfl
    clear HG hd hS hsz
    go_enter Tryz.func111, Tryz.ntmps111
    go_wp2_with (refine (KP.out _).mono ?_; rintro _ _ ⟨rfl, rfl⟩)
    go_ret
    exact ⟨ret_i64 (by rw [HR.out]; rfl), rfl⟩
  by_cases h43 : n = 43
  · subst h43
    have HR : Hid (R = 1) := by have := hd.out; show _ = _; simpa [hS.out] using this
    have e33 : ((s[0].toNat : Int) == 33) = false := by rw [HG.out]; rfl
    have e60 : ((s[0].toNat : Int) == 60) = false := by rw [HG.out]; rfl
    have e62 : ((s[0].toNat : Int) == 62) = false := by rw [HG.out]; rfl
    have e123 : ((s[0].toNat : Int) == 123) = false := by rw [HG.out]; rfl
    have e125 : ((s[0].toNat : Int) == 125) = false := by rw [HG.out]; rfl
    have e40 : ((s[0].toNat : Int) == 40) = false := by rw [HG.out]; rfl
    have e41 : ((s[0].toNat : Int) == 41) = false := by rw [HG.out]; rfl
    have e59 : ((s[0].toNat : Int) == 59) = false := by rw [HG.out]; rfl
    have e44 : ((s[0].toNat : Int) == 44) = false := by rw [HG.out]; rfl
    have e58 : ((s[0].toNat : Int) == 58) = false := by rw [HG.out]; rfl
    have e43 : ((s[0].toNat : Int) == 43) = true := by rw [HG.out]; rfl
    have e45 : ((s[0].toNat : Int) == 45) = false := by rw [HG.out]; rfl
    have e42 : ((s[0].toNat : Int) == 42) = false := by rw [HG.out]; rfl
    have e47 : ((s[0].toNat : Int) == 47) = false := by rw [HG.out]; rfl
    have e61 : ((s[0].toNat : Int) == 61) = false := by rw [HG.out]; rfl
    clear HG hd hS hsz
    go_enter Tryz.func111, Tryz.ntmps111
    go_wp2_with (refine (KP.out _).mono ?_; rintro _ _ ⟨rfl, rfl⟩)
    go_ret
    exact ⟨ret_i64 (by rw [HR.out]; rfl), rfl⟩
  by_cases h45 : n = 45
  · subst h45
    have HR : Hid (R = 1) := by have := hd.out; show _ = _; simpa [hS.out] using this
    have e33 : ((s[0].toNat : Int) == 33) = false := by rw [HG.out]; rfl
    have e60 : ((s[0].toNat : Int) == 60) = false := by rw [HG.out]; rfl
    have e62 : ((s[0].toNat : Int) == 62) = false := by rw [HG.out]; rfl
    have e123 : ((s[0].toNat : Int) == 123) = false := by rw [HG.out]; rfl
    have e125 : ((s[0].toNat : Int) == 125) = false := by rw [HG.out]; rfl
    have e40 : ((s[0].toNat : Int) == 40) = false := by rw [HG.out]; rfl
    have e41 : ((s[0].toNat : Int) == 41) = false := by rw [HG.out]; rfl
    have e59 : ((s[0].toNat : Int) == 59) = false := by rw [HG.out]; rfl
    have e44 : ((s[0].toNat : Int) == 44) = false := by rw [HG.out]; rfl
    have e58 : ((s[0].toNat : Int) == 58) = false := by rw [HG.out]; rfl
    have e43 : ((s[0].toNat : Int) == 43) = false := by rw [HG.out]; rfl
    have e45 : ((s[0].toNat : Int) == 45) = true := by rw [HG.out]; rfl
    have e42 : ((s[0].toNat : Int) == 42) = false := by rw [HG.out]; rfl
    have e47 : ((s[0].toNat : Int) == 47) = false := by rw [HG.out]; rfl
    have e61 : ((s[0].toNat : Int) == 61) = false := by rw [HG.out]; rfl
    clear HG hd hS hsz
    go_enter Tryz.func111, Tryz.ntmps111
    go_wp2_with (refine (KP.out _).mono ?_; rintro _ _ ⟨rfl, rfl⟩)
    go_ret
    exact ⟨ret_i64 (by rw [HR.out]; rfl), rfl⟩
  by_cases h42 : n = 42
  · subst h42
    have HR : Hid (R = 1) := by have := hd.out; show _ = _; simpa [hS.out] using this
    have e33 : ((s[0].toNat : Int) == 33) = false := by rw [HG.out]; rfl
    have e60 : ((s[0].toNat : Int) == 60) = false := by rw [HG.out]; rfl
    have e62 : ((s[0].toNat : Int) == 62) = false := by rw [HG.out]; rfl
    have e123 : ((s[0].toNat : Int) == 123) = false := by rw [HG.out]; rfl
    have e125 : ((s[0].toNat : Int) == 125) = false := by rw [HG.out]; rfl
    have e40 : ((s[0].toNat : Int) == 40) = false := by rw [HG.out]; rfl
    have e41 : ((s[0].toNat : Int) == 41) = false := by rw [HG.out]; rfl
    have e59 : ((s[0].toNat : Int) == 59) = false := by rw [HG.out]; rfl
    have e44 : ((s[0].toNat : Int) == 44) = false := by rw [HG.out]; rfl
    have e58 : ((s[0].toNat : Int) == 58) = false := by rw [HG.out]; rfl
    have e43 : ((s[0].toNat : Int) == 43) = false := by rw [HG.out]; rfl
    have e45 : ((s[0].toNat : Int) == 45) = false := by rw [HG.out]; rfl
    have e42 : ((s[0].toNat : Int) == 42) = true := by rw [HG.out]; rfl
    have e47 : ((s[0].toNat : Int) == 47) = false := by rw [HG.out]; rfl
    have e61 : ((s[0].toNat : Int) == 61) = false := by rw [HG.out]; rfl
    clear HG hd hS hsz
    go_enter Tryz.func111, Tryz.ntmps111
    go_wp2_with (refine (KP.out _).mono ?_; rintro _ _ ⟨rfl, rfl⟩)
    go_ret
    exact ⟨ret_i64 (by rw [HR.out]; rfl), rfl⟩
  by_cases h47 : n = 47
  · subst h47
    have HR : Hid (R = 1) := by have := hd.out; show _ = _; simpa [hS.out] using this
    have e33 : ((s[0].toNat : Int) == 33) = false := by rw [HG.out]; rfl
    have e60 : ((s[0].toNat : Int) == 60) = false := by rw [HG.out]; rfl
    have e62 : ((s[0].toNat : Int) == 62) = false := by rw [HG.out]; rfl
    have e123 : ((s[0].toNat : Int) == 123) = false := by rw [HG.out]; rfl
    have e125 : ((s[0].toNat : Int) == 125) = false := by rw [HG.out]; rfl
    have e40 : ((s[0].toNat : Int) == 40) = false := by rw [HG.out]; rfl
    have e41 : ((s[0].toNat : Int) == 41) = false := by rw [HG.out]; rfl
    have e59 : ((s[0].toNat : Int) == 59) = false := by rw [HG.out]; rfl
    have e44 : ((s[0].toNat : Int) == 44) = false := by rw [HG.out]; rfl
    have e58 : ((s[0].toNat : Int) == 58) = false := by rw [HG.out]; rfl
    have e43 : ((s[0].toNat : Int) == 43) = false := by rw [HG.out]; rfl
    have e45 : ((s[0].toNat : Int) == 45) = false := by rw [HG.out]; rfl
    have e42 : ((s[0].toNat : Int) == 42) = false := by rw [HG.out]; rfl
    have e47 : ((s[0].toNat : Int) == 47) = true := by rw [HG.out]; rfl
    have e61 : ((s[0].toNat : Int) == 61) = false := by rw [HG.out]; rfl
    clear HG hd hS hsz
    go_enter Tryz.func111, Tryz.ntmps111
    go_wp2_with (refine (KP.out _).mono ?_; rintro _ _ ⟨rfl, rfl⟩)
    go_ret
    exact ⟨ret_i64 (by rw [HR.out]; rfl), rfl⟩
  by_cases h61 : n = 61
  · subst h61
    have HR : Hid (R = 1) := by have := hd.out; show _ = _; simpa [hS.out] using this
    have e33 : ((s[0].toNat : Int) == 33) = false := by rw [HG.out]; rfl
    have e60 : ((s[0].toNat : Int) == 60) = false := by rw [HG.out]; rfl
    have e62 : ((s[0].toNat : Int) == 62) = false := by rw [HG.out]; rfl
    have e123 : ((s[0].toNat : Int) == 123) = false := by rw [HG.out]; rfl
    have e125 : ((s[0].toNat : Int) == 125) = false := by rw [HG.out]; rfl
    have e40 : ((s[0].toNat : Int) == 40) = false := by rw [HG.out]; rfl
    have e41 : ((s[0].toNat : Int) == 41) = false := by rw [HG.out]; rfl
    have e59 : ((s[0].toNat : Int) == 59) = false := by rw [HG.out]; rfl
    have e44 : ((s[0].toNat : Int) == 44) = false := by rw [HG.out]; rfl
    have e58 : ((s[0].toNat : Int) == 58) = false := by rw [HG.out]; rfl
    have e43 : ((s[0].toNat : Int) == 43) = false := by rw [HG.out]; rfl
    have e45 : ((s[0].toNat : Int) == 45) = false := by rw [HG.out]; rfl
    have e42 : ((s[0].toNat : Int) == 42) = false := by rw [HG.out]; rfl
    have e47 : ((s[0].toNat : Int) == 47) = false := by rw [HG.out]; rfl
    have e61 : ((s[0].toNat : Int) == 61) = true := by rw [HG.out]; rfl
    clear HG hd hS hsz
    go_enter Tryz.func111, Tryz.ntmps111
    go_wp2_with (refine (KP.out _).mono ?_; rintro _ _ ⟨rfl, rfl⟩)
    go_ret
    exact ⟨ret_i64 (by rw [HR.out]; rfl), rfl⟩
  have HR : Hid (R = 0) := by have := hd.out; show _ = _; simpa [hS.out, h33, h60, h62, h123, h125, h40, h41, h59, h44, h58, h43, h45, h42, h47, h61] using this
  have e33 : ((s[0].toNat : Int) == 33) = false := by rw [HG.out]; simp; omega
  have e60 : ((s[0].toNat : Int) == 60) = false := by rw [HG.out]; simp; omega
  have e62 : ((s[0].toNat : Int) == 62) = false := by rw [HG.out]; simp; omega
  have e123 : ((s[0].toNat : Int) == 123) = false := by rw [HG.out]; simp; omega
  have e125 : ((s[0].toNat : Int) == 125) = false := by rw [HG.out]; simp; omega
  have e40 : ((s[0].toNat : Int) == 40) = false := by rw [HG.out]; simp; omega
  have e41 : ((s[0].toNat : Int) == 41) = false := by rw [HG.out]; simp; omega
  have e59 : ((s[0].toNat : Int) == 59) = false := by rw [HG.out]; simp; omega
  have e44 : ((s[0].toNat : Int) == 44) = false := by rw [HG.out]; simp; omega
  have e58 : ((s[0].toNat : Int) == 58) = false := by rw [HG.out]; simp; omega
  have e43 : ((s[0].toNat : Int) == 43) = false := by rw [HG.out]; simp; omega
  have e45 : ((s[0].toNat : Int) == 45) = false := by rw [HG.out]; simp; omega
  have e42 : ((s[0].toNat : Int) == 42) = false := by rw [HG.out]; simp; omega
  have e47 : ((s[0].toNat : Int) == 47) = false := by rw [HG.out]; simp; omega
  have e61 : ((s[0].toNat : Int) == 61) = false := by rw [HG.out]; simp; omega
  clear HG hd hS hsz
  go_enter Tryz.func111, Tryz.ntmps111
  go_wp2_with (refine (KP.out _).mono ?_; rintro _ _ ⟨rfl, rfl⟩)
  go_ret
  exact ⟨ret_i64 (by rw [HR.out]; rfl), rfl⟩
end Go.Proofs.YtedbpjcglnkjmaaGreatDoor
namespace Go.Proofs.YtedbpjcglnkjmaaGreatDoor
open Go.RowKit Lx

/-- A box of a token. -/
def Box (w : World) (b : Nat) (x0 x1 x2 x3 x4 : Value) : Prop := (w.cell? ⟨b, 0, none⟩ = some x0 ∧ w.cell? ⟨b, 1, none⟩ = some x1 ∧ w.cell? ⟨b, 2, none⟩ = some x2 ∧ w.cell? ⟨b, 3, none⟩ = some x3 ∧ w.cell? ⟨b, 4, none⟩ = some x4) ∧
  w.frozen? ⟨b, 0, none⟩ = false ∧ w.frozen? ⟨b, 1, none⟩ = false ∧ w.frozen? ⟨b, 2, none⟩ = false ∧ w.frozen? ⟨b, 3, none⟩ = false ∧ w.frozen? ⟨b, 4, none⟩ = false
theorem Box.new (w : World) (x0 x1 x2 x3 x4 : Value) (T : Nat) : Box (w.alloc (.cells #[x0, x1, x2, x3, x4] T)) w.heap.size x0 x1 x2 x3 x4 := ⟨⟨by simp, by simp, by simp, by simp, by simp⟩, by simp, by simp, by simp, by simp, by simp⟩
theorem Box.of {w w1 : World} {b : Nat} {x0 x1 x2 x3 x4 : Value} (h : Box w b x0 x1 x2 x3 x4) (hb : w1.heap[b]? = w.heap[b]?) : Box w1 b x0 x1 x2 x3 x4 := by
  have c : ∀ o, w1.cell? ⟨b, o, none⟩ = w.cell? ⟨b, o, none⟩ := fun o => World.cell?_of_block (w := w) (a := ⟨b, o, none⟩) hb
  have f : ∀ o, w1.frozen? ⟨b, o, none⟩ = w.frozen? ⟨b, o, none⟩ := fun o => World.frozen?_of_block (w := w) (a := ⟨b, o, none⟩) hb
  unfold Box at h ⊢
  simp only [c, f]; exact h
theorem Kept.box {b r : Nat} {w w1 : World} {x0 x1 x2 x3 x4 : Value} (h : Kept b w w1) (hx : Box w r x0 x1 x2 x3 x4) (hr : r ≠ b) : Box w1 r x0 x1 x2 x3 x4 :=
  hx.of (h.block r (World.block_lt_of_cell? _ _ hx.1.1) hr)
theorem At2.other {w : World} {b r : Nat} {x y : Value} (h : At2 w b x y) (hr : b ≠ r) (o : Nat) (v : Value) : At2 (w.setCell ⟨r, o, none⟩ v) b x y := by
  have hb : (w.setCell ⟨r, o, none⟩ v).heap[b]? = w.heap[b]? := Below.heap_setCell _ _ _ _ hr
  have c : ∀ o', (w.setCell ⟨r, o, none⟩ v).cell? ⟨b, o', none⟩ = w.cell? ⟨b, o', none⟩ := fun o' => World.cell?_of_block (w := w) (a := ⟨b, o', none⟩) hb
  have f : ∀ o', (w.setCell ⟨r, o, none⟩ v).frozen? ⟨b, o', none⟩ = w.frozen? ⟨b, o', none⟩ := fun o' => World.frozen?_of_block (w := w) (a := ⟨b, o', none⟩) hb
  obtain ⟨c0, c1, f0, f1⟩ := h
  exact ⟨(c 0).trans c0, (c 1).trans c1, (f 0).trans f0, (f 1).trans f1⟩
def zBox : Obj := .cells #[.int .i64 0, .int .i64 0, .string ⟨#[]⟩, .int .i64 0, .int .i64 0] 88
/-- How things stand within a method that makes a token: r.at is j, and the result's box is empty. -/
def St (b : Nat) (w0 : World) (s : ByteArray) (j : Nat) (w1 : World) : Prop := Kept b w0 w1 ∧ At2 w1 b (.string s) (.int .i64 j) ∧ Box w1 w0.heap.size (.int .i64 0) (.int .i64 0) (.string ⟨#[]⟩) (.int .i64 0) (.int .i64 0)
theorem St.start {b j : Nat} {w : World} {s : ByteArray} (h : At2 w b (.string s) (.int .i64 j)) : St b w s j (w.alloc zBox) :=
  ⟨Kept.of ((Below.refl _ _).alloc (Nat.le_refl _) _), h.bel ((Below.refl _ _).alloc (Nat.le_refl _) _), Box.new w _ _ _ _ _ _⟩
theorem St.kept {b j j' : Nat} {w0 w1 w2 : World} {s : ByteArray} (hb : b < w0.heap.size) (h : St b w0 s j w1) (k : Kept b w1 w2) (a : At2 w2 b (.string s) (.int .i64 j')) : St b w0 s j' w2 :=
  ⟨h.1.trans k, a, k.box h.2.2 (by omega)⟩
theorem St.bel {b j : Nat} {w0 w1 w2 : World} {s : ByteArray} (hb : b < w0.heap.size) (h : St b w0 s j w1) (k : RowKit.Below w1.heap.size w1 w2) : St b w0 s j w2 := h.kept hb (Kept.of k) (h.2.1.bel k)
/-- What was made is stored in the box. -/
theorem St.fin {b j : Nat} {w0 w1 : World} {s : ByteArray} (hb : b < w0.heap.size) (h : St b w0 s j w1) (v0 v1 v2 v3 v4 : Value) :
    Kept b w0 (((((w1.setCell ⟨w0.heap.size, 0, none⟩ v0).setCell ⟨w0.heap.size, 1, none⟩ v1).setCell ⟨w0.heap.size, 2, none⟩ v2).setCell ⟨w0.heap.size, 3, none⟩ v3).setCell ⟨w0.heap.size, 4, none⟩ v4) ∧
    At2 (((((w1.setCell ⟨w0.heap.size, 0, none⟩ v0).setCell ⟨w0.heap.size, 1, none⟩ v1).setCell ⟨w0.heap.size, 2, none⟩ v2).setCell ⟨w0.heap.size, 3, none⟩ v3).setCell ⟨w0.heap.size, 4, none⟩ v4) b (.string s) (.int .i64 j) :=
  ⟨((((h.1.other (Nat.le_refl _) _ _).other (Nat.le_refl _) _ _).other (Nat.le_refl _) _ _).other (Nat.le_refl _) _ _).other (Nat.le_refl _) _ _,
   ((((h.2.1.other (by omega) _ _).other (by omega) _ _).other (by omega) _ _).other (by omega) _ _).other (by omega) _ _⟩
/-- The text that lies in a source from a place on. -/
theorem row_word {s : ByteArray} {i b : Nat} {w : World} (hA : At2 w b (.string s) (.int .i64 i)) (hi : i ≤ s.size) (hs : s.size ≤ 281474976710656) {p : UInt8 → Bool} {F : FuncId} (hF : Says F p) {x : List UInt8} (hx : (s.data.toList.drop i).takeWhile p = x) :
    Calls Tryz.prog 95 #[.pointer (some ⟨b, 0, none⟩), .func (.func F) #[] #[]] w fun e w' => e = .returned (.string (bs x)) ∧ RowKit.Below w.heap.size w w' := by
  subst hx
  refine (row_any F p hF s i b w hA hi hs).mono ?_
  rintro _ _ ⟨rfl, n, rfl⟩
  exact ⟨rfl, below_drewN (Below.refl _ _) _⟩

set_option maxRecDepth 100000 in
set_option maxHeartbeats 800000 in
theorem word_ok (s : ByteArray) (i b : Nat) (w : World) (x : List UInt8) (hA : At2 w b (.string s) (.int .i64 i)) (hi : i ≤ s.size) (hs : s.size ≤ 281474976710656) (hx : (s.data.toList.drop i).takeWhile wrd = x) (hl : x.length ≤ 16) :
    Calls Tryz.prog 99 #[.pointer (some ⟨b, 0, none⟩)] w fun e w' => e = .returned (tokV ⟨1, i, x, 0, 0⟩) ∧ Kept b w w' ∧ At2 w' b (.string s) (.int .i64 (i + x.length : Nat)) := by
  have hb := hA.lt
  have hxs : i + x.length ≤ s.size := by
    have := tw_pre (p := wrd) (s.data.toList.drop i)
    rw [hx, List.length_drop, len_bytes] at this; omega
  have HS : Hid ((bs x).size = x.length) := bs_size x
  have d1 : decide ((16 : Int) < ((bs x).size : Int)) = false := by rw [HS.out]; simp; omega
  have d2 : decide (16 < (bs x).size) = false := by rw [HS.out]; simp; omega
  have HA := Lib.hid hA
  have HX := Lib.hid hx
  have KC := Lib.hid (fun w => clone_any (bs x) w (by rw [HS.out]; omega))
  have KP := Lib.hid (fun w hA => pass_any s (bs x) 1 0 0 0 (bs x) i b w hA hi (by rw [HS.out]; omega) hs)
  rw [HS.out] at KP
  clear hA hx
  have H1 := Lib.hid (St.start HA.out)
  go_enter Tryz.func99, Tryz.ntmps99
  go_wp2_with fail
  change Calls Tryz.prog 95 #[.pointer (some ⟨b, 0, none⟩), .func (.func 114) #[] #[]] (w.alloc zBox) fun e w' => _
  generalize w.alloc zBox = w1 at *
  have KR := Lib.hid (row_word H1.out.2.1 hi hs says_word HX.out)
  refine KR.out.mono ?_
  rintro _ w2 ⟨rfl, h2⟩
  have H2 := Lib.hid (St.bel hb H1.out h2)
  clear h2
  clear HS KR H1
  go_wp2_with fail
  refine (KC.out _).mono ?_
  rintro _ w3 ⟨rfl, h3⟩
  have H3 := Lib.hid (St.bel hb H2.out h3)
  clear h3 H2
  go_wp2_with fail
  have KQ := Lib.hid (KP.out _ H3.out.2.1)
  refine KQ.out.mono ?_
  rintro _ w4 ⟨rfl, h4, h5⟩
  have H4 := Lib.hid (St.kept hb H3.out h4 h5)
  clear h4 h5 H3 KQ
  obtain ⟨⟨c0, c1, c2, c3, c4⟩, f0, f1, f2, f3, f4⟩ := H4.out.2.2
  go_wp2_with fail

  refine bodyPost_ret (v := tokV ⟨1, i, x, 0, 0⟩) (by simp [results, Tryz.results99, go_sem, tokV, c0, c1, c2, c3, c4]) rfl ⟨rfl, ?_, ?_⟩
  · exact (H4.out.fin hb _ _ _ _ _).1
  · exact (H4.out.fin hb _ _ _ _ _).2
end Go.Proofs.YtedbpjcglnkjmaaGreatDoor
namespace Go.Proofs.YtedbpjcglnkjmaaGreatDoor
open Go.RowKit Lx

theorem digs_all {l : List UInt8} {k : Nat} (h : digs l k = true) : l ≠ [] ∧ l.length ≤ k ∧ allD l = true := by
  unfold digs at h
  simp only [Bool.and_eq_true, decide_eq_true_eq] at h
  exact ⟨h.1.1, h.1.2, h.2⟩
theorem hun_text {x : List UInt8} (hf : frm x = true) : (whole x ++ ((behind x).tail ++ [48, 48]).take 2).length ≤ 11 ∧ whole x ++ ((behind x).tail ++ [48, 48]).take 2 ≠ [] ∧ allD (whole x ++ ((behind x).tail ++ [48, 48]).take 2) = true := by
  unfold frm at hf
  rw [Bool.and_eq_true, Bool.or_eq_true, decide_eq_true_eq] at hf
  obtain ⟨h1, h2⟩ := hf
  obtain ⟨a1, a2, a3⟩ := digs_all h1
  refine ⟨by rw [List.length_append, List.length_take]; omega, by simp [a1], ?_⟩
  unfold allD at a3 ⊢
  rw [List.all_append, a3, Bool.true_and]
  rw [List.all_eq_true]
  intro c hc
  have hc := List.mem_of_mem_take hc
  rw [List.mem_append] at hc
  rcases hc with hc | hc
  · rcases h2 with h2 | h2
    · rw [h2] at hc; simp at hc
    · have := (digs_all h2).2.2
      unfold allD at this
      exact List.all_eq_true.1 this c hc
  · simp at hc; subst hc; rfl
theorem val_lt : ∀ (l : List UInt8) (a : Nat), allD l = true → l.foldl (fun a c => a * 10 + (c.toNat - 48)) a < (a + 1) * 10 ^ l.length
  | [], a, _ => by simp
  | c :: l, a, h => by
    unfold allD at h
    rw [List.all_cons, Bool.and_eq_true] at h
    have hd : 48 ≤ c.toNat ∧ c.toNat ≤ 57 := by have := h.1; unfold dgt at this; simpa using this
    rw [List.foldl_cons, List.length_cons, Nat.pow_succ]
    have := val_lt l (a * 10 + (c.toNat - 48)) h.2
    have h2 : (a * 10 + (c.toNat - 48) + 1) * 10 ^ l.length ≤ ((a + 1) * 10) * 10 ^ l.length := Nat.mul_le_mul_right _ (by omega)
    have h3 : (a + 1) * 10 * 10 ^ l.length = (a + 1) * (10 ^ l.length * 10) := by rw [Nat.mul_assoc, Nat.mul_comm 10]
    omega
theorem hun_lt {x : List UInt8} (hf : frm x = true) : hun x < 100000000000 := by
  obtain ⟨t1, t2, t3⟩ := hun_text hf
  have := val_lt _ 0 t3
  unfold hun valD
  have h2 : 10 ^ (whole x ++ ((behind x).tail ++ [48, 48]).take 2).length ≤ 10 ^ 11 := Nat.pow_le_pow_right (by decide) t1
  omega
/-- What a number of hundredths is, as layer 1 has it. -/
def Vh (h : Nat) : Int × Int × Int := mk (h : Int) 100

set_option maxRecDepth 100000 in
set_option maxHeartbeats 800000 in
theorem word_er (s : ByteArray) (i b : Nat) (w : World) (x : List UInt8) (hA : At2 w b (.string s) (.int .i64 i)) (hi : i ≤ s.size) (hs : s.size ≤ 281474976710656) (hx : (s.data.toList.drop i).takeWhile wrd = x) (hl : 16 < x.length) :
    Calls Tryz.prog 99 #[.pointer (some ⟨b, 0, none⟩)] w fun e w' => e = .panicked (failV 2 i) ∧ Kept b w w' := by
  have hb := hA.lt
  have hz := bs_size x
  have d1 : decide ((16 : Int) < ((bs x).size : Int)) = true := by rw [hz]; simp; omega
  have d2 : decide (16 < (bs x).size) = true := by rw [hz]; simp; omega
  have HA := Lib.hid hA
  have HX := Lib.hid hx
  have H1 := Lib.hid (St.start HA.out)
  clear hA hx hz
  go_enter Tryz.func99, Tryz.ntmps99
  go_wp2_with fail
  change Calls Tryz.prog 95 #[.pointer (some ⟨b, 0, none⟩), .func (.func 114) #[] #[]] (w.alloc zBox) fun e w' => _
  generalize w.alloc zBox = w1 at *
  have KR := Lib.hid (row_word H1.out.2.1 hi hs says_word HX.out)
  refine (KR.out).mono ?_
  rintro _ w2 ⟨rfl, h2⟩
  have H2 := Lib.hid (St.bel hb H1.out h2)
  clear h2 H1
  clear KR
  go_wp2_with fail
  have KF := Lib.hid (fail_any s 2 i b _ H2.out.2.1)
  refine KF.out.mono ?_
  rintro _ _ ⟨rfl, rfl⟩
  go_wp2_with fail
  exact bodyPost_panic rfl ⟨rfl, H2.out.1⟩

theorem row_sign {s : ByteArray} {i : Nat} {x : List UInt8} (hx : s.data.toList.drop i = x) : s.extract i s.size = bs x := by
  subst hx; apply ByteArray.ext; apply Array.ext'; rw [Lib.extract_to_end]; simp [bs]
set_option maxRecDepth 100000 in
set_option maxHeartbeats 800000 in
theorem sign_ok (s : ByteArray) (i b : Nat) (w : World) (x : List UInt8) (k : Nat) (hA : At2 w b (.string s) (.int .i64 i)) (hi : i ≤ s.size) (hs : s.size ≤ 281474976710656) (hx : s.data.toList.drop i = x) (hk : sgn x = k) (h0 : 0 < k) :
    Calls Tryz.prog 97 #[.pointer (some ⟨b, 0, none⟩)] w fun e w' => e = .returned (tokV ⟨3, i, x.take k, 0, 0⟩) ∧ Kept b w w' ∧ At2 w' b (.string s) (.int .i64 (i + k : Nat)) := by
  have hb := hA.lt
  have hxl : x.length = s.size - i := by rw [← hx, List.length_drop, len_bytes]
  have hkl : k ≤ x.length := by rw [← hk]; exact sgn_le x
  obtain ⟨X, hX⟩ : ∃ X, X = bs x := ⟨_, rfl⟩
  obtain ⟨T, hT⟩ : ∃ T, T = bs (x.take k) := ⟨_, rfl⟩
  have e1 : s.extract i s.size = X := by rw [hX]; exact row_sign (i := i) hx
  have e2 : X.extract 0 k = T := by rw [hX, hT]; exact bs_take x k
  have HZ : Hid (T.size = k) := by show _ = _; rw [hT, bs_size, List.length_take]; omega
  have hXs : X.size = x.length := by rw [hX, bs_size]
  have KS : Hid (∀ w : World, Calls Tryz.prog 111 #[.string X] w fun e w' => e = .returned (.int .i64 (k : Nat)) ∧ w' = w) := fun w => by
    have hd : X.data.toList = x := by rw [hX]; exact bs_data x
    cases hxc : x with
    | nil => rw [hxc] at hkl; simp at hkl; omega
    | cons c r =>
      have := signLength_any X c r w (by rw [hd, hxc]) (by omega)
      rw [← hxc, hk] at this
      exact this
  have KC := Lib.hid (fun w => clone_any T w (by rw [HZ.out]; omega))
  have d1 : (T.toList == []) = false := by
    rw [hT, bs_list]
    cases hxc : x.take k with
    | nil => have := congrArg List.length hxc; rw [List.length_take, List.length_nil] at this; omega
    | cons c r => rfl
  have d3 : T.toList.isEmpty = false := by
    rw [hT, bs_list]
    cases hxc : x.take k with
    | nil => have := congrArg List.length hxc; rw [List.length_take, List.length_nil] at this; omega
    | cons c r => rfl
  have d2 : (i : Int) ≤ (s.size : Int) := by omega
  have d4 : (k : Int) ≤ (X.size : Int) := by omega
  have HT := Lib.hid hT
  have H1 := Lib.hid (St.start hA)
  have hkz : i + k ≤ s.size := by omega
  have hkb : k ≤ 281474976710656 := by omega
  obtain ⟨c0, c1, _, _⟩ := hA
  clear hX hT hx hxl hk hXs hkl
  show Calls Tryz.prog 97 #[.pointer (some ⟨b, 0, none⟩)] w fun e w' => e = .returned (.agg #[.int .i64 3, .int .i64 i, .string (bs (x.take k)), .int .i64 0, .int .i64 0]) ∧ _
  rw [← HT.out]
  go_enter Tryz.func97, Tryz.ntmps97
  go_wp2_with fail
  change Code.wp _ _ _ _ (w.alloc zBox)
  have b1 := H1.out.2.1.c0
  have b2 := H1.out.2.1.c1
  generalize w.alloc zBox = w1 at *
  go_quiet (fail)
  have H2 := Lib.hid (St.bel hb H1.out (below_drewN (Below.refl _ _) nq))
  clear H1 b1 b2 c0 c1
  generalize w1.drewN nq = w2 at *
  go_wp2_with fail
  refine (KS.out _).mono ?_
  rintro _ _ ⟨rfl, rfl⟩
  go_wp2_with fail
  refine (KC.out _).mono ?_
  rintro _ w3 ⟨rfl, h3⟩
  have H3 := Lib.hid (St.bel hb H2.out h3)
  clear h3 H2
  go_wp2_with fail
  have KQ := Lib.hid (pass_any s T 3 0 0 0 T i b _ H3.out.2.1 hi (by rw [HZ.out]; omega) hs)
  rw [HZ.out] at KQ
  refine KQ.out.mono ?_
  rintro _ w4 ⟨rfl, h4, h5⟩
  have H4 := Lib.hid (St.kept hb H3.out h4 h5)
  clear h4 h5 H3 KQ
  obtain ⟨⟨c0, c1, c2, c3, c4⟩, f0, f1, f2, f3, f4⟩ := H4.out.2.2
  go_wp2_with fail
  exact bodyPost_ret (v := .agg #[.int .i64 3, .int .i64 i, .string T, .int .i64 0, .int .i64 0]) (by simp [results, Tryz.results97, go_sem, c0, c1, c2, c3, c4]) rfl ⟨rfl, (H4.out.fin hb _ _ _ _ _).1, (H4.out.fin hb _ _ _ _ _).2⟩

set_option maxRecDepth 100000 in
set_option maxHeartbeats 800000 in
theorem sign_er (s : ByteArray) (i b : Nat) (w : World) (x : List UInt8) (hA : At2 w b (.string s) (.int .i64 i)) (hi : i ≤ s.size) (hs : s.size ≤ 281474976710656) (hx : s.data.toList.drop i = x) (hk : sgn x = 0) (hne : x ≠ []) :
    Calls Tryz.prog 97 #[.pointer (some ⟨b, 0, none⟩)] w fun e w' => e = .panicked (failV 10 i) ∧ Kept b w w' := by
  have hb := hA.lt
  have hxl : x.length = s.size - i := by rw [← hx, List.length_drop, len_bytes]
  obtain ⟨X, hX⟩ : ∃ X, X = bs x := ⟨_, rfl⟩
  have e1 : s.extract i s.size = X := by rw [hX]; exact row_sign (i := i) hx
  have hXs : X.size = x.length := by rw [hX, bs_size]
  have e2 : X.extract 0 0 = ⟨#[]⟩ := by apply ByteArray.ext; apply Array.ext'; simp
  have KS : Hid (∀ w : World, Calls Tryz.prog 111 #[.string X] w fun e w' => e = .returned (.int .i64 0) ∧ w' = w) := fun w => by
    have hd : X.data.toList = x := by rw [hX]; exact bs_data x
    cases hxc : x with
    | nil => exact absurd hxc hne
    | cons c r =>
      have := signLength_any X c r w (by rw [hd, hxc]) (by omega)
      rw [← hxc, hk] at this
      exact this
  have d2 : (i : Int) ≤ (s.size : Int) := by omega
  have H1 := Lib.hid (St.start hA)
  obtain ⟨c0, c1, _, _⟩ := hA
  clear hX hx hxl hk hXs hne
  go_enter Tryz.func97, Tryz.ntmps97
  go_wp2_with fail
  change Code.wp _ _ _ _ (w.alloc zBox)
  have b1 := H1.out.2.1.c0
  have b2 := H1.out.2.1.c1
  generalize w.alloc zBox = w1 at *
  go_quiet (fail)
  have H2 := Lib.hid (St.bel hb H1.out (below_drewN (Below.refl _ _) nq))
  clear H1 b1 b2 c0 c1
  generalize w1.drewN nq = w2 at *
  go_wp2_with fail
  refine (KS.out _).mono ?_
  rintro _ _ ⟨rfl, rfl⟩
  go_wp2_with fail
  have KF := Lib.hid (fail_any s 10 i b _ H2.out.2.1)
  refine KF.out.mono ?_
  rintro _ _ ⟨rfl, rfl⟩
  go_wp2_with fail
  exact bodyPost_panic rfl ⟨rfl, H2.out.1⟩

set_option maxRecDepth 100000 in
set_option maxHeartbeats 1600000 in
theorem number_er8 (s : ByteArray) (i b : Nat) (w : World) (x : List UInt8) (hA : At2 w b (.string s) (.int .i64 i)) (hi : i ≤ s.size) (hs : s.size ≤ 281474976710656) (hx : (s.data.toList.drop i).takeWhile nmb = x) (hf : frm x = false) :
    Calls Tryz.prog 101 #[.pointer (some ⟨b, 0, none⟩)] w fun e w' => e = .panicked (failV 8 i) ∧ Kept b w w' := by
  have hb := hA.lt
  have hxs : i + x.length ≤ s.size := by
    have := tw_pre (p := nmb) (s.data.toList.drop i)
    rw [hx, List.length_drop, len_bytes] at this; omega
  have HZ : Hid ((bs x).size = x.length) := bs_size x
  have hpl := congrArg List.length (cut_parts x)
  rw [List.length_append] at hpl
  have htl : (behind x).tail.length ≤ (behind x).length := by rw [List.length_tail]; omega
  have KC := Lib.hid (fun w => cut_any x w (by omega))
  have KD : Hid (∀ w : World, Calls Tryz.prog 117 #[.string (bs (whole x)), .int .i64 9] w fun e w' => e = .returned (.bool (digs (whole x) 9)) ∧ w' = w) := fun w => isDigits_any (whole x) 9 w (by omega)
  have KD2 : Hid (∀ w : World, Calls Tryz.prog 117 #[.string (bs (behind x).tail), .int .i64 2] w fun e w' => e = .returned (.bool (digs (behind x).tail 2)) ∧ w' = w) := fun w => isDigits_any (behind x).tail 2 w (by omega)
  have HA := Lib.hid hA
  have HX := Lib.hid hx
  have H1 := Lib.hid (St.start HA.out)
  have hf' : digs (whole x) 9 = false ∨ (digs (whole x) 9 = true ∧ behind x ≠ [] ∧ digs (behind x).tail 2 = false) := by
    unfold frm at hf
    cases h1 : digs (whole x) 9 with
    | false => left; rfl
    | true =>
      right
      rw [h1, Bool.true_and, Bool.or_eq_false_iff, decide_eq_false_iff_not] at hf
      exact ⟨rfl, hf.1, hf.2⟩
  clear hf hA hx hpl htl
  rcases hf' with h1 | ⟨h1, h2, h3⟩
  · rw [h1] at KD
    generalize whole x = A at *
    generalize (behind x).tail = B at *
    generalize decide (behind x ≠ []) = q at *
    cases q
    · go_enter Tryz.func101, Tryz.ntmps101
      go_wp2_with fail
      change Calls Tryz.prog 95 #[.pointer (some ⟨b, 0, none⟩), .func (.func 115) #[] #[]] (w.alloc zBox) fun e w' => _
      generalize w.alloc zBox = w1 at *
      have KR := Lib.hid (row_word H1.out.2.1 hi hs says_number HX.out)
      refine (KR.out).mono ?_
      rintro _ w2 ⟨rfl, h2⟩
      have H2 := Lib.hid (St.bel hb H1.out h2)
      clear h2 H1
      clear KR
      go_wp2_with fail
      refine (KC.out _).mono ?_
      rintro _ w3 ⟨rfl, h3⟩
      have H3 := Lib.hid (St.bel hb H2.out h3)
      clear h3 H2
      clear KC
      go_wp2_with ((with_reducible refine (KD.out _).mono ?_); rintro _ _ ⟨rfl, rfl⟩)
      have KF := Lib.hid (fail_any s 8 i b _ H3.out.2.1)
      refine KF.out.mono ?_
      rintro _ _ ⟨rfl, rfl⟩
      go_wp2_with fail
      exact bodyPost_panic rfl ⟨rfl, H3.out.1⟩
    · go_enter Tryz.func101, Tryz.ntmps101
      go_wp2_with fail
      change Calls Tryz.prog 95 #[.pointer (some ⟨b, 0, none⟩), .func (.func 115) #[] #[]] (w.alloc zBox) fun e w' => _
      generalize w.alloc zBox = w1 at *
      have KR := Lib.hid (row_word H1.out.2.1 hi hs says_number HX.out)
      refine (KR.out).mono ?_
      rintro _ w2 ⟨rfl, h2⟩
      have H2 := Lib.hid (St.bel hb H1.out h2)
      clear h2 H1
      clear KR
      go_wp2_with fail
      refine (KC.out _).mono ?_
      rintro _ w3 ⟨rfl, h3⟩
      have H3 := Lib.hid (St.bel hb H2.out h3)
      clear h3 H2
      clear KC
      go_wp2_with ((with_reducible refine (KD.out _).mono ?_); rintro _ _ ⟨rfl, rfl⟩)
      have KF := Lib.hid (fail_any s 8 i b _ H3.out.2.1)
      refine KF.out.mono ?_
      rintro _ _ ⟨rfl, rfl⟩
      go_wp2_with fail
      exact bodyPost_panic rfl ⟨rfl, H3.out.1⟩

  · rw [h1] at KD
    rw [h3] at KD2
    rw [decide_eq_true h2] at KC
    generalize whole x = A at *
    generalize (behind x).tail = B at *
    go_enter Tryz.func101, Tryz.ntmps101
    go_wp2_with fail
    change Calls Tryz.prog 95 #[.pointer (some ⟨b, 0, none⟩), .func (.func 115) #[] #[]] (w.alloc zBox) fun e w' => _
    generalize w.alloc zBox = w1 at *
    have KR := Lib.hid (row_word H1.out.2.1 hi hs says_number HX.out)
    refine (KR.out).mono ?_
    rintro _ w2 ⟨rfl, h2⟩
    have H2 := Lib.hid (St.bel hb H1.out h2)
    clear h2 H1
    clear KR
    go_wp2_with fail
    refine (KC.out _).mono ?_
    rintro _ w3 ⟨rfl, h3⟩
    have H3 := Lib.hid (St.bel hb H2.out h3)
    clear h3 H2
    clear KC
    go_wp2_with (first | ((with_reducible refine (KD.out _).mono ?_); rintro _ _ ⟨rfl, rfl⟩) | ((with_reducible refine (KD2.out _).mono ?_); rintro _ _ ⟨rfl, rfl⟩))
    have KF := Lib.hid (fail_any s 8 i b _ H3.out.2.1)
    refine KF.out.mono ?_
    rintro _ _ ⟨rfl, rfl⟩
    go_wp2_with fail
    exact bodyPost_panic rfl ⟨rfl, H3.out.1⟩

set_option maxRecDepth 100000 in
set_option maxHeartbeats 1600000 in
theorem number_ok (s : ByteArray) (i b : Nat) (w : World) (x : List UInt8) (hA : At2 w b (.string s) (.int .i64 i)) (hi : i ≤ s.size) (hs : s.size ≤ 281474976710656) (hx : (s.data.toList.drop i).takeWhile nmb = x) (hf : frm x = true) (n d : Int) (hv : Vh (hun x) = (n, d, 0)) :
    Calls Tryz.prog 101 #[.pointer (some ⟨b, 0, none⟩)] w fun e w' => e = .returned (tokV ⟨2, i, [], n, d⟩) ∧ Kept b w w' ∧ At2 w' b (.string s) (.int .i64 (i + x.length : Nat)) := by
  have hb := hA.lt
  have hxs : i + x.length ≤ s.size := by
    have := tw_pre (p := nmb) (s.data.toList.drop i)
    rw [hx, List.length_drop, len_bytes] at this; omega
  have HZ : Hid ((bs x).size = x.length) := bs_size x
  have hpl := congrArg List.length (cut_parts x)
  rw [List.length_append] at hpl
  have htl : (behind x).tail.length ≤ (behind x).length := by rw [List.length_tail]; omega
  have KC := Lib.hid (fun w => cut_any x w (by omega))
  have KD : Hid (∀ w : World, Calls Tryz.prog 117 #[.string (bs (whole x)), .int .i64 9] w fun e w' => e = .returned (.bool (digs (whole x) 9)) ∧ w' = w) := fun w => isDigits_any (whole x) 9 w (by omega)
  have KD2 : Hid (∀ w : World, Calls Tryz.prog 117 #[.string (bs (behind x).tail), .int .i64 2] w fun e w' => e = .returned (.bool (digs (behind x).tail 2)) ∧ w' = w) := fun w => isDigits_any (behind x).tail 2 w (by omega)
  have HA := Lib.hid hA
  have HX := Lib.hid hx
  have H1 := Lib.hid (St.start HA.out)
  show Calls Tryz.prog 101 #[.pointer (some ⟨b, 0, none⟩)] w fun e w' => e = .returned (.agg #[.int .i64 2, .int .i64 i, .string ⟨#[]⟩, .int .i64 n, .int .i64 d]) ∧ _
  have hf' : digs (whole x) 9 = true ∧ (behind x = [] ∨ (behind x ≠ [] ∧ digs (behind x).tail 2 = true)) := by
    unfold frm at hf
    rw [Bool.and_eq_true, Bool.or_eq_true, decide_eq_true_eq] at hf
    refine ⟨hf.1, ?_⟩
    by_cases h : behind x = []
    · exact Or.inl h
    · exact Or.inr ⟨h, hf.2.resolve_left h⟩
  obtain ⟨t1, t2, t3⟩ := hun_text hf
  have KA : Hid (∀ w : World, Calls Tryz.prog 118 #[.string (bs (whole x ++ ((behind x).tail ++ [48, 48]).take 2))] w fun e w' => e = .returned (.tuple #[.int .i64 (hun x : Nat), .nilIface]) ∧ RowKit.Below w.heap.size w w') := fun w => atoi_any _ w (by omega) t2 t3
  have hhl := hun_lt hf
  have KM : Hid (∀ w : World, Calls Tryz.prog 119 #[.int .i64 (hun x : Nat), .int .i64 100] w fun e w' => e = .returned (.tuple #[.agg #[.int .i64 n, .int .i64 d], .int .i64 0]) ∧ RowKit.Below w.heap.size w w') := fun w => by
    have := make_any (hun x : Nat) 100 w (by omega) (by omega) (by omega) (by omega)
    rw [show mk (hun x : Nat) 100 = (n, d, 0) from hv] at this
    exact this
  have u1 : (bs (behind x).tail ++ ⟨#[48, 48]⟩).extract 0 2 = bs (((behind x).tail ++ [48, 48]).take 2) := by
    have : (⟨#[48, 48]⟩ : ByteArray) = bs [48, 48] := rfl
    rw [this, bs_app, bs_take]
  have u2 : bs (whole x) ++ bs (((behind x).tail ++ [48, 48]).take 2) = bs (whole x ++ ((behind x).tail ++ [48, 48]).take 2) := bs_app _ _
  have u3 : (2 : Int) ≤ ((bs (behind x).tail ++ ⟨#[48, 48]⟩).size : Int) := by
    have : (⟨#[48, 48]⟩ : ByteArray) = bs [48, 48] := rfl
    rw [this, bs_app, bs_size]; simp; omega
  have z1 : (bs (whole x)).size ≤ 9 := by rw [bs_size]; exact (digs_all hf'.1).2.1
  have z2 : (bs (behind x).tail).size ≤ 2 := by
    rw [bs_size]
    rcases hf'.2 with h | ⟨_, h⟩
    · rw [h]; simp
    · exact (digs_all h).2.1
  have z3 : (bs (((behind x).tail ++ [48, 48]).take 2)).size ≤ 2 := by rw [bs_size, List.length_take]; omega
  clear hf hA hx hpl htl t1 t2 t3 hhl hv
  obtain ⟨h1, h2⟩ := hf'
  rw [h1] at KD
  have HB : Hid ((decide (behind x ≠ []) = false) ∨ (decide (behind x ≠ []) = true ∧ digs (behind x).tail 2 = true)) := by
    rcases h2 with h | ⟨h, h3⟩
    · exact Or.inl (decide_eq_false (by simpa using h))
    · exact Or.inr ⟨decide_eq_true h, h3⟩
  clear h1 h2
  generalize hun x = h at *
  generalize bs (whole x ++ ((behind x).tail ++ [48, 48]).take 2) = T at *
  generalize bs (((behind x).tail ++ [48, 48]).take 2) = C at *
  generalize bs (whole x) = A at *
  generalize digs (behind x).tail 2 = q2 at *
  generalize bs (behind x).tail = B at *
  generalize decide (behind x ≠ []) = q at *
  rcases HB.out with rfl | ⟨rfl, rfl⟩
  · go_enter Tryz.func101, Tryz.ntmps101
    go_wp2_with fail
    change Calls Tryz.prog 95 #[.pointer (some ⟨b, 0, none⟩), .func (.func 115) #[] #[]] (w.alloc zBox) fun e w' => _
    generalize w.alloc zBox = w1 at *
    have KR := Lib.hid (row_word H1.out.2.1 hi hs says_number HX.out)
    refine (KR.out).mono ?_
    rintro _ w2 ⟨rfl, h2⟩
    have H2 := Lib.hid (St.bel hb H1.out h2)
    clear h2 H1
    clear KR
    go_wp2_with fail
    refine (KC.out _).mono ?_
    rintro _ w3 ⟨rfl, h3⟩
    have H3 := Lib.hid (St.bel hb H2.out h3)
    clear h3 H2
    clear KC
    go_wp2_with (first | ((with_reducible refine (KD.out _).mono ?_); rintro _ _ ⟨rfl, rfl⟩) | ((with_reducible refine (KD2.out _).mono ?_); rintro _ _ ⟨rfl, rfl⟩))
    refine (KA.out _).mono ?_
    rintro _ w4 ⟨rfl, h4⟩
    have H4 := Lib.hid (St.bel hb H3.out h4)
    clear h4 H3
    go_wp2_with fail
    refine (KM.out _).mono ?_
    rintro _ w5 ⟨rfl, h5⟩
    have H5 := Lib.hid (St.bel hb H4.out h5)
    clear h5 H4
    go_wp2_with fail
    have H6 := Lib.hid (St.bel hb H5.out ((Below.refl _ _).alloc (Nat.le_refl _) (.cells #[.int .i64 n, .int .i64 d] 31)))
    have KQ := Lib.hid (pass_any s (bs x) 2 0 n d ⟨#[]⟩ i b _ H6.out.2.1 hi (by rw [HZ.out]; omega) hs)
    rw [HZ.out] at KQ
    refine KQ.out.mono ?_
    rintro _ w7 ⟨rfl, h4, h5⟩
    have H7 := Lib.hid (St.kept hb H6.out h4 h5)
    clear h4 h5 H6 KQ
    obtain ⟨⟨c0, c1, c2, c3, c4⟩, f0, f1, f2, f3, f4⟩ := H7.out.2.2
    go_wp2_with fail
    exact bodyPost_ret (v := .agg #[.int .i64 2, .int .i64 i, .string ⟨#[]⟩, .int .i64 n, .int .i64 d]) (by simp [results, Tryz.results101, go_sem, c0, c1, c2, c3, c4]) rfl ⟨rfl, (H7.out.fin hb _ _ _ _ _).1, (H7.out.fin hb _ _ _ _ _).2⟩
  · go_enter Tryz.func101, Tryz.ntmps101
    go_wp2_with fail
    change Calls Tryz.prog 95 #[.pointer (some ⟨b, 0, none⟩), .func (.func 115) #[] #[]] (w.alloc zBox) fun e w' => _
    generalize w.alloc zBox = w1 at *
    have KR := Lib.hid (row_word H1.out.2.1 hi hs says_number HX.out)
    refine (KR.out).mono ?_
    rintro _ w2 ⟨rfl, h2⟩
    have H2 := Lib.hid (St.bel hb H1.out h2)
    clear h2 H1
    clear KR
    go_wp2_with fail
    refine (KC.out _).mono ?_
    rintro _ w3 ⟨rfl, h3⟩
    have H3 := Lib.hid (St.bel hb H2.out h3)
    clear h3 H2
    clear KC
    go_wp2_with (first | ((with_reducible refine (KD.out _).mono ?_); rintro _ _ ⟨rfl, rfl⟩) | ((with_reducible refine (KD2.out _).mono ?_); rintro _ _ ⟨rfl, rfl⟩))
    refine (KA.out _).mono ?_
    rintro _ w4 ⟨rfl, h4⟩
    have H4 := Lib.hid (St.bel hb H3.out h4)
    clear h4 H3
    go_wp2_with fail
    refine (KM.out _).mono ?_
    rintro _ w5 ⟨rfl, h5⟩
    have H5 := Lib.hid (St.bel hb H4.out h5)
    clear h5 H4
    go_wp2_with fail
    have H6 := Lib.hid (St.bel hb H5.out ((Below.refl _ _).alloc (Nat.le_refl _) (.cells #[.int .i64 n, .int .i64 d] 31)))
    have KQ := Lib.hid (pass_any s (bs x) 2 0 n d ⟨#[]⟩ i b _ H6.out.2.1 hi (by rw [HZ.out]; omega) hs)
    rw [HZ.out] at KQ
    refine KQ.out.mono ?_
    rintro _ w7 ⟨rfl, h4, h5⟩
    have H7 := Lib.hid (St.kept hb H6.out h4 h5)
    clear h4 h5 H6 KQ
    obtain ⟨⟨c0, c1, c2, c3, c4⟩, f0, f1, f2, f3, f4⟩ := H7.out.2.2
    go_wp2_with fail
    exact bodyPost_ret (v := .agg #[.int .i64 2, .int .i64 i, .string ⟨#[]⟩, .int .i64 n, .int .i64 d]) (by simp [results, Tryz.results101, go_sem, c0, c1, c2, c3, c4]) rfl ⟨rfl, (H7.out.fin hb _ _ _ _ _).1, (H7.out.fin hb _ _ _ _ _).2⟩

set_option maxRecDepth 100000 in
set_option maxHeartbeats 1600000 in
theorem number_er3 (s : ByteArray) (i b : Nat) (w : World) (x : List UInt8) (hA : At2 w b (.string s) (.int .i64 i)) (hi : i ≤ s.size) (hs : s.size ≤ 281474976710656) (hx : (s.data.toList.drop i).takeWhile nmb = x) (hf : frm x = true) (n d ee : Int) (hv : Vh (hun x) = (n, d, ee)) (he : ee ≠ 0) :
    Calls Tryz.prog 101 #[.pointer (some ⟨b, 0, none⟩)] w fun e w' => e = .panicked (failV 3 i) ∧ Kept b w w' := by
  have hb := hA.lt
  have hxs : i + x.length ≤ s.size := by
    have := tw_pre (p := nmb) (s.data.toList.drop i)
    rw [hx, List.length_drop, len_bytes] at this; omega
  have HZ : Hid ((bs x).size = x.length) := bs_size x
  have hpl := congrArg List.length (cut_parts x)
  rw [List.length_append] at hpl
  have htl : (behind x).tail.length ≤ (behind x).length := by rw [List.length_tail]; omega
  have KC := Lib.hid (fun w => cut_any x w (by omega))
  have KD : Hid (∀ w : World, Calls Tryz.prog 117 #[.string (bs (whole x)), .int .i64 9] w fun e w' => e = .returned (.bool (digs (whole x) 9)) ∧ w' = w) := fun w => isDigits_any (whole x) 9 w (by omega)
  have KD2 : Hid (∀ w : World, Calls Tryz.prog 117 #[.string (bs (behind x).tail), .int .i64 2] w fun e w' => e = .returned (.bool (digs (behind x).tail 2)) ∧ w' = w) := fun w => isDigits_any (behind x).tail 2 w (by omega)
  have HA := Lib.hid hA
  have HX := Lib.hid hx
  have H1 := Lib.hid (St.start HA.out)
  have he1 : (ee == 0) = false := by simpa using he
  have he2 : (ee != 0) = true := by simpa using he
  have hf' : digs (whole x) 9 = true ∧ (behind x = [] ∨ (behind x ≠ [] ∧ digs (behind x).tail 2 = true)) := by
    unfold frm at hf
    rw [Bool.and_eq_true, Bool.or_eq_true, decide_eq_true_eq] at hf
    refine ⟨hf.1, ?_⟩
    by_cases h : behind x = []
    · exact Or.inl h
    · exact Or.inr ⟨h, hf.2.resolve_left h⟩
  obtain ⟨t1, t2, t3⟩ := hun_text hf
  have KA : Hid (∀ w : World, Calls Tryz.prog 118 #[.string (bs (whole x ++ ((behind x).tail ++ [48, 48]).take 2))] w fun e w' => e = .returned (.tuple #[.int .i64 (hun x : Nat), .nilIface]) ∧ RowKit.Below w.heap.size w w') := fun w => atoi_any _ w (by omega) t2 t3
  have hhl := hun_lt hf
  have KM : Hid (∀ w : World, Calls Tryz.prog 119 #[.int .i64 (hun x : Nat), .int .i64 100] w fun e w' => e = .returned (.tuple #[.agg #[.int .i64 n, .int .i64 d], .int .i64 ee]) ∧ RowKit.Below w.heap.size w w') := fun w => by
    have := make_any (hun x : Nat) 100 w (by omega) (by omega) (by omega) (by omega)
    rw [show mk (hun x : Nat) 100 = (n, d, ee) from hv] at this
    exact this
  have u1 : (bs (behind x).tail ++ ⟨#[48, 48]⟩).extract 0 2 = bs (((behind x).tail ++ [48, 48]).take 2) := by
    have : (⟨#[48, 48]⟩ : ByteArray) = bs [48, 48] := rfl
    rw [this, bs_app, bs_take]
  have u2 : bs (whole x) ++ bs (((behind x).tail ++ [48, 48]).take 2) = bs (whole x ++ ((behind x).tail ++ [48, 48]).take 2) := bs_app _ _
  have u3 : (2 : Int) ≤ ((bs (behind x).tail ++ ⟨#[48, 48]⟩).size : Int) := by
    have : (⟨#[48, 48]⟩ : ByteArray) = bs [48, 48] := rfl
    rw [this, bs_app, bs_size]; simp; omega
  have z1 : (bs (whole x)).size ≤ 9 := by rw [bs_size]; exact (digs_all hf'.1).2.1
  have z2 : (bs (behind x).tail).size ≤ 2 := by
    rw [bs_size]
    rcases hf'.2 with h | ⟨_, h⟩
    · rw [h]; simp
    · exact (digs_all h).2.1
  have z3 : (bs (((behind x).tail ++ [48, 48]).take 2)).size ≤ 2 := by rw [bs_size, List.length_take]; omega
  clear hf hA hx hpl htl t1 t2 t3 hhl hv
  obtain ⟨h1, h2⟩ := hf'
  rw [h1] at KD
  have HB : Hid ((decide (behind x ≠ []) = false) ∨ (decide (behind x ≠ []) = true ∧ digs (behind x).tail 2 = true)) := by
    rcases h2 with h | ⟨h, h3⟩
    · exact Or.inl (decide_eq_false (by simpa using h))
    · exact Or.inr ⟨decide_eq_true h, h3⟩
  clear h1 h2
  generalize hun x = h at *
  generalize bs (whole x ++ ((behind x).tail ++ [48, 48]).take 2) = T at *
  generalize bs (((behind x).tail ++ [48, 48]).take 2) = C at *
  generalize bs (whole x) = A at *
  generalize digs (behind x).tail 2 = q2 at *
  generalize bs (behind x).tail = B at *
  generalize decide (behind x ≠ []) = q at *
  rcases HB.out with rfl | ⟨rfl, rfl⟩
  · go_enter Tryz.func101, Tryz.ntmps101
    go_wp2_with fail
    change Calls Tryz.prog 95 #[.pointer (some ⟨b, 0, none⟩), .func (.func 115) #[] #[]] (w.alloc zBox) fun e w' => _
    generalize w.alloc zBox = w1 at *
    have KR := Lib.hid (row_word H1.out.2.1 hi hs says_number HX.out)
    refine (KR.out).mono ?_
    rintro _ w2 ⟨rfl, h2⟩
    have H2 := Lib.hid (St.bel hb H1.out h2)
    clear h2 H1
    clear KR
    go_wp2_with fail
    refine (KC.out _).mono ?_
    rintro _ w3 ⟨rfl, h3⟩
    have H3 := Lib.hid (St.bel hb H2.out h3)
    clear h3 H2
    clear KC
    go_wp2_with (first | ((with_reducible refine (KD.out _).mono ?_); rintro _ _ ⟨rfl, rfl⟩) | ((with_reducible refine (KD2.out _).mono ?_); rintro _ _ ⟨rfl, rfl⟩))
    refine (KA.out _).mono ?_
    rintro _ w4 ⟨rfl, h4⟩
    have H4 := Lib.hid (St.bel hb H3.out h4)
    clear h4 H3
    go_wp2_with fail
    refine (KM.out _).mono ?_
    rintro _ w5 ⟨rfl, h5⟩
    have H5 := Lib.hid (St.bel hb H4.out h5)
    clear h5 H4
    go_wp2_with fail
    have H6 := Lib.hid (St.bel hb H5.out ((Below.refl _ _).alloc (Nat.le_refl _) (.cells #[.int .i64 n, .int .i64 d] 31)))
    have KF := Lib.hid (fail_any s 3 i b _ H6.out.2.1)
    refine KF.out.mono ?_
    rintro _ _ ⟨rfl, rfl⟩
    go_wp2_with fail
    exact bodyPost_panic rfl ⟨rfl, H6.out.1⟩
  · go_enter Tryz.func101, Tryz.ntmps101
    go_wp2_with fail
    change Calls Tryz.prog 95 #[.pointer (some ⟨b, 0, none⟩), .func (.func 115) #[] #[]] (w.alloc zBox) fun e w' => _
    generalize w.alloc zBox = w1 at *
    have KR := Lib.hid (row_word H1.out.2.1 hi hs says_number HX.out)
    refine (KR.out).mono ?_
    rintro _ w2 ⟨rfl, h2⟩
    have H2 := Lib.hid (St.bel hb H1.out h2)
    clear h2 H1
    clear KR
    go_wp2_with fail
    refine (KC.out _).mono ?_
    rintro _ w3 ⟨rfl, h3⟩
    have H3 := Lib.hid (St.bel hb H2.out h3)
    clear h3 H2
    clear KC
    go_wp2_with (first | ((with_reducible refine (KD.out _).mono ?_); rintro _ _ ⟨rfl, rfl⟩) | ((with_reducible refine (KD2.out _).mono ?_); rintro _ _ ⟨rfl, rfl⟩))
    refine (KA.out _).mono ?_
    rintro _ w4 ⟨rfl, h4⟩
    have H4 := Lib.hid (St.bel hb H3.out h4)
    clear h4 H3
    go_wp2_with fail
    refine (KM.out _).mono ?_
    rintro _ w5 ⟨rfl, h5⟩
    have H5 := Lib.hid (St.bel hb H4.out h5)
    clear h5 H4
    go_wp2_with fail
    have H6 := Lib.hid (St.bel hb H5.out ((Below.refl _ _).alloc (Nat.le_refl _) (.cells #[.int .i64 n, .int .i64 d] 31)))
    have KF := Lib.hid (fail_any s 3 i b _ H6.out.2.1)
    refine KF.out.mono ?_
    rintro _ _ ⟨rfl, rfl⟩
    go_wp2_with fail
    exact bodyPost_panic rfl ⟨rfl, H6.out.1⟩
end Go.Proofs.YtedbpjcglnkjmaaGreatDoor
namespace Go.Proofs.YtedbpjcglnkjmaaGreatDoor
open Go.RowKit Lx

set_option maxRecDepth 100000 in
set_option maxHeartbeats 1600000 in
theorem token_ret (s : ByteArray) (i b : Nat) (w : World) (hA : At2 w b (.string s) (.int .i64 i)) (hi : i < s.size) (F : FuncId)
    (hF : (ltr s[i] = true ∧ F = 99) ∨ (ltr s[i] = false ∧ dgt s[i] = true ∧ F = 101) ∨ (ltr s[i] = false ∧ dgt s[i] = false ∧ F = 97)) (v0 v1 v3 v4 : Int) (v2 : ByteArray) (j : Nat)
    (hK : ∀ w1, At2 w1 b (.string s) (.int .i64 i) → Calls Tryz.prog F #[.pointer (some ⟨b, 0, none⟩)] w1 fun e w' => e = .returned (.agg #[.int .i64 v0, .int .i64 v1, .string v2, .int .i64 v3, .int .i64 v4]) ∧ Kept b w1 w' ∧ At2 w' b (.string s) (.int .i64 (j : Nat))) :
    Calls Tryz.prog 84 #[.pointer (some ⟨b, 0, none⟩)] w fun e w' => e = .returned (.agg #[.int .i64 v0, .int .i64 v1, .string v2, .int .i64 v3, .int .i64 v4]) ∧ Kept b w w' ∧ At2 w' b (.string s) (.int .i64 (j : Nat)) := by
  have hb := hA.lt
  have hmf : ∀ (fn : Fn) (first cap : Array Value) (w : World), (Instr.makeFunc fn first cap).run Tryz.prog w = .ok (.func fn first cap) w := fun _ _ _ _ => rfl
  have KL := Lib.hid (isLetter_any s[i])
  have KD := Lib.hid (isDigit_any s[i])
  have K := Lib.hid hK
  have H1 := Lib.hid (St.start hA)
  have d2 : (i : Int) < (s.size : Int) := by omega
  clear hK hA
  rcases hF with ⟨h1, rfl⟩ | ⟨h1, h2, rfl⟩ | ⟨h1, h2, rfl⟩
  · rw [h1] at KL
    clear h1
    go_enter Tryz.func84, Tryz.ntmps84
    go_wp2_with fail
    change Code.wp _ _ _ _ (w.alloc zBox)
    have b1 := H1.out.2.1.c0
    have b2 := H1.out.2.1.c1
    generalize w.alloc zBox = w1 at *
    go_quiet (fail)
    have H2 := Lib.hid (St.bel hb H1.out (below_drewN (Below.refl _ _) nq))
    clear H1 b1 b2
    generalize w1.drewN nq = w2 at *
    go_wp2_with (first | ((with_reducible refine (KL.out _).mono ?_); rintro _ _ ⟨rfl, rfl⟩) | ((with_reducible refine (KD.out _).mono ?_); rintro _ _ ⟨rfl, rfl⟩))
    refine (K.out _ H2.out.2.1).mono ?_
    rintro _ w3 ⟨rfl, h4, h5⟩
    have H3 := Lib.hid (St.kept hb H2.out h4 h5)
    clear h4 h5 H2
    obtain ⟨⟨c0, c1, c2, c3, c4⟩, f0, f1, f2, f3, f4⟩ := H3.out.2.2
    go_wp2_with fail
    exact bodyPost_ret (v := .agg #[.int .i64 v0, .int .i64 v1, .string v2, .int .i64 v3, .int .i64 v4]) (by simp [results, Tryz.results84, go_sem, c0, c1, c2, c3, c4]) rfl ⟨rfl, (H3.out.fin hb _ _ _ _ _).1, (H3.out.fin hb _ _ _ _ _).2⟩
  · rw [h1] at KL
    rw [h2] at KD
    clear h1 h2
    go_enter Tryz.func84, Tryz.ntmps84
    go_wp2_with fail
    change Code.wp _ _ _ _ (w.alloc zBox)
    have b1 := H1.out.2.1.c0
    have b2 := H1.out.2.1.c1
    generalize w.alloc zBox = w1 at *
    go_quiet (fail)
    have H2 := Lib.hid (St.bel hb H1.out (below_drewN (Below.refl _ _) nq))
    clear H1 b1 b2
    generalize w1.drewN nq = w2 at *
    go_wp2_with (first | ((with_reducible refine (KL.out _).mono ?_); rintro _ _ ⟨rfl, rfl⟩) | ((with_reducible refine (KD.out _).mono ?_); rintro _ _ ⟨rfl, rfl⟩))
    refine (K.out _ H2.out.2.1).mono ?_
    rintro _ w3 ⟨rfl, h4, h5⟩
    have H3 := Lib.hid (St.kept hb H2.out h4 h5)
    clear h4 h5 H2
    obtain ⟨⟨c0, c1, c2, c3, c4⟩, f0, f1, f2, f3, f4⟩ := H3.out.2.2
    go_wp2_with fail
    exact bodyPost_ret (v := .agg #[.int .i64 v0, .int .i64 v1, .string v2, .int .i64 v3, .int .i64 v4]) (by simp [results, Tryz.results84, go_sem, c0, c1, c2, c3, c4]) rfl ⟨rfl, (H3.out.fin hb _ _ _ _ _).1, (H3.out.fin hb _ _ _ _ _).2⟩
  · rw [h1] at KL
    rw [h2] at KD
    clear h1 h2
    go_enter Tryz.func84, Tryz.ntmps84
    go_wp2_with fail
    change Code.wp _ _ _ _ (w.alloc zBox)
    have b1 := H1.out.2.1.c0
    have b2 := H1.out.2.1.c1
    generalize w.alloc zBox = w1 at *
    go_quiet (fail)
    have H2 := Lib.hid (St.bel hb H1.out (below_drewN (Below.refl _ _) nq))
    clear H1 b1 b2
    generalize w1.drewN nq = w2 at *
    go_wp2_with (first | ((with_reducible refine (KL.out _).mono ?_); rintro _ _ ⟨rfl, rfl⟩) | ((with_reducible refine (KD.out _).mono ?_); rintro _ _ ⟨rfl, rfl⟩))
    refine (K.out _ H2.out.2.1).mono ?_
    rintro _ w3 ⟨rfl, h4, h5⟩
    have H3 := Lib.hid (St.kept hb H2.out h4 h5)
    clear h4 h5 H2
    obtain ⟨⟨c0, c1, c2, c3, c4⟩, f0, f1, f2, f3, f4⟩ := H3.out.2.2
    go_wp2_with fail
    exact bodyPost_ret (v := .agg #[.int .i64 v0, .int .i64 v1, .string v2, .int .i64 v3, .int .i64 v4]) (by simp [results, Tryz.results84, go_sem, c0, c1, c2, c3, c4]) rfl ⟨rfl, (H3.out.fin hb _ _ _ _ _).1, (H3.out.fin hb _ _ _ _ _).2⟩

set_option maxRecDepth 100000 in
set_option maxHeartbeats 1600000 in
theorem token_pan (s : ByteArray) (i b : Nat) (w : World) (hA : At2 w b (.string s) (.int .i64 i)) (hi : i < s.size) (F : FuncId)
    (hF : (ltr s[i] = true ∧ F = 99) ∨ (ltr s[i] = false ∧ dgt s[i] = true ∧ F = 101) ∨ (ltr s[i] = false ∧ dgt s[i] = false ∧ F = 97)) (E : Int)
    (hK : ∀ w1, At2 w1 b (.string s) (.int .i64 i) → Calls Tryz.prog F #[.pointer (some ⟨b, 0, none⟩)] w1 fun e w' => e = .panicked (failV E i) ∧ Kept b w1 w') :
    Calls Tryz.prog 84 #[.pointer (some ⟨b, 0, none⟩)] w fun e w' => e = .panicked (failV E i) ∧ Kept b w w' := by
  have hb := hA.lt
  have hmf : ∀ (fn : Fn) (first cap : Array Value) (w : World), (Instr.makeFunc fn first cap).run Tryz.prog w = .ok (.func fn first cap) w := fun _ _ _ _ => rfl
  have KL := Lib.hid (isLetter_any s[i])
  have KD := Lib.hid (isDigit_any s[i])
  have K := Lib.hid hK
  have H1 := Lib.hid (St.start hA)
  have d2 : (i : Int) < (s.size : Int) := by omega
  clear hK hA
  rcases hF with ⟨h1, rfl⟩ | ⟨h1, h2, rfl⟩ | ⟨h1, h2, rfl⟩
  · rw [h1] at KL
    clear h1
    go_enter Tryz.func84, Tryz.ntmps84
    go_wp2_with fail
    change Code.wp _ _ _ _ (w.alloc zBox)
    have b1 := H1.out.2.1.c0
    have b2 := H1.out.2.1.c1
    generalize w.alloc zBox = w1 at *
    go_quiet (fail)
    have H2 := Lib.hid (St.bel hb H1.out (below_drewN (Below.refl _ _) nq))
    clear H1 b1 b2
    generalize w1.drewN nq = w2 at *
    go_wp2_with (first | ((with_reducible refine (KL.out _).mono ?_); rintro _ _ ⟨rfl, rfl⟩) | ((with_reducible refine (KD.out _).mono ?_); rintro _ _ ⟨rfl, rfl⟩))
    refine (K.out _ H2.out.2.1).mono ?_
    rintro _ w3 ⟨rfl, h4⟩
    go_wp2_with fail
    exact bodyPost_panic rfl ⟨rfl, H2.out.1.trans h4⟩
  · rw [h1] at KL
    rw [h2] at KD
    clear h1 h2
    go_enter Tryz.func84, Tryz.ntmps84
    go_wp2_with fail
    change Code.wp _ _ _ _ (w.alloc zBox)
    have b1 := H1.out.2.1.c0
    have b2 := H1.out.2.1.c1
    generalize w.alloc zBox = w1 at *
    go_quiet (fail)
    have H2 := Lib.hid (St.bel hb H1.out (below_drewN (Below.refl _ _) nq))
    clear H1 b1 b2
    generalize w1.drewN nq = w2 at *
    go_wp2_with (first | ((with_reducible refine (KL.out _).mono ?_); rintro _ _ ⟨rfl, rfl⟩) | ((with_reducible refine (KD.out _).mono ?_); rintro _ _ ⟨rfl, rfl⟩))
    refine (K.out _ H2.out.2.1).mono ?_
    rintro _ w3 ⟨rfl, h4⟩
    go_wp2_with fail
    exact bodyPost_panic rfl ⟨rfl, H2.out.1.trans h4⟩
  · rw [h1] at KL
    rw [h2] at KD
    clear h1 h2
    go_enter Tryz.func84, Tryz.ntmps84
    go_wp2_with fail
    change Code.wp _ _ _ _ (w.alloc zBox)
    have b1 := H1.out.2.1.c0
    have b2 := H1.out.2.1.c1
    generalize w.alloc zBox = w1 at *
    go_quiet (fail)
    have H2 := Lib.hid (St.bel hb H1.out (below_drewN (Below.refl _ _) nq))
    clear H1 b1 b2
    generalize w1.drewN nq = w2 at *
    go_wp2_with (first | ((with_reducible refine (KL.out _).mono ?_); rintro _ _ ⟨rfl, rfl⟩) | ((with_reducible refine (KD.out _).mono ?_); rintro _ _ ⟨rfl, rfl⟩))
    refine (K.out _ H2.out.2.1).mono ?_
    rintro _ w3 ⟨rfl, h4⟩
    go_wp2_with fail
    exact bodyPost_panic rfl ⟨rfl, H2.out.1.trans h4⟩

theorem token_kind {s : ByteArray} {i : Nat} (hi : i < s.size) {l : List UInt8} (hl : s.data.toList.drop i = l) : ∃ c r, l = c :: r ∧ s[i] = c := by
  have h : i < s.data.toList.length := by rw [len_bytes]; exact hi
  refine ⟨_, _, (hl.symm.trans (List.drop_eq_getElem_cons h)), ?_⟩
  rw [get_list s i hi, List.getD_eq_getElem?_getD, List.getElem?_eq_getElem h]; rfl
theorem token_ok (s : ByteArray) (i b : Nat) (w : World) (hA : At2 w b (.string s) (.int .i64 i)) (hi : i < s.size) (hs : s.size ≤ 281474976710656) (l : List UInt8) (hl : s.data.toList.drop i = l) (t : Tok) (n : Nat) (hn : nx Vh l = .ok t n) :
    Calls Tryz.prog 84 #[.pointer (some ⟨b, 0, none⟩)] w fun e w' => e = .returned (tokV (mov i t)) ∧ Kept b w w' ∧ At2 w' b (.string s) (.int .i64 (i + n : Nat)) := by
  obtain ⟨c, r, hcr, hc⟩ := token_kind hi hl
  rw [hcr] at hn
  simp only [nx] at hn
  by_cases h1 : ltr c = true
  · rw [if_pos h1] at hn
    split at hn
    · cases hn
    · rename_i h16
      injection hn with e1 e2
      subst e1 e2
      rw [← hcr] at h16 ⊢
      have : mov i ⟨1, 0, l.takeWhile wrd, 0, 0⟩ = ⟨1, i, l.takeWhile wrd, 0, 0⟩ := by unfold mov; simp
      rw [this]
      exact token_ret s i b w hA hi _ (Or.inl ⟨by rw [hc]; exact h1, rfl⟩) _ _ _ _ _ _ fun w1 h => word_ok s i b w1 _ h (by omega) hs (by rw [hl]) (by omega)
  · rw [if_neg h1] at hn
    have h1' : ltr c = false := by simpa using h1
    by_cases h2 : dgt c = true
    · rw [if_pos h2] at hn
      split at hn
      · rename_i hf
        split at hn
        · rename_i hv
          injection hn with e1 e2
          subst e1 e2
          rw [← hcr] at hf hv ⊢
          have : ∀ n d, mov i ⟨2, 0, [], n, d⟩ = ⟨2, i, [], n, d⟩ := by intro n d; unfold mov; simp
          rw [this]
          exact token_ret s i b w hA hi _ (Or.inr (Or.inl ⟨by rw [hc]; exact h1', by rw [hc]; exact h2, rfl⟩)) _ _ _ _ _ _ fun w1 h => number_ok s i b w1 _ h (by omega) hs (by rw [hl]) hf _ _ (by rw [← hv])
        · cases hn
      · cases hn
    · rw [if_neg h2] at hn
      have h2' : dgt c = false := by simpa using h2
      split at hn
      · cases hn
      · rename_i h0
        injection hn with e1 e2
        subst e1 e2
        rw [← hcr] at h0 ⊢
        have : mov i ⟨3, 0, l.take (sgn l), 0, 0⟩ = ⟨3, i, l.take (sgn l), 0, 0⟩ := by unfold mov; simp
        rw [this]
        exact token_ret s i b w hA hi _ (Or.inr (Or.inr ⟨by rw [hc]; exact h1', by rw [hc]; exact h2', rfl⟩)) _ _ _ _ _ _ fun w1 h => sign_ok s i b w1 l _ h (by omega) hs hl rfl (by omega)
theorem token_er (s : ByteArray) (i b : Nat) (w : World) (hA : At2 w b (.string s) (.int .i64 i)) (hi : i < s.size) (hs : s.size ≤ 281474976710656) (l : List UInt8) (hl : s.data.toList.drop i = l) (E : Int) (hn : nx Vh l = .er E) :
    Calls Tryz.prog 84 #[.pointer (some ⟨b, 0, none⟩)] w fun e w' => e = .panicked (failV E i) ∧ Kept b w w' := by
  obtain ⟨c, r, hcr, hc⟩ := token_kind hi hl
  rw [hcr] at hn
  simp only [nx] at hn
  by_cases h1 : ltr c = true
  · rw [if_pos h1] at hn
    split at hn
    · rename_i h16
      injection hn with e1
      subst e1
      rw [← hcr] at h16
      exact token_pan s i b w hA hi _ (Or.inl ⟨by rw [hc]; exact h1, rfl⟩) _ fun w1 h => word_er s i b w1 _ h (by omega) hs (by rw [hl]) h16
    · cases hn
  · rw [if_neg h1] at hn
    have h1' : ltr c = false := by simpa using h1
    by_cases h2 : dgt c = true
    · rw [if_pos h2] at hn
      split at hn
      · rename_i hf
        split at hn
        · cases hn
        · rename_i hv
          injection hn with e1
          subst e1
          rw [← hcr] at hf hv
          exact token_pan s i b w hA hi _ (Or.inr (Or.inl ⟨by rw [hc]; exact h1', by rw [hc]; exact h2, rfl⟩)) _ fun w1 h => number_er3 s i b w1 _ h (by omega) hs (by rw [hl]) hf _ _ _ rfl hv
      · rename_i hf
        injection hn with e1
        subst e1
        rw [← hcr] at hf
        exact token_pan s i b w hA hi _ (Or.inr (Or.inl ⟨by rw [hc]; exact h1', by rw [hc]; exact h2, rfl⟩)) _ fun w1 h => number_er8 s i b w1 _ h (by omega) hs (by rw [hl]) (by simpa using hf)
    · rw [if_neg h2] at hn
      have h2' : dgt c = false := by simpa using h2
      split at hn
      · rename_i h0
        injection hn with e1
        subst e1
        rw [← hcr] at h0
        exact token_pan s i b w hA hi _ (Or.inr (Or.inr ⟨by rw [hc]; exact h1', by rw [hc]; exact h2', rfl⟩)) _ fun w1 h => sign_er s i b w1 l h (by omega) hs hl h0 (by rw [hcr]; simp)
      · cases hn
end Go.Proofs.YtedbpjcglnkjmaaGreatDoor
namespace Go.Proofs.YtedbpjcglnkjmaaGreatDoor
open Go.RowKit Lx

theorem Kept.own {b B : Nat} {w u v : World} (h : Kept b w u) (k : RowKit.Below B u v) (hB : w.heap.size ≤ B) : Kept b w v :=
  ⟨k.os.trans h.os, k.tape.trans h.tape, k.output.trans h.output, Nat.le_trans h.size k.size, fun j hj hn => (k.block j (by omega)).trans (h.block j hj hn)⟩
theorem lx_skip {V : Nat → Int × Int × Int} (f i : Nat) (l : List UInt8) : lx V f i l = lx V f (i + gp false l) (l.drop (gp false l)) := by
  have hle := gp_le l false
  by_cases h : gp false l = l.length
  · rw [lx_end h, lx_end (by rw [List.drop_eq_nil_of_le (by omega)]; rfl)]
  · obtain ⟨d, _⟩ := gp_drop l false (by omega)
    cases f with
    | zero => simp only [lx, d, Nat.add_zero, List.length_drop]; rw [if_neg h, if_neg (by omega)]
    | succ f => simp only [lx, d, Nat.add_zero, Nat.zero_add, List.length_drop, List.drop_drop]; rw [if_neg h, if_neg (by omega)]
/-- What tokens leaves. -/
def Left (b : Nat) (w0 : World) (R : Res) (e : Ending) (w' : World) : Prop :=
  match R with
  | .ok ts => ∃ v, e = .returned v ∧ OwnT w' w0.heap.size v ts ∧ Kept b w0 w'
  | .er E a => e = .panicked (failV E a) ∧ Kept b w0 w'
theorem Left.ok {b : Nat} {w0 : World} {R : Res} {w' : World} {v : Value} {ts : List Tok} (h : R = .ok ts) (h1 : OwnT w' w0.heap.size v ts) (h2 : Kept b w0 w') : Left b w0 R (.returned v) w' := by subst h; exact ⟨v, rfl, h1, h2⟩
theorem Left.er {b : Nat} {w0 : World} {R : Res} {w' : World} {E : Int} {a : Nat} (h : R = .er E a) (h2 : Kept b w0 w') : Left b w0 R (.panicked (failV E a)) w' := by subst h; exact ⟨rfl, h2⟩
/-- How things stand in the loop. -/
def Run (b : Nat) (w0 : World) (s : ByteArray) (R : Res) (v : Value) (wr : World) (f j : Nat) (pre : List Tok) : Prop :=
  Kept b w0 wr ∧ At2 wr b (.string s) (.int .i64 j) ∧ OwnT wr w0.heap.size v pre ∧ pre.length + f = 2000 ∧ j ≤ s.size ∧ gp false (s.data.toList.drop j) = 0 ∧ (lx Vh f j (s.data.toList.drop j)).app pre = R
theorem own_len {w : World} {base : Nat} {v : Value} {l : List Tok} (h : OwnT w base v l) : ∃ q cap, v = .slice q l.length cap := by
  obtain ⟨_, h⟩ := h
  rcases h with ⟨rfl, h0⟩ | ⟨g, cap, cur, rfl, _⟩
  · exact ⟨none, 0, by rw [h0]⟩
  · exact ⟨_, cap, rfl⟩
set_option maxRecDepth 100000 in
set_option maxHeartbeats 3000000 in
theorem tokens_any (s : ByteArray) (b : Nat) (w : World) (hA : At2 w b (.string s) (.int .i64 0)) (hs : s.size ≤ 281474976710656) :
    Calls Tryz.prog 63 #[.pointer (some ⟨b, 0, none⟩)] w fun e w' => Left b w (lex Vh s.data.toList) e w' := by
  have hb := hA.lt
  have HA := Lib.hid hA
  obtain ⟨c0, c1, f0, f1⟩ := hA
  obtain ⟨R, hR⟩ : ∃ R, R = lex Vh s.data.toList := ⟨_, rfl⟩
  rw [← hR]
  by_cases h8 : 8000 < s.size
  · have HR : Hid (R = .er 2 0) := by show _ = _; rw [hR]; unfold lex; rw [if_pos (by rw [len_bytes]; exact h8)]
    have d1 : decide ((8000 : Int) < (s.size : Int)) = true := decide_eq_true (by omega)
    clear hR
    go_enter Tryz.func63, Tryz.ntmps63
    go_wp2_with fail
    have KF := Lib.hid (fail_any s 2 0 b w HA.out)
    refine KF.out.mono ?_
    rintro _ _ ⟨rfl, rfl⟩
    go_wp2_with fail
    exact bodyPost_panic rfl (Left.er HR.out (Kept.refl _ _))
  · have d1 : decide ((8000 : Int) < (s.size : Int)) = false := decide_eq_false (by omega)
    have d2 : ¬ (8000 : Int) < (s.size : Int) := by omega
    have HR : Hid (lx Vh 2000 0 s.data.toList = R) := by show _ = _; rw [hR]; unfold lex; rw [if_neg (by rw [len_bytes]; exact h8)]
    clear hR
    go_enter Tryz.func63, Tryz.ntmps63
    go_wp2_with fail
    have KS := Lib.hid (skip_any s 0 b w HA.out (by omega) hs)
    refine KS.out.mono ?_
    rintro _ w1 ⟨rfl, k1, a1⟩
    have H1 : Hid (Run b w s R (.slice none 0 0) w1 2000 (0 + gp false (s.data.toList.drop 0)) []) := by
      have hle := gp_le s.data.toList false
      rw [len_bytes] at hle
      refine ⟨k1, a1, OwnT.empty _ _, rfl, by simpa using hle, ?_, ?_⟩
      · simp only [List.drop_zero, Nat.zero_add]
        by_cases h : gp false s.data.toList = s.data.toList.length
        · rw [List.drop_eq_nil_of_le (by omega)]; rfl
        · exact (gp_drop _ _ (by rw [len_bytes] at h ⊢; omega)).1
      · rw [app_nil]
        simp only [List.drop_zero, Nat.zero_add]
        rw [← HR.out, lx_skip 2000 0 s.data.toList, Nat.zero_add]
    clear k1 a1 KS HR HA c0 c1 f0 f1
    generalize 0 + gp false (s.data.toList.drop 0) = j0 at H1
    go_wp2_with fail
    go_loopg [3] 2000 (fun g v wr => ∃ (f j : Nat) (pre : List Tok), f ≤ g ∧ Hid (Run b w s R v wr f j pre))
    case atStart => exact ⟨2000, j0, [], by omega, H1⟩
    case round =>
      clear H1
      obtain ⟨f, j, pre, hfg, H⟩ := hrel
      obtain ⟨q, cap, hv⟩ := own_len H.out.2.2.1
      subst hv
      have c0 := H.out.2.1.c0
      have c1 := H.out.2.1.c1
      have hpl := H.out.2.2.2.1
      by_cases hj : j < s.size
      · have hjz : (j : Int) < (s.size : Int) := by omega
        have hjl : ¬ 0 = (s.data.toList.drop j).length := by rw [List.length_drop, len_bytes]; omega
        cases f with
        | zero =>
          have HE : Hid (R = .er 2 j) := by
            have := H.out.2.2.2.2.2.2
            simp only [lx, H.out.2.2.2.2.2.1] at this
            rw [if_neg hjl] at this
            exact this.symm
          have e1 : ((pre.length : Int) == 2000) = true := by simp; omega
          clear hjl
          go_wp2_with fail
          go_quiet (fail)
          go_wp2_with fail
          have KF := Lib.hid (fail_any s 2 j b _ (H.out.2.1.bel (below_drewN (Below.refl _ _) nq)))
          refine KF.out.mono ?_
          rintro _ _ ⟨rfl, rfl⟩
          go_wp2_with fail
          exact bodyPost_panic rfl (Left.er HE.out (H.out.1.bel (below_drewN (Below.refl _ _) nq)))
        | succ f =>
          have e1 : ((pre.length : Int) == 2000) = false := by simp; omega
          cases hn : nx Vh (s.data.toList.drop j) with
          | er E =>
            have HE : Hid (R = .er E j) := by
              have := H.out.2.2.2.2.2.2
              simp only [lx, H.out.2.2.2.2.2.1] at this
              rw [if_neg hjl, List.drop_zero, hn] at this
              exact this.symm
            have HN := Lib.hid hn
            clear hjl hn
            go_wp2_with fail
            go_quiet (fail)
            go_wp2_with fail
            have KF := Lib.hid (token_er s j b _ (H.out.2.1.bel (below_drewN (Below.refl _ _) nq)) hj hs _ rfl E HN.out)
            refine KF.out.mono ?_
            rintro _ w2 ⟨rfl, k2⟩
            go_wp2_with fail
            exact bodyPost_panic rfl (Left.er HE.out ((H.out.1.bel (below_drewN (Below.refl _ _) nq)).trans k2))
          | ok t n =>
            have HE : Hid (((lx Vh f (j + n) (s.data.toList.drop (j + n))).app [mov (j : Nat) t]).app pre = R) := by
              have := H.out.2.2.2.2.2.2
              simp only [lx, H.out.2.2.2.2.2.1] at this
              rw [if_neg hjl, List.drop_zero, hn] at this
              simp only [Nat.zero_add, Nat.add_zero, List.drop_drop] at this
              exact this
            have HN := Lib.hid hn
            have hjn : j + n ≤ s.size := by have := (nx_pos hn).2.1; rw [List.length_drop, len_bytes] at this; omega
            clear hjl hn
            go_wp2_with fail
            go_quiet (fail)
            go_wp2_with fail
            have KT := Lib.hid (token_ok s j b _ (H.out.2.1.bel (below_drewN (Below.refl _ _) nq)) hj hs _ rfl t n HN.out)
            refine KT.out.mono ?_
            rintro _ w2 ⟨rfl, k2, a2⟩
            have K2 := Lib.hid ((H.out.1.bel (below_drewN (Below.refl _ _) nq)).trans k2)
            have A2 := Lib.hid a2
            have O2 := Lib.hid ((H.out.2.2.1.below (below_drewN (Below.refl _ _) nq)).kept k2 hb)
            clear k2 a2 KT
            generalize mov (j : Int) t = tt at HE ⊢
            unfold tokV
            have hw := K2.out.size
            go_wp2_with (refine list_appT (by rfl) (.tmp 31) (.tmp 34) (by rfl) w.heap.size (.slice q pre.length cap) pre (by rfl) (O2.out.alloc _) w2.heap.size 1 tt (by rfl) (OneT.new w2 tt _) (by omega) (by simp; omega) ?_; intro v3 w3 h3 g3)
            have B3 := Lib.hid (((Below.refl w.heap.size w2).alloc hw _).trans ((O2.out.alloc _).grown g3 (by simp; omega)))
            have K3 := Lib.hid (K2.out.own B3.out (Nat.le_refl _))
            have A3 := Lib.hid (A2.out.below B3.out hb)
            have O3 := Lib.hid h3
            clear h3 g3 B3 K2 A2 O2 c0 c1
            have KS := Lib.hid (skip_any s (j + n) b w3 A3.out hjn hs)
            refine KS.out.mono ?_
            rintro _ w4 ⟨rfl, k4, a4⟩
            have H4 : Hid (Run b w s R v3 w4 f (j + n + gp false (s.data.toList.drop (j + n))) (pre ++ [tt])) := by
              have hle := gp_le (s.data.toList.drop (j + n)) false
              rw [List.length_drop, len_bytes] at hle
              have hd : s.data.toList.drop (j + n + gp false (s.data.toList.drop (j + n))) = (s.data.toList.drop (j + n)).drop (gp false (s.data.toList.drop (j + n))) := (List.drop_drop).symm
              refine ⟨K3.out.trans k4, a4, O3.out.kept k4 hb, by rw [List.length_append, List.length_singleton]; omega, by omega, ?_, ?_⟩
              · rw [hd]
                by_cases h : gp false (s.data.toList.drop (j + n)) = (s.data.toList.drop (j + n)).length
                · rw [List.drop_eq_nil_of_le (by omega)]; rfl
                · exact (gp_drop _ _ (by rw [List.length_drop, len_bytes] at h ⊢; omega)).1
              · rw [hd, ← lx_skip, ← app_app]; exact HE.out
            clear k4 a4 K3 A3 O3 KS HE
            go_wp2_with fail
            go_roundg f
            case measure => omega
            case rel => exact ⟨f, _, _, Nat.le_refl _, H4⟩
      · have hjz : ¬ (j : Int) < (s.size : Int) := by omega
        have HE : Hid (R = .ok pre) := by
          have := H.out.2.2.2.2.2.2
          rw [List.drop_eq_nil_of_le (by rw [len_bytes]; omega), lx_end rfl] at this
          simp only [Res.app, List.append_nil] at this
          exact this.symm
        go_wp2_with fail
        go_quiet (fail)
        go_wp2_with fail
        go_ret
        exact Left.ok HE.out (H.out.2.2.1.below (below_drewN (Below.refl _ _) _)) (H.out.1.bel (below_drewN (Below.refl _ _) _))
end Go.Proofs.YtedbpjcglnkjmaaGreatDoor
