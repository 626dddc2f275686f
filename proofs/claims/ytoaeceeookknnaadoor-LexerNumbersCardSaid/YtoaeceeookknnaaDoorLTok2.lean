/-
  Contracts of word with an error, sign, number.
-/
import Derived.Test.YtoaeceeookknnaaDoorLTok
namespace Go.Proofs.YtoaeceeookknnaaDoor
open Go.RowKit Lx

theorem digs_all {l : List UInt8} {k : Nat} (h : digs l k = true) : l ≠ [] ∧ l.length ≤ k ∧ allD l = true := by
  unfold digs at h
  simp only [Bool.and_eq_true, decide_eq_true_eq] at h
  exact ⟨h.1.1, h.1.2, h.2⟩
theorem hun_text {x : List UInt8} (hf : frm x = true) : (whole x ++ ((behind x).tail ++ [48, 48]).take 2).length ≤ 11 ∧ whole x ++ ((behind x).tail ++ [48, 48]).take 2 ≠ [] ∧ allD (whole x ++ ((behind x).tail ++ [48, 48]).take 2) = true := by
  unfold frm at hf
  rw [Bool.and_eq_true, Bool.or_eq_true, decide_eq_true_eq] at hf
  obtain ⟨h1, h2⟩ := hf
  obtain ⟨a1, a2, a3⟩ := digs_all h1
  refine ⟨by rw [List.length_append, List.length_take]; omega, by simp [a1], ?_⟩
  unfold allD at a3 ⊢
  rw [List.all_append, a3, Bool.true_and]
  rw [List.all_eq_true]
  intro c hc
  have hc := List.mem_of_mem_take hc
  rw [List.mem_append] at hc
  rcases hc with hc | hc
  · rcases h2 with h2 | h2
    · rw [h2] at hc; simp at hc
    · have := (digs_all h2).2.2
      unfold allD at this
      exact List.all_eq_true.1 this c hc
  · simp at hc; subst hc; rfl
theorem val_lt : ∀ (l : List UInt8) (a : Nat), allD l = true → l.foldl (fun a c => a * 10 + (c.toNat - 48)) a < (a + 1) * 10 ^ l.length
  | [], a, _ => by simp
  | c :: l, a, h => by
    unfold allD at h
    rw [List.all_cons, Bool.and_eq_true] at h
    have hd : 48 ≤ c.toNat ∧ c.toNat ≤ 57 := by have := h.1; unfold dgt at this; simpa using this
    rw [List.foldl_cons, List.length_cons, Nat.pow_succ]
    have := val_lt l (a * 10 + (c.toNat - 48)) h.2
    have h2 : (a * 10 + (c.toNat - 48) + 1) * 10 ^ l.length ≤ ((a + 1) * 10) * 10 ^ l.length := Nat.mul_le_mul_right _ (by omega)
    have h3 : (a + 1) * 10 * 10 ^ l.length = (a + 1) * (10 ^ l.length * 10) := by rw [Nat.mul_assoc, Nat.mul_comm 10]
    omega
theorem hun_lt {x : List UInt8} (hf : frm x = true) : hun x < 100000000000 := by
  obtain ⟨t1, t2, t3⟩ := hun_text hf
  have := val_lt _ 0 t3
  unfold hun valD
  have h2 : 10 ^ (whole x ++ ((behind x).tail ++ [48, 48]).take 2).length ≤ 10 ^ 11 := Nat.pow_le_pow_right (by decide) t1
  omega
/-- What a number of hundredths is, as layer 1 has it. -/
def Vh (h : Nat) : Int × Int × Int := mk (h : Int) 100

set_option maxRecDepth 100000 in
set_option maxHeartbeats 800000 in
theorem word_er (s : ByteArray) (i b : Nat) (w : World) (x : List UInt8) (hA : At2 w b (.string s) (.int .i64 i)) (hi : i ≤ s.size) (hs : s.size ≤ 281474976710656) (hx : (s.data.toList.drop i).takeWhile wrd = x) (hl : 16 < x.length) :
    Calls Tryd.prog 38 #[.pointer (some ⟨b, 0, none⟩)] w fun e w' => e = .panicked (failV 2 i) ∧ Kept b w w' := by
  have hb := hA.lt
  have hz := bs_size x
  have d1 : decide ((16 : Int) < ((bs x).size : Int)) = true := by rw [hz]; simp; omega
  have d2 : decide (16 < (bs x).size) = true := by rw [hz]; simp; omega
  have HA := Lib.hid hA
  have HX := Lib.hid hx
  have H1 := Lib.hid (St.start HA.out)
  clear hA hx hz
  go_enter Tryd.func38, Tryd.ntmps38
  go_wp2_with fail
  change Calls Tryd.prog 34 #[.pointer (some ⟨b, 0, none⟩), .func (.func 45) #[] #[]] (w.alloc zBox) fun e w' => _
  generalize w.alloc zBox = w1 at *
  have KR := Lib.hid (row_word H1.out.2.1 hi hs says_word HX.out)
  refine (KR.out).mono ?_
  rintro _ w2 ⟨rfl, h2⟩
  have H2 := Lib.hid (St.bel hb H1.out h2)
  clear h2 H1
  clear KR
  go_wp2_with fail
  have KF := Lib.hid (fail_any s 2 i b _ H2.out.2.1)
  refine KF.out.mono ?_
  rintro _ _ ⟨rfl, rfl⟩
  go_wp2_with fail
  exact bodyPost_panic rfl ⟨rfl, H2.out.1⟩

theorem row_sign {s : ByteArray} {i : Nat} {x : List UInt8} (hx : s.data.toList.drop i = x) : s.extract i s.size = bs x := by
  subst hx; apply ByteArray.ext; apply Array.ext'; rw [Lib.extract_to_end]; simp [bs]
set_option maxRecDepth 100000 in
set_option maxHeartbeats 800000 in
theorem sign_ok (s : ByteArray) (i b : Nat) (w : World) (x : List UInt8) (k : Nat) (hA : At2 w b (.string s) (.int .i64 i)) (hi : i ≤ s.size) (hs : s.size ≤ 281474976710656) (hx : s.data.toList.drop i = x) (hk : sgn x = k) (h0 : 0 < k) :
    Calls Tryd.prog 36 #[.pointer (some ⟨b, 0, none⟩)] w fun e w' => e = .returned (tokV ⟨3, i, x.take k, 0, 0⟩) ∧ Kept b w w' ∧ At2 w' b (.string s) (.int .i64 (i + k : Nat)) := by
  have hb := hA.lt
  have hxl : x.length = s.size - i := by rw [← hx, List.length_drop, len_bytes]
  have hkl : k ≤ x.length := by rw [← hk]; exact sgn_le x
  obtain ⟨X, hX⟩ : ∃ X, X = bs x := ⟨_, rfl⟩
  obtain ⟨T, hT⟩ : ∃ T, T = bs (x.take k) := ⟨_, rfl⟩
  have e1 : s.extract i s.size = X := by rw [hX]; exact row_sign (i := i) hx
  have e2 : X.extract 0 k = T := by rw [hX, hT]; exact bs_take x k
  have HZ : Hid (T.size = k) := by show _ = _; rw [hT, bs_size, List.length_take]; omega
  have hXs : X.size = x.length := by rw [hX, bs_size]
  have KS : Hid (∀ w : World, Calls Tryd.prog 42 #[.string X] w fun e w' => e = .returned (.int .i64 (k : Nat)) ∧ w' = w) := fun w => by
    have hd : X.data.toList = x := by rw [hX]; exact bs_data x
    cases hxc : x with
    | nil => rw [hxc] at hkl; simp at hkl; omega
    | cons c r =>
      have := signLength_any X c r w (by rw [hd, hxc]) (by omega)
      rw [← hxc, hk] at this
      exact this
  have KC := Lib.hid (fun w => clone_any T w (by rw [HZ.out]; omega))
  have d1 : (T.toList == []) = false := by
    rw [hT, bs_list]
    cases hxc : x.take k with
    | nil => have := congrArg List.length hxc; rw [List.length_take, List.length_nil] at this; omega
    | cons c r => rfl
  have d3 : T.toList.isEmpty = false := by
    rw [hT, bs_list]
    cases hxc : x.take k with
    | nil => have := congrArg List.length hxc; rw [List.length_take, List.length_nil] at this; omega
    | cons c r => rfl
  have d2 : (i : Int) ≤ (s.size : Int) := by omega
  have d4 : (k : Int) ≤ (X.size : Int) := by omega
  have HT := Lib.hid hT
  have H1 := Lib.hid (St.start hA)
  have hkz : i + k ≤ s.size := by omega
  have hkb : k ≤ 281474976710656 := by omega
  obtain ⟨c0, c1, _, _⟩ := hA
  clear hX hT hx hxl hk hXs hkl
  show Calls Tryd.prog 36 #[.pointer (some ⟨b, 0, none⟩)] w fun e w' => e = .returned (.agg #[.int .i64 3, .int .i64 i, .string (bs (x.take k)), .int .i64 0, .int .i64 0]) ∧ _
  rw [← HT.out]
  go_enter Tryd.func36, Tryd.ntmps36
  go_wp2_with fail
  change Code.wp _ _ _ _ (w.alloc zBox)
  have b1 := H1.out.2.1.c0
  have b2 := H1.out.2.1.c1
  generalize w.alloc zBox = w1 at *
  go_quiet (fail)
  have H2 := Lib.hid (St.bel hb H1.out (below_drewN (Below.refl _ _) nq))
  clear H1 b1 b2 c0 c1
  generalize w1.drewN nq = w2 at *
  go_wp2_with fail
  refine (KS.out _).mono ?_
  rintro _ _ ⟨rfl, rfl⟩
  go_wp2_with fail
  refine (KC.out _).mono ?_
  rintro _ w3 ⟨rfl, h3⟩
  have H3 := Lib.hid (St.bel hb H2.out h3)
  clear h3 H2
  go_wp2_with fail
  have KQ := Lib.hid (pass_any s T 3 0 0 0 T i b _ H3.out.2.1 hi (by rw [HZ.out]; omega) hs)
  rw [HZ.out] at KQ
  refine KQ.out.mono ?_
  rintro _ w4 ⟨rfl, h4, h5⟩
  have H4 := Lib.hid (St.kept hb H3.out h4 h5)
  clear h4 h5 H3 KQ
  obtain ⟨⟨c0, c1, c2, c3, c4⟩, f0, f1, f2, f3, f4⟩ := H4.out.2.2
  go_wp2_with fail
  exact bodyPost_ret (v := .agg #[.int .i64 3, .int .i64 i, .string T, .int .i64 0, .int .i64 0]) (by simp [results, Tryd.results36, go_sem, c0, c1, c2, c3, c4]) rfl ⟨rfl, (H4.out.fin hb _ _ _ _ _).1, (H4.out.fin hb _ _ _ _ _).2⟩

set_option maxRecDepth 100000 in
set_option maxHeartbeats 800000 in
theorem sign_er (s : ByteArray) (i b : Nat) (w : World) (x : List UInt8) (hA : At2 w b (.string s) (.int .i64 i)) (hi : i ≤ s.size) (hs : s.size ≤ 281474976710656) (hx : s.data.toList.drop i = x) (hk : sgn x = 0) (hne : x ≠ []) :
    Calls Tryd.prog 36 #[.pointer (some ⟨b, 0, none⟩)] w fun e w' => e = .panicked (failV 10 i) ∧ Kept b w w' := by
  have hb := hA.lt
  have hxl : x.length = s.size - i := by rw [← hx, List.length_drop, len_bytes]
  obtain ⟨X, hX⟩ : ∃ X, X = bs x := ⟨_, rfl⟩
  have e1 : s.extract i s.size = X := by rw [hX]; exact row_sign (i := i) hx
  have hXs : X.size = x.length := by rw [hX, bs_size]
  have e2 : X.extract 0 0 = ⟨#[]⟩ := by apply ByteArray.ext; apply Array.ext'; simp
  have KS : Hid (∀ w : World, Calls Tryd.prog 42 #[.string X] w fun e w' => e = .returned (.int .i64 0) ∧ w' = w) := fun w => by
    have hd : X.data.toList = x := by rw [hX]; exact bs_data x
    cases hxc : x with
    | nil => exact absurd hxc hne
    | cons c r =>
      have := signLength_any X c r w (by rw [hd, hxc]) (by omega)
      rw [← hxc, hk] at this
      exact this
  have d2 : (i : Int) ≤ (s.size : Int) := by omega
  have H1 := Lib.hid (St.start hA)
  obtain ⟨c0, c1, _, _⟩ := hA
  clear hX hx hxl hk hXs hne
  go_enter Tryd.func36, Tryd.ntmps36
  go_wp2_with fail
  change Code.wp _ _ _ _ (w.alloc zBox)
  have b1 := H1.out.2.1.c0
  have b2 := H1.out.2.1.c1
  generalize w.alloc zBox = w1 at *
  go_quiet (fail)
  have H2 := Lib.hid (St.bel hb H1.out (below_drewN (Below.refl _ _) nq))
  clear H1 b1 b2 c0 c1
  generalize w1.drewN nq = w2 at *
  go_wp2_with fail
  refine (KS.out _).mono ?_
  rintro _ _ ⟨rfl, rfl⟩
  go_wp2_with fail
  have KF := Lib.hid (fail_any s 10 i b _ H2.out.2.1)
  refine KF.out.mono ?_
  rintro _ _ ⟨rfl, rfl⟩
  go_wp2_with fail
  exact bodyPost_panic rfl ⟨rfl, H2.out.1⟩

set_option maxRecDepth 100000 in
set_option maxHeartbeats 1600000 in
theorem number_er8 (s : ByteArray) (i b : Nat) (w : World) (x : List UInt8) (hA : At2 w b (.string s) (.int .i64 i)) (hi : i ≤ s.size) (hs : s.size ≤ 281474976710656) (hx : (s.data.toList.drop i).takeWhile nmb = x) (hf : frm x = false) :
    Calls Tryd.prog 40 #[.pointer (some ⟨b, 0, none⟩)] w fun e w' => e = .panicked (failV 8 i) ∧ Kept b w w' := by
  have hb := hA.lt
  have hxs : i + x.length ≤ s.size := by
    have := tw_pre (p := nmb) (s.data.toList.drop i)
    rw [hx, List.length_drop, len_bytes] at this; omega
  have HZ : Hid ((bs x).size = x.length) := bs_size x
  have hpl := congrArg List.length (cut_parts x)
  rw [List.length_append] at hpl
  have htl : (behind x).tail.length ≤ (behind x).length := by rw [List.length_tail]; omega
  have KC := Lib.hid (fun w => cut_any x w (by omega))
  have KD : Hid (∀ w : World, Calls Tryd.prog 48 #[.string (bs (whole x)), .int .i64 9] w fun e w' => e = .returned (.bool (digs (whole x) 9)) ∧ w' = w) := fun w => isDigits_any (whole x) 9 w (by omega)
  have KD2 : Hid (∀ w : World, Calls Tryd.prog 48 #[.string (bs (behind x).tail), .int .i64 2] w fun e w' => e = .returned (.bool (digs (behind x).tail 2)) ∧ w' = w) := fun w => isDigits_any (behind x).tail 2 w (by omega)
  have HA := Lib.hid hA
  have HX := Lib.hid hx
  have H1 := Lib.hid (St.start HA.out)
  have hf' : digs (whole x) 9 = false ∨ (digs (whole x) 9 = true ∧ behind x ≠ [] ∧ digs (behind x).tail 2 = false) := by
    unfold frm at hf
    cases h1 : digs (whole x) 9 with
    | false => left; rfl
    | true =>
      right
      rw [h1, Bool.true_and, Bool.or_eq_false_iff, decide_eq_false_iff_not] at hf
      exact ⟨rfl, hf.1, hf.2⟩
  clear hf hA hx hpl htl
  rcases hf' with h1 | ⟨h1, h2, h3⟩
  · rw [h1] at KD
    generalize whole x = A at *
    generalize (behind x).tail = B at *
    generalize decide (behind x ≠ []) = q at *
    cases q
    · go_enter Tryd.func40, Tryd.ntmps40
      go_wp2_with fail
      change Calls Tryd.prog 34 #[.pointer (some ⟨b, 0, none⟩), .func (.func 46) #[] #[]] (w.alloc zBox) fun e w' => _
      generalize w.alloc zBox = w1 at *
      have KR := Lib.hid (row_word H1.out.2.1 hi hs says_number HX.out)
      refine (KR.out).mono ?_
      rintro _ w2 ⟨rfl, h2⟩
      have H2 := Lib.hid (St.bel hb H1.out h2)
      clear h2 H1
      clear KR
      go_wp2_with fail
      refine (KC.out _).mono ?_
      rintro _ w3 ⟨rfl, h3⟩
      have H3 := Lib.hid (St.bel hb H2.out h3)
      clear h3 H2
      clear KC
      go_wp2_with ((with_reducible refine (KD.out _).mono ?_); rintro _ _ ⟨rfl, rfl⟩)
      have KF := Lib.hid (fail_any s 8 i b _ H3.out.2.1)
      refine KF.out.mono ?_
      rintro _ _ ⟨rfl, rfl⟩
      go_wp2_with fail
      exact bodyPost_panic rfl ⟨rfl, H3.out.1⟩
    · go_enter Tryd.func40, Tryd.ntmps40
      go_wp2_with fail
      change Calls Tryd.prog 34 #[.pointer (some ⟨b, 0, none⟩), .func (.func 46) #[] #[]] (w.alloc zBox) fun e w' => _
      generalize w.alloc zBox = w1 at *
      have KR := Lib.hid (row_word H1.out.2.1 hi hs says_number HX.out)
      refine (KR.out).mono ?_
      rintro _ w2 ⟨rfl, h2⟩
      have H2 := Lib.hid (St.bel hb H1.out h2)
      clear h2 H1
      clear KR
      go_wp2_with fail
      refine (KC.out _).mono ?_
      rintro _ w3 ⟨rfl, h3⟩
      have H3 := Lib.hid (St.bel hb H2.out h3)
      clear h3 H2
      clear KC
      go_wp2_with ((with_reducible refine (KD.out _).mono ?_); rintro _ _ ⟨rfl, rfl⟩)
      have KF := Lib.hid (fail_any s 8 i b _ H3.out.2.1)
      refine KF.out.mono ?_
      rintro _ _ ⟨rfl, rfl⟩
      go_wp2_with fail
      exact bodyPost_panic rfl ⟨rfl, H3.out.1⟩

  · rw [h1] at KD
    rw [h3] at KD2
    rw [decide_eq_true h2] at KC
    generalize whole x = A at *
    generalize (behind x).tail = B at *
    go_enter Tryd.func40, Tryd.ntmps40
    go_wp2_with fail
    change Calls Tryd.prog 34 #[.pointer (some ⟨b, 0, none⟩), .func (.func 46) #[] #[]] (w.alloc zBox) fun e w' => _
    generalize w.alloc zBox = w1 at *
    have KR := Lib.hid (row_word H1.out.2.1 hi hs says_number HX.out)
    refine (KR.out).mono ?_
    rintro _ w2 ⟨rfl, h2⟩
    have H2 := Lib.hid (St.bel hb H1.out h2)
    clear h2 H1
    clear KR
    go_wp2_with fail
    refine (KC.out _).mono ?_
    rintro _ w3 ⟨rfl, h3⟩
    have H3 := Lib.hid (St.bel hb H2.out h3)
    clear h3 H2
    clear KC
    go_wp2_with (first | ((with_reducible refine (KD.out _).mono ?_); rintro _ _ ⟨rfl, rfl⟩) | ((with_reducible refine (KD2.out _).mono ?_); rintro _ _ ⟨rfl, rfl⟩))
    have KF := Lib.hid (fail_any s 8 i b _ H3.out.2.1)
    refine KF.out.mono ?_
    rintro _ _ ⟨rfl, rfl⟩
    go_wp2_with fail
    exact bodyPost_panic rfl ⟨rfl, H3.out.1⟩

set_option maxRecDepth 100000 in
set_option maxHeartbeats 1600000 in
theorem number_ok (s : ByteArray) (i b : Nat) (w : World) (x : List UInt8) (hA : At2 w b (.string s) (.int .i64 i)) (hi : i ≤ s.size) (hs : s.size ≤ 281474976710656) (hx : (s.data.toList.drop i).takeWhile nmb = x) (hf : frm x = true) (n d : Int) (hv : Vh (hun x) = (n, d, 0)) :
    Calls Tryd.prog 40 #[.pointer (some ⟨b, 0, none⟩)] w fun e w' => e = .returned (tokV ⟨2, i, [], n, d⟩) ∧ Kept b w w' ∧ At2 w' b (.string s) (.int .i64 (i + x.length : Nat)) := by
  have hb := hA.lt
  have hxs : i + x.length ≤ s.size := by
    have := tw_pre (p := nmb) (s.data.toList.drop i)
    rw [hx, List.length_drop, len_bytes] at this; omega
  have HZ : Hid ((bs x).size = x.length) := bs_size x
  have hpl := congrArg List.length (cut_parts x)
  rw [List.length_append] at hpl
  have htl : (behind x).tail.length ≤ (behind x).length := by rw [List.length_tail]; omega
  have KC := Lib.hid (fun w => cut_any x w (by omega))
  have KD : Hid (∀ w : World, Calls Tryd.prog 48 #[.string (bs (whole x)), .int .i64 9] w fun e w' => e = .returned (.bool (digs (whole x) 9)) ∧ w' = w) := fun w => isDigits_any (whole x) 9 w (by omega)
  have KD2 : Hid (∀ w : World, Calls Tryd.prog 48 #[.string (bs (behind x).tail), .int .i64 2] w fun e w' => e = .returned (.bool (digs (behind x).tail 2)) ∧ w' = w) := fun w => isDigits_any (behind x).tail 2 w (by omega)
  have HA := Lib.hid hA
  have HX := Lib.hid hx
  have H1 := Lib.hid (St.start HA.out)
  show Calls Tryd.prog 40 #[.pointer (some ⟨b, 0, none⟩)] w fun e w' => e = .returned (.agg #[.int .i64 2, .int .i64 i, .string ⟨#[]⟩, .int .i64 n, .int .i64 d]) ∧ _
  have hf' : digs (whole x) 9 = true ∧ (behind x = [] ∨ (behind x ≠ [] ∧ digs (behind x).tail 2 = true)) := by
    unfold frm at hf
    rw [Bool.and_eq_true, Bool.or_eq_true, decide_eq_true_eq] at hf
    refine ⟨hf.1, ?_⟩
    by_cases h : behind x = []
    · exact Or.inl h
    · exact Or.inr ⟨h, hf.2.resolve_left h⟩
  obtain ⟨t1, t2, t3⟩ := hun_text hf
  have KA : Hid (∀ w : World, Calls Tryd.prog 49 #[.string (bs (whole x ++ ((behind x).tail ++ [48, 48]).take 2))] w fun e w' => e = .returned (.tuple #[.int .i64 (hun x : Nat), .nilIface]) ∧ RowKit.Below w.heap.size w w') := fun w => atoi_any _ w (by omega) t2 t3
  have hhl := hun_lt hf
  have KM : Hid (∀ w : World, Calls Tryd.prog 50 #[.int .i64 (hun x : Nat), .int .i64 100] w fun e w' => e = .returned (.tuple #[.agg #[.int .i64 n, .int .i64 d], .int .i64 0]) ∧ RowKit.Below w.heap.size w w') := fun w => by
    have := make_any (hun x : Nat) 100 w (by omega) (by omega) (by omega) (by omega)
    rw [show mk (hun x : Nat) 100 = (n, d, 0) from hv] at this
    exact this
  have u1 : (bs (behind x).tail ++ ⟨#[48, 48]⟩).extract 0 2 = bs (((behind x).tail ++ [48, 48]).take 2) := by
    have : (⟨#[48, 48]⟩ : ByteArray) = bs [48, 48] := rfl
    rw [this, bs_app, bs_take]
  have u2 : bs (whole x) ++ bs (((behind x).tail ++ [48, 48]).take 2) = bs (whole x ++ ((behind x).tail ++ [48, 48]).take 2) := bs_app _ _
  have u3 : (2 : Int) ≤ ((bs (behind x).tail ++ ⟨#[48, 48]⟩).size : Int) := by
    have : (⟨#[48, 48]⟩ : ByteArray) = bs [48, 48] := rfl
    rw [this, bs_app, bs_size]; simp; omega
  have z1 : (bs (whole x)).size ≤ 9 := by rw [bs_size]; exact (digs_all hf'.1).2.1
  have z2 : (bs (behind x).tail).size ≤ 2 := by
    rw [bs_size]
    rcases hf'.2 with h | ⟨_, h⟩
    · rw [h]; simp
    · exact (digs_all h).2.1
  have z3 : (bs (((behind x).tail ++ [48, 48]).take 2)).size ≤ 2 := by rw [bs_size, List.length_take]; omega
  clear hf hA hx hpl htl t1 t2 t3 hhl hv
  obtain ⟨h1, h2⟩ := hf'
  rw [h1] at KD
  have HB : Hid ((decide (behind x ≠ []) = false) ∨ (decide (behind x ≠ []) = true ∧ digs (behind x).tail 2 = true)) := by
    rcases h2 with h | ⟨h, h3⟩
    · exact Or.inl (decide_eq_false (by simpa using h))
    · exact Or.inr ⟨decide_eq_true h, h3⟩
  clear h1 h2
  generalize hun x = h at *
  generalize bs (whole x ++ ((behind x).tail ++ [48, 48]).take 2) = T at *
  generalize bs (((behind x).tail ++ [48, 48]).take 2) = C at *
  generalize bs (whole x) = A at *
  generalize digs (behind x).tail 2 = q2 at *
  generalize bs (behind x).tail = B at *
  generalize decide (behind x ≠ []) = q at *
  rcases HB.out with rfl | ⟨rfl, rfl⟩
  · go_enter Tryd.func40, Tryd.ntmps40
    go_wp2_with fail
    change Calls Tryd.prog 34 #[.pointer (some ⟨b, 0, none⟩), .func (.func 46) #[] #[]] (w.alloc zBox) fun e w' => _
    generalize w.alloc zBox = w1 at *
    have KR := Lib.hid (row_word H1.out.2.1 hi hs says_number HX.out)
    refine (KR.out).mono ?_
    rintro _ w2 ⟨rfl, h2⟩
    have H2 := Lib.hid (St.bel hb H1.out h2)
    clear h2 H1
    clear KR
    go_wp2_with fail
    refine (KC.out _).mono ?_
    rintro _ w3 ⟨rfl, h3⟩
    have H3 := Lib.hid (St.bel hb H2.out h3)
    clear h3 H2
    clear KC
    go_wp2_with (first | ((with_reducible refine (KD.out _).mono ?_); rintro _ _ ⟨rfl, rfl⟩) | ((with_reducible refine (KD2.out _).mono ?_); rintro _ _ ⟨rfl, rfl⟩))
    refine (KA.out _).mono ?_
    rintro _ w4 ⟨rfl, h4⟩
    have H4 := Lib.hid (St.bel hb H3.out h4)
    clear h4 H3
    go_wp2_with fail
    refine (KM.out _).mono ?_
    rintro _ w5 ⟨rfl, h5⟩
    have H5 := Lib.hid (St.bel hb H4.out h5)
    clear h5 H4
    go_wp2_with fail
    have H6 := Lib.hid (St.bel hb H5.out ((Below.refl _ _).alloc (Nat.le_refl _) (.cells #[.int .i64 n, .int .i64 d] 30)))
    have KQ := Lib.hid (pass_any s (bs x) 2 0 n d ⟨#[]⟩ i b _ H6.out.2.1 hi (by rw [HZ.out]; omega) hs)
    rw [HZ.out] at KQ
    refine KQ.out.mono ?_
    rintro _ w7 ⟨rfl, h4, h5⟩
    have H7 := Lib.hid (St.kept hb H6.out h4 h5)
    clear h4 h5 H6 KQ
    obtain ⟨⟨c0, c1, c2, c3, c4⟩, f0, f1, f2, f3, f4⟩ := H7.out.2.2
    go_wp2_with fail
    exact bodyPost_ret (v := .agg #[.int .i64 2, .int .i64 i, .string ⟨#[]⟩, .int .i64 n, .int .i64 d]) (by simp [results, Tryd.results40, go_sem, c0, c1, c2, c3, c4]) rfl ⟨rfl, (H7.out.fin hb _ _ _ _ _).1, (H7.out.fin hb _ _ _ _ _).2⟩
  · go_enter Tryd.func40, Tryd.ntmps40
    go_wp2_with fail
    change Calls Tryd.prog 34 #[.pointer (some ⟨b, 0, none⟩), .func (.func 46) #[] #[]] (w.alloc zBox) fun e w' => _
    generalize w.alloc zBox = w1 at *
    have KR := Lib.hid (row_word H1.out.2.1 hi hs says_number HX.out)
    refine (KR.out).mono ?_
    rintro _ w2 ⟨rfl, h2⟩
    have H2 := Lib.hid (St.bel hb H1.out h2)
    clear h2 H1
    clear KR
    go_wp2_with fail
    refine (KC.out _).mono ?_
    rintro _ w3 ⟨rfl, h3⟩
    have H3 := Lib.hid (St.bel hb H2.out h3)
    clear h3 H2
    clear KC
    go_wp2_with (first | ((with_reducible refine (KD.out _).mono ?_); rintro _ _ ⟨rfl, rfl⟩) | ((with_reducible refine (KD2.out _).mono ?_); rintro _ _ ⟨rfl, rfl⟩))
    refine (KA.out _).mono ?_
    rintro _ w4 ⟨rfl, h4⟩
    have H4 := Lib.hid (St.bel hb H3.out h4)
    clear h4 H3
    go_wp2_with fail
    refine (KM.out _).mono ?_
    rintro _ w5 ⟨rfl, h5⟩
    have H5 := Lib.hid (St.bel hb H4.out h5)
    clear h5 H4
    go_wp2_with fail
    have H6 := Lib.hid (St.bel hb H5.out ((Below.refl _ _).alloc (Nat.le_refl _) (.cells #[.int .i64 n, .int .i64 d] 30)))
    have KQ := Lib.hid (pass_any s (bs x) 2 0 n d ⟨#[]⟩ i b _ H6.out.2.1 hi (by rw [HZ.out]; omega) hs)
    rw [HZ.out] at KQ
    refine KQ.out.mono ?_
    rintro _ w7 ⟨rfl, h4, h5⟩
    have H7 := Lib.hid (St.kept hb H6.out h4 h5)
    clear h4 h5 H6 KQ
    obtain ⟨⟨c0, c1, c2, c3, c4⟩, f0, f1, f2, f3, f4⟩ := H7.out.2.2
    go_wp2_with fail
    exact bodyPost_ret (v := .agg #[.int .i64 2, .int .i64 i, .string ⟨#[]⟩, .int .i64 n, .int .i64 d]) (by simp [results, Tryd.results40, go_sem, c0, c1, c2, c3, c4]) rfl ⟨rfl, (H7.out.fin hb _ _ _ _ _).1, (H7.out.fin hb _ _ _ _ _).2⟩

set_option maxRecDepth 100000 in
set_option maxHeartbeats 1600000 in
theorem number_er3 (s : ByteArray) (i b : Nat) (w : World) (x : List UInt8) (hA : At2 w b (.string s) (.int .i64 i)) (hi : i ≤ s.size) (hs : s.size ≤ 281474976710656) (hx : (s.data.toList.drop i).takeWhile nmb = x) (hf : frm x = true) (n d ee : Int) (hv : Vh (hun x) = (n, d, ee)) (he : ee ≠ 0) :
    Calls Tryd.prog 40 #[.pointer (some ⟨b, 0, none⟩)] w fun e w' => e = .panicked (failV 3 i) ∧ Kept b w w' := by
  have hb := hA.lt
  have hxs : i + x.length ≤ s.size := by
    have := tw_pre (p := nmb) (s.data.toList.drop i)
    rw [hx, List.length_drop, len_bytes] at this; omega
  have HZ : Hid ((bs x).size = x.length) := bs_size x
  have hpl := congrArg List.length (cut_parts x)
  rw [List.length_append] at hpl
  have htl : (behind x).tail.length ≤ (behind x).length := by rw [List.length_tail]; omega
  have KC := Lib.hid (fun w => cut_any x w (by omega))
  have KD : Hid (∀ w : World, Calls Tryd.prog 48 #[.string (bs (whole x)), .int .i64 9] w fun e w' => e = .returned (.bool (digs (whole x) 9)) ∧ w' = w) := fun w => isDigits_any (whole x) 9 w (by omega)
  have KD2 : Hid (∀ w : World, Calls Tryd.prog 48 #[.string (bs (behind x).tail), .int .i64 2] w fun e w' => e = .returned (.bool (digs (behind x).tail 2)) ∧ w' = w) := fun w => isDigits_any (behind x).tail 2 w (by omega)
  have HA := Lib.hid hA
  have HX := Lib.hid hx
  have H1 := Lib.hid (St.start HA.out)
  have he1 : (ee == 0) = false := by simpa using he
  have he2 : (ee != 0) = true := by simpa using he
  have hf' : digs (whole x) 9 = true ∧ (behind x = [] ∨ (behind x ≠ [] ∧ digs (behind x).tail 2 = true)) := by
    unfold frm at hf
    rw [Bool.and_eq_true, Bool.or_eq_true, decide_eq_true_eq] at hf
    refine ⟨hf.1, ?_⟩
    by_cases h : behind x = []
    · exact Or.inl h
    · exact Or.inr ⟨h, hf.2.resolve_left h⟩
  obtain ⟨t1, t2, t3⟩ := hun_text hf
  have KA : Hid (∀ w : World, Calls Tryd.prog 49 #[.string (bs (whole x ++ ((behind x).tail ++ [48, 48]).take 2))] w fun e w' => e = .returned (.tuple #[.int .i64 (hun x : Nat), .nilIface]) ∧ RowKit.Below w.heap.size w w') := fun w => atoi_any _ w (by omega) t2 t3
  have hhl := hun_lt hf
  have KM : Hid (∀ w : World, Calls Tryd.prog 50 #[.int .i64 (hun x : Nat), .int .i64 100] w fun e w' => e = .returned (.tuple #[.agg #[.int .i64 n, .int .i64 d], .int .i64 ee]) ∧ RowKit.Below w.heap.size w w') := fun w => by
    have := make_any (hun x : Nat) 100 w (by omega) (by omega) (by omega) (by omega)
    rw [show mk (hun x : Nat) 100 = (n, d, ee) from hv] at this
    exact this
  have u1 : (bs (behind x).tail ++ ⟨#[48, 48]⟩).extract 0 2 = bs (((behind x).tail ++ [48, 48]).take 2) := by
    have : (⟨#[48, 48]⟩ : ByteArray) = bs [48, 48] := rfl
    rw [this, bs_app, bs_take]
  have u2 : bs (whole x) ++ bs (((behind x).tail ++ [48, 48]).take 2) = bs (whole x ++ ((behind x).tail ++ [48, 48]).take 2) := bs_app _ _
  have u3 : (2 : Int) ≤ ((bs (behind x).tail ++ ⟨#[48, 48]⟩).size : Int) := by
    have : (⟨#[48, 48]⟩ : ByteArray) = bs [48, 48] := rfl
    rw [this, bs_app, bs_size]; simp; omega
  have z1 : (bs (whole x)).size ≤ 9 := by rw [bs_size]; exact (digs_all hf'.1).2.1
  have z2 : (bs (behind x).tail).size ≤ 2 := by
    rw [bs_size]
    rcases hf'.2 with h | ⟨_, h⟩
    · rw [h]; simp
    · exact (digs_all h).2.1
  have z3 : (bs (((behind x).tail ++ [48, 48]).take 2)).size ≤ 2 := by rw [bs_size, List.length_take]; omega
  clear hf hA hx hpl htl t1 t2 t3 hhl hv
  obtain ⟨h1, h2⟩ := hf'
  rw [h1] at KD
  have HB : Hid ((decide (behind x ≠ []) = false) ∨ (decide (behind x ≠ []) = true ∧ digs (behind x).tail 2 = true)) := by
    rcases h2 with h | ⟨h, h3⟩
    · exact Or.inl (decide_eq_false (by simpa using h))
    · exact Or.inr ⟨decide_eq_true h, h3⟩
  clear h1 h2
  generalize hun x = h at *
  generalize bs (whole x ++ ((behind x).tail ++ [48, 48]).take 2) = T at *
  generalize bs (((behind x).tail ++ [48, 48]).take 2) = C at *
  generalize bs (whole x) = A at *
  generalize digs (behind x).tail 2 = q2 at *
  generalize bs (behind x).tail = B at *
  generalize decide (behind x ≠ []) = q at *
  rcases HB.out with rfl | ⟨rfl, rfl⟩
  · go_enter Tryd.func40, Tryd.ntmps40
    go_wp2_with fail
    change Calls Tryd.prog 34 #[.pointer (some ⟨b, 0, none⟩), .func (.func 46) #[] #[]] (w.alloc zBox) fun e w' => _
    generalize w.alloc zBox = w1 at *
    have KR := Lib.hid (row_word H1.out.2.1 hi hs says_number HX.out)
    refine (KR.out).mono ?_
    rintro _ w2 ⟨rfl, h2⟩
    have H2 := Lib.hid (St.bel hb H1.out h2)
    clear h2 H1
    clear KR
    go_wp2_with fail
    refine (KC.out _).mono ?_
    rintro _ w3 ⟨rfl, h3⟩
    have H3 := Lib.hid (St.bel hb H2.out h3)
    clear h3 H2
    clear KC
    go_wp2_with (first | ((with_reducible refine (KD.out _).mono ?_); rintro _ _ ⟨rfl, rfl⟩) | ((with_reducible refine (KD2.out _).mono ?_); rintro _ _ ⟨rfl, rfl⟩))
    refine (KA.out _).mono ?_
    rintro _ w4 ⟨rfl, h4⟩
    have H4 := Lib.hid (St.bel hb H3.out h4)
    clear h4 H3
    go_wp2_with fail
    refine (KM.out _).mono ?_
    rintro _ w5 ⟨rfl, h5⟩
    have H5 := Lib.hid (St.bel hb H4.out h5)
    clear h5 H4
    go_wp2_with fail
    have H6 := Lib.hid (St.bel hb H5.out ((Below.refl _ _).alloc (Nat.le_refl _) (.cells #[.int .i64 n, .int .i64 d] 30)))
    have KF := Lib.hid (fail_any s 3 i b _ H6.out.2.1)
    refine KF.out.mono ?_
    rintro _ _ ⟨rfl, rfl⟩
    go_wp2_with fail
    exact bodyPost_panic rfl ⟨rfl, H6.out.1⟩
  · go_enter Tryd.func40, Tryd.ntmps40
    go_wp2_with fail
    change Calls Tryd.prog 34 #[.pointer (some ⟨b, 0, none⟩), .func (.func 46) #[] #[]] (w.alloc zBox) fun e w' => _
    generalize w.alloc zBox = w1 at *
    have KR := Lib.hid (row_word H1.out.2.1 hi hs says_number HX.out)
    refine (KR.out).mono ?_
    rintro _ w2 ⟨rfl, h2⟩
    have H2 := Lib.hid (St.bel hb H1.out h2)
    clear h2 H1
    clear KR
    go_wp2_with fail
    refine (KC.out _).mono ?_
    rintro _ w3 ⟨rfl, h3⟩
    have H3 := Lib.hid (St.bel hb H2.out h3)
    clear h3 H2
    clear KC
    go_wp2_with (first | ((with_reducible refine (KD.out _).mono ?_); rintro _ _ ⟨rfl, rfl⟩) | ((with_reducible refine (KD2.out _).mono ?_); rintro _ _ ⟨rfl, rfl⟩))
    refine (KA.out _).mono ?_
    rintro _ w4 ⟨rfl, h4⟩
    have H4 := Lib.hid (St.bel hb H3.out h4)
    clear h4 H3
    go_wp2_with fail
    refine (KM.out _).mono ?_
    rintro _ w5 ⟨rfl, h5⟩
    have H5 := Lib.hid (St.bel hb H4.out h5)
    clear h5 H4
    go_wp2_with fail
    have H6 := Lib.hid (St.bel hb H5.out ((Below.refl _ _).alloc (Nat.le_refl _) (.cells #[.int .i64 n, .int .i64 d] 30)))
    have KF := Lib.hid (fail_any s 3 i b _ H6.out.2.1)
    refine KF.out.mono ?_
    rintro _ _ ⟨rfl, rfl⟩
    go_wp2_with fail
    exact bodyPost_panic rfl ⟨rfl, H6.out.1⟩
end Go.Proofs.YtoaeceeookknnaaDoor
