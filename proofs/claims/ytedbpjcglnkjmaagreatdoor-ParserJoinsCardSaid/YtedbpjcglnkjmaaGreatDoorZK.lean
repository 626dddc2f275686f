/-
  Contracts of the kinds of bytes, and of the longest beginning of one kind; the reference's as well.
  Contracts of the reader: the row of bytes of one kind, an error, a token that is passed.
  The contract of skipGaps.
-/
import Derived.Test.YtedbpjcglnkjmaaGreatDoorZC
import Derived.Test.YtedbpjcglnkjmaaGreatDoorZB
import Derived.StillTailTactics
namespace Go.Proofs.YtedbpjcglnkjmaaGreatDoor
open Go.RowKit Lx

theorem get_list (T : ByteArray) (i : Nat) (h : i < T.size) : T[i] = T.data.toList.getD i 0 := by
  rw [List.getD_eq_getElem?_getD, List.getElem?_eq_getElem (by simpa using h)]
  simp [ByteArray.getElem_eq_getElem_data]
theorem i2 {a b : Nat} : ((a : Int) == (b : Int)) = decide (a = b) := by rw [Bool.eq_iff_iff]; simp; omega
theorem isLetter_any (c : UInt8) (w : World) : Calls Tryz.prog 98 #[.int .u8 c.toNat] w fun e w' => e = .returned (.bool (ltr c)) ∧ w' = w := by
  unfold ltr
  generalize c.toNat = n
  by_cases h : 97 ≤ n
  · have d1 : decide ((97 : Int) ≤ (n : Int)) = true := by simp; omega
    go_enter Tryz.func98, Tryz.ntmps98
    go_wp2
    go_ret
    exact ⟨ret_bool (by rw [Bool.eq_iff_iff]; first | (simp; done) | (simp; omega)), rfl⟩
  · have d1 : decide ((97 : Int) ≤ (n : Int)) = false := by simp; omega
    go_enter Tryz.func98, Tryz.ntmps98
    go_wp2
    go_ret
    exact ⟨ret_bool (by rw [Bool.eq_iff_iff]; first | (simp; done) | (simp; omega)), rfl⟩
theorem isDigit_any (c : UInt8) (w : World) : Calls Tryz.prog 100 #[.int .u8 c.toNat] w fun e w' => e = .returned (.bool (dgt c)) ∧ w' = w := by
  unfold dgt
  generalize c.toNat = n
  by_cases h : 48 ≤ n
  · have d1 : decide ((48 : Int) ≤ (n : Int)) = true := by simp; omega
    go_enter Tryz.func100, Tryz.ntmps100
    go_wp2
    go_ret
    exact ⟨ret_bool (by rw [Bool.eq_iff_iff]; first | (simp; done) | (simp; omega)), rfl⟩
  · have d1 : decide ((48 : Int) ≤ (n : Int)) = false := by simp; omega
    go_enter Tryz.func100, Tryz.ntmps100
    go_wp2
    go_ret
    exact ⟨ret_bool (by rw [Bool.eq_iff_iff]; first | (simp; done) | (simp; omega)), rfl⟩
theorem rLetter_any (c : UInt8) (w : World) : Calls Tryz.prog 71 #[.int .u8 c.toNat] w fun e w' => e = .returned (.bool (ltr c)) ∧ w' = w := by
  unfold ltr
  generalize c.toNat = n
  by_cases h : 97 ≤ n
  · have d1 : decide ((97 : Int) ≤ (n : Int)) = true := by simp; omega
    go_enter Tryz.func71, Tryz.ntmps71
    go_wp2
    go_ret
    exact ⟨ret_bool (by rw [Bool.eq_iff_iff]; first | (simp; done) | (simp; omega)), rfl⟩
  · have d1 : decide ((97 : Int) ≤ (n : Int)) = false := by simp; omega
    go_enter Tryz.func71, Tryz.ntmps71
    go_wp2
    go_ret
    exact ⟨ret_bool (by rw [Bool.eq_iff_iff]; first | (simp; done) | (simp; omega)), rfl⟩
theorem rDigit_any (c : UInt8) (w : World) : Calls Tryz.prog 70 #[.int .u8 c.toNat] w fun e w' => e = .returned (.bool (dgt c)) ∧ w' = w := by
  unfold dgt
  generalize c.toNat = n
  by_cases h : 48 ≤ n
  · have d1 : decide ((48 : Int) ≤ (n : Int)) = true := by simp; omega
    go_enter Tryz.func70, Tryz.ntmps70
    go_wp2
    go_ret
    exact ⟨ret_bool (by rw [Bool.eq_iff_iff]; first | (simp; done) | (simp; omega)), rfl⟩
  · have d1 : decide ((48 : Int) ≤ (n : Int)) = false := by simp; omega
    go_enter Tryz.func70, Tryz.ntmps70
    go_wp2
    go_ret
    exact ⟨ret_bool (by rw [Bool.eq_iff_iff]; first | (simp; done) | (simp; omega)), rfl⟩

theorem isInLine_any (c : UInt8) (w : World) : Calls Tryz.prog 96 #[.int .u8 c.toNat] w fun e w' => e = .returned (.bool (lin c)) ∧ w' = w := by
  unfold lin
  generalize c.toNat = n
  go_enter Tryz.func96, Tryz.ntmps96
  go_wp2
  go_ret
  exact ⟨ret_bool (by rw [Bool.eq_iff_iff]; first | (simp; done) | (simp; omega)), rfl⟩
theorem isInWord_any (c : UInt8) (w : World) : Calls Tryz.prog 114 #[.int .u8 c.toNat] w fun e w' => e = .returned (.bool (wrd c)) ∧ w' = w := by
  have K := Lib.hid (isLetter_any c)
  have K2 := Lib.hid (isDigit_any c)
  obtain ⟨r, hr⟩ : ∃ r, r = wrd c := ⟨_, rfl⟩
  rw [← hr]
  unfold wrd at hr
  have HR := Lib.hid hr
  clear hr
  generalize ltr c = a at *
  generalize dgt c = b at *
  generalize c.toNat = n at *
  cases a
  · cases b
    · go_enter Tryz.func114, Tryz.ntmps114
      go_wp2_with (first | (refine (K.out _).mono ?_; rintro _ _ ⟨rfl, rfl⟩) | (refine (K2.out _).mono ?_; rintro _ _ ⟨rfl, rfl⟩))
      go_ret
      exact ⟨ret_bool (by rw [HR.out]; simp only [Bool.false_or]; rw [Bool.eq_iff_iff]; simp; omega), rfl⟩
    · go_enter Tryz.func114, Tryz.ntmps114
      go_wp2_with (first | (refine (K.out _).mono ?_; rintro _ _ ⟨rfl, rfl⟩) | (refine (K2.out _).mono ?_; rintro _ _ ⟨rfl, rfl⟩))
      go_ret
      exact ⟨ret_bool (by rw [HR.out]; rfl), rfl⟩
  · go_enter Tryz.func114, Tryz.ntmps114
    go_wp2_with (first | (refine (K.out _).mono ?_; rintro _ _ ⟨rfl, rfl⟩) | (refine (K2.out _).mono ?_; rintro _ _ ⟨rfl, rfl⟩))
    go_ret
    exact ⟨ret_bool (by rw [HR.out]; rfl), rfl⟩
theorem isInNumber_any (c : UInt8) (w : World) : Calls Tryz.prog 115 #[.int .u8 c.toNat] w fun e w' => e = .returned (.bool (nmb c)) ∧ w' = w := by
  have K := Lib.hid (isInWord_any c)
  obtain ⟨r, hr⟩ : ∃ r, r = nmb c := ⟨_, rfl⟩
  rw [← hr]
  unfold nmb at hr
  have HR := Lib.hid hr
  clear hr
  generalize wrd c = a at *
  generalize c.toNat = n at *
  cases a
  · go_enter Tryz.func115, Tryz.ntmps115
    go_wp2_with (refine (K.out _).mono ?_; rintro _ _ ⟨rfl, rfl⟩)
    go_ret
    exact ⟨ret_bool (by rw [HR.out]; simp only [Bool.false_or]; rw [Bool.eq_iff_iff]; simp; omega), rfl⟩
  · go_enter Tryz.func115, Tryz.ntmps115
    go_wp2_with (refine (K.out _).mono ?_; rintro _ _ ⟨rfl, rfl⟩)
    go_ret
    exact ⟨ret_bool (by rw [HR.out]; rfl), rfl⟩

theorem tw_stop {p : UInt8 → Bool} {l : List UInt8} {k : Nat} (hk : k < l.length) (h1 : (l.take k).all p = true) (h2 : p (l.getD k 0) = false) : l.takeWhile p = l.take k := by
  have e : l = l.take k ++ l.drop k := (List.take_append_drop k l).symm
  rw [e, tw_eq _ _ h1]
  · rw [← e]
  · intro c hc
    rw [List.head?_drop, List.getElem?_eq_getElem hk] at hc
    simp only [Option.some.injEq] at hc
    rw [List.getD_eq_getElem?_getD, List.getElem?_eq_getElem hk, Option.getD_some, hc] at h2
    exact h2
theorem tw_whole {p : UInt8 → Bool} {l : List UInt8} (h1 : l.all p = true) : l.takeWhile p = l := by
  have := tw_eq (p := p) l [] h1 (fun c hc => by simp at hc)
  rwa [List.append_nil] at this
theorem all_next {p : UInt8 → Bool} {l : List UInt8} {k : Nat} (hk : k < l.length) (h1 : (l.take k).all p = true) (h2 : p (l.getD k 0) = true) : (l.take (k + 1)).all p = true := by
  rw [List.take_succ_eq_append_getElem hk, List.all_append, h1]
  rw [List.getD_eq_getElem?_getD, List.getElem?_eq_getElem hk, Option.getD_some] at h2
  simp [h2]
/-- A function that is handed over: what it says of bytes. -/
def Says (F : FuncId) (p : UInt8 → Bool) : Prop := (∀ (c : UInt8) (w : World), Calls Tryz.prog F #[.int .u8 c.toNat] w fun e w' => e = .returned (.bool (p c)) ∧ w' = w) ∧
  ∀ (args : Array Value) (w : World), (callFunc F args).run Tryz.prog w = .ok (.enter F args) w
theorem says_line : Says 96 lin := ⟨isInLine_any, fun _ _ => by kernel_rfl⟩
theorem says_word : Says 114 wrd := ⟨isInWord_any, fun _ _ => by kernel_rfl⟩
theorem says_number : Says 115 nmb := ⟨isInNumber_any, fun _ _ => by kernel_rfl⟩
theorem says_digit : Says 100 dgt := ⟨isDigit_any, fun _ _ => by kernel_rfl⟩
set_option maxRecDepth 100000 in
set_option maxHeartbeats 400000 in
theorem beginning_any (F : FuncId) (p : UInt8 → Bool) (hF : Says F p) (s : ByteArray) (w : World) (hs : s.size ≤ 281474976710656) :
    Calls Tryz.prog 110 #[.string s, .func (.func F) #[] #[]] w fun e w' => e = .returned (.string (bs (s.data.toList.takeWhile p))) ∧ w' = w := by
  have K := Lib.hid hF.1
  have hE := hF.2
  obtain ⟨l, hl⟩ : ∃ l, l = s.data.toList := ⟨_, rfl⟩
  have hsz : s.size = l.length := by rw [hl]; simp
  have hget : Hid (∀ i (h : i < s.size), s[i] = l.getD i 0) := fun i h => by rw [hl]; exact get_list s i h
  have HS : Hid (s = bs l) := by show _ = _; rw [hl]; exact bs_of s
  rw [← hl]
  have HL := Lib.hid hl
  obtain ⟨n, hn⟩ : ∃ n, n = s.size := ⟨_, rfl⟩
  have HN := Lib.hid hn
  have HZ := Lib.hid hsz
  clear hF hl hsz
  go_enter Tryz.func110, Tryz.ntmps110
  go_wp2_with fail
  go_loopg [8] n (fun g s8 wr => ∃ k : Nat, s8 = .int .i64 k ∧ k ≤ n ∧ n - k ≤ g ∧ Hid ((l.take k).all p = true) ∧ wr = w)
  case atStart => exact ⟨0, rfl, by omega, by omega, rfl, rfl⟩
  case round =>
    obtain ⟨k, rfl, hk, hkg, HA, rfl⟩ := hrel
    by_cases hlt : k < n
    · have hltz : (k : Int) < (s.size : Int) := by omega
      have hkl : k < l.length := by rw [← HZ.out]; omega
      have hks : k < s.size := by omega
      have hgl := hget.out k hks
      have KC := Lib.hid (K.out s[k])
      cases hp : p s[k] with
      | true =>
        have HA2 : Hid ((l.take (k + 1)).all p = true) := all_next hkl HA.out (by rw [← hgl]; exact hp)
        rw [hp] at KC
        clear hp hgl HA
        go_wp2_with (refine (KC.out _).mono ?_; rintro _ _ ⟨rfl, rfl⟩)
        go_roundg (n - (k + 1))
        case measure => omega
        case rel => exact ⟨k + 1, by go_num, by omega, by omega, HA2, rfl⟩
      | false =>
        have HE : Hid (l.takeWhile p = l.take k) := tw_stop hkl HA.out (by rw [← hgl]; exact hp)
        rw [hp] at KC
        clear hp hgl HA
        go_wp2_with (refine (KC.out _).mono ?_; rintro _ _ ⟨rfl, rfl⟩)
        go_ret
        exact ⟨ret_str (by rw [HE.out, ← bs_take, ← HS.out]), rfl⟩
    · have hltz : ¬ (k : Int) < (s.size : Int) := by omega
      have hkn : k = s.size := by omega
      have HE : Hid (l.takeWhile p = l) := tw_whole (by have := HA.out; rwa [List.take_of_length_le (by rw [← HZ.out]; omega)] at this)
      clear HA
      go_wp2_with fail
      go_ret
      exact ⟨ret_str (by rw [HE.out, ← HS.out]), rfl⟩
end Go.Proofs.YtedbpjcglnkjmaaGreatDoor
namespace Go.Proofs.YtedbpjcglnkjmaaGreatDoor
open Go.RowKit Lx

theorem len_bytes (s : ByteArray) : s.data.toList.length = s.size := by simp
set_option maxRecDepth 100000 in
set_option maxHeartbeats 400000 in
theorem row_any (F : FuncId) (p : UInt8 → Bool) (hF : Says F p) (s : ByteArray) (i b : Nat) (w : World) (hA : At2 w b (.string s) (.int .i64 i)) (hi : i ≤ s.size) (hs : s.size ≤ 281474976710656) :
    Calls Tryz.prog 95 #[.pointer (some ⟨b, 0, none⟩), .func (.func F) #[] #[]] w fun e w' => e = .returned (.string (bs ((s.data.toList.drop i).takeWhile p))) ∧ ∃ n, w' = w.drewN n := by
  obtain ⟨c0, c1, f0, f1⟩ := hA
  obtain ⟨l, hl⟩ : ∃ l, l = s.data.toList.drop i := ⟨_, rfl⟩
  have hx : s.extract i s.size = bs l := by rw [hl]; apply ByteArray.ext; apply Array.ext'; rw [Lib.extract_to_end]; simp [bs]
  have K := Lib.hid (fun w => beginning_any F p hF (bs l) w (by rw [bs_size, hl, List.length_drop, len_bytes]; omega))
  rw [bs_data] at K
  rw [← hl]
  generalize l.takeWhile p = r at *
  have hiz : (i : Int) ≤ (s.size : Int) := by omega
  clear hF hl
  go_enter Tryz.func95, Tryz.ntmps95
  go_wp2_with fail
  go_quiet ((go_at_call 110; exact Calls.quiet_of_same (K.out _)))
  go_wp2
  go_ret
  exact ⟨rfl, _, rfl⟩

/-- What a panic of the reader's bears. -/
def failV (e : Int) (a : Nat) : List PanicEntry := [{ v := .iface 113 (.agg #[.int .i64 e, .int .i64 a]), recovered := false }]
theorem fail_any (s : ByteArray) (E : Int) (i b : Nat) (w : World) (hA : At2 w b (.string s) (.int .i64 i)) :
    Calls Tryz.prog 82 #[.pointer (some ⟨b, 0, none⟩), .int .i64 E] w fun e w' => e = .panicked (failV E i) ∧ w' = w := by
  obtain ⟨c0, c1, f0, f1⟩ := hA
  go_enter Tryz.func82, Tryz.ntmps82
  go_wp2
  exact bodyPost_panic rfl ⟨rfl, rfl⟩

theorem At2.set {w : World} {b : Nat} {x y : Value} (h : At2 w b x y) (z : Value) : At2 (w.setCell ⟨b, 1, none⟩ z) b x z := by
  obtain ⟨c0, c1, f0, f1⟩ := h
  exact ⟨by simp [go_sem, c0], by simp [go_sem, c1], by simp [go_sem, f0], by simp [go_sem, f1]⟩
set_option maxRecDepth 100000 in
set_option maxHeartbeats 400000 in
theorem pass_any (s x : ByteArray) (k a n d : Int) (t : ByteArray) (i b : Nat) (w : World) (hA : At2 w b (.string s) (.int .i64 i)) (hi : i ≤ s.size) (hx : i + x.size ≤ s.size) (hs : s.size ≤ 281474976710656) :
    Calls Tryz.prog 112 #[.pointer (some ⟨b, 0, none⟩), .string x, .agg #[.int .i64 k, .int .i64 a, .string t, .int .i64 n, .int .i64 d]] w fun e w' =>
      e = .returned (.agg #[.int .i64 k, .int .i64 i, .string t, .int .i64 n, .int .i64 d]) ∧ Kept b w w' ∧ At2 w' b (.string s) (.int .i64 (i + x.size : Nat)) := by
  have hb := hA.lt
  have HA := Lib.hid hA
  obtain ⟨c0, c1, f0, f1⟩ := hA
  go_enter Tryz.func112, Tryz.ntmps112
  go_wp2_with fail
  refine bodyPost_ret (v := .agg #[.int .i64 k, .int .i64 i, .string t, .int .i64 n, .int .i64 d]) (by simp [results, Tryz.results112, go_sem]) rfl ⟨rfl, ?_, ?_⟩
  · exact ((Kept.refl b w).setCell 1 none _).bel ((((Below.refl _ _).alloc (Nat.le_refl _) _).alloc (by simp) _))
  · refine At2.below (B := (w.setCell ⟨b, 1, none⟩ (Value.int IntKind.i64 ((i : Int) + (x.size : Int)))).heap.size) ?_ ((((Below.refl _ _).alloc (Nat.le_refl _) _).alloc (by simp) _)) (by simpa [World.setCell] using hb)
    have := HA.out.set (.int .i64 ((i : Int) + (x.size : Int)))
    rwa [show ((i + x.size : Nat) : Int) = (i : Int) + (x.size : Int) by omega]
end Go.Proofs.YtedbpjcglnkjmaaGreatDoor
namespace Go.Proofs.YtedbpjcglnkjmaaGreatDoor
open Go.RowKit Lx

theorem gp_line : ∀ l : List UInt8, gp true l = (l.takeWhile lin).length + gp false (l.drop (l.takeWhile lin).length)
  | [] => rfl
  | c :: l => by
    by_cases h : c.toNat = 10
    · have e : lin c = false := by unfold lin; simp [h]
      rw [List.takeWhile_cons, e]
      simp only [gp, Bool.false_eq_true, if_false, List.length_nil, List.drop_zero]
      have e2 : blk c = true := by unfold blk; simp [h]
      rw [if_pos h, if_neg (by omega), if_pos e2]; omega
    · have e : lin c = true := by unfold lin; simp [h]
      rw [List.takeWhile_cons, e]
      simp only [gp, if_true, List.length_cons, List.drop_succ_cons]
      rw [if_neg h, gp_line l]; omega
theorem drop_get {l : List UInt8} {j : Nat} (h : j < l.length) : l.drop j = l.getD j 0 :: l.drop (j + 1) := by
  rw [List.drop_eq_getElem_cons h, List.getD_eq_getElem?_getD, List.getElem?_eq_getElem h]; rfl
theorem gp_blank {l : List UInt8} {j : Nat} (h : j < l.length) (hb : blk (l.getD j 0) = true) : gp false (l.drop j) = 1 + gp false (l.drop (j + 1)) := by
  rw [drop_get h]; simp only [gp]
  rw [if_neg (blk_lin_wrd _ hb).2.2.2.2.2, if_pos hb]
theorem gp_hash {l : List UInt8} {j : Nat} (h : j < l.length) (hb : (l.getD j 0).toNat = 35) : gp false (l.drop j) = ((l.drop j).takeWhile lin).length + gp false (l.drop (j + ((l.drop j).takeWhile lin).length)) ∧ 1 ≤ ((l.drop j).takeWhile lin).length := by
  have e : gp false (l.drop j) = gp true (l.drop j) := by
    rw [drop_get h]; simp only [gp]
    rw [if_pos hb, if_neg (by rw [hb]; decide)]
  rw [e, gp_line, List.drop_drop]
  refine ⟨rfl, ?_⟩
  rw [drop_get h, List.takeWhile_cons]
  have : lin (l.getD j 0) = true := by unfold lin; rw [hb]; rfl
  rw [this]; simp
theorem gp_none {l : List UInt8} {j : Nat} (h : j < l.length) (hb : blk (l.getD j 0) = false) (hh : (l.getD j 0).toNat ≠ 35) : gp false (l.drop j) = 0 := by
  rw [drop_get h]; simp only [gp]
  rw [if_neg hh, if_neg (by rw [hb]; simp)]
def ptrV (b : Nat) : Value := .pointer (some ⟨b, 0, none⟩)
set_option maxRecDepth 100000 in
set_option maxHeartbeats 1000000 in
theorem skip_any (s : ByteArray) (i b : Nat) (w : World) (hA : At2 w b (.string s) (.int .i64 i)) (hi : i ≤ s.size) (hs : s.size ≤ 281474976710656) :
    Calls Tryz.prog 83 #[.pointer (some ⟨b, 0, none⟩)] w fun e w' => e = .returned (.tuple #[]) ∧ Kept b w w' ∧ At2 w' b (.string s) (.int .i64 (i + gp false (s.data.toList.drop i) : Nat)) := by
  obtain ⟨l, hl⟩ : ∃ l, l = s.data.toList := ⟨_, rfl⟩
  have hsz : s.size = l.length := by rw [hl]; simp
  have hget : Hid (∀ i (h : i < s.size), s[i] = l.getD i 0) := fun i h => by rw [hl]; exact get_list s i h
  have KR := Lib.hid (fun (j : Nat) (w : World) (hA : At2 w b (.string s) (.int .i64 j)) (hj : j ≤ s.size) => row_any 96 lin says_line s j b w hA hj hs)
  rw [← hl] at KR ⊢
  obtain ⟨G, hG⟩ : ∃ G, G = i + gp false (l.drop i) := ⟨_, rfl⟩
  rw [← hG]
  have HG := Lib.hid hG
  have HA := Lib.hid hA
  clear hA hl hG
  go_enter Tryz.func83, Tryz.ntmps83
  go_wp2_with fail
  go_loopg [5] s.size (fun g _s5 wr => ∃ j : Nat, j ≤ s.size ∧ s.size - j ≤ g ∧ Hid (Kept b w wr ∧ At2 wr b (.string s) (.int .i64 j) ∧ j + gp false (l.drop j) = G))
  case atStart => exact ⟨i, hi, by omega, Kept.refl _ _, HA.out, HG.out.symm⟩
  case round =>
    obtain ⟨j, hj, hjg, HI⟩ := hrel
    have c0 := HI.out.2.1.c0
    have c1 := HI.out.2.1.c1
    have f1 := HI.out.2.1.f1
    have hbw := HI.out.2.1.lt
    by_cases hlt : j < s.size
    · have hltz : (j : Int) < (s.size : Int) := by omega
      have hjl : j < l.length := by omega
      have hc := hget.out j hlt
      by_cases h32 : s[j].toNat = 32
      · have hB : Hid (blk (l.getD j 0) = true) := by show _ = true; rw [← hc]; unfold blk; simp [h32]
        have HG2 : Hid (j + 1 + gp false (l.drop (j + 1)) = G) := by have := HI.out.2.2; rw [gp_blank hjl hB.out] at this; show _ = _; omega
        have e32 : ((s[j].toNat : Int) == 32) = true := by simp; omega
        have hwr : wrap64 ((j : Int) + 1) = ((j + 1 : Nat) : Int) := by unfold wrap64; omega
        clear hB hc h32
        go_wp2_with fail
        go_quiet (fail)
        go_wp2_with fail
        go_quiet (fail)
        go_wp2_with fail
        go_roundg (s.size - (j + 1))
        case measure => omega
        case rel => exact ⟨j + 1, by omega, by omega, (HI.out.1.bel (below_drewN (Below.refl _ _) _)).setCell 1 none _, (HI.out.2.1.bel (below_drewN (Below.refl _ _) _)).set _, HG2.out⟩
      by_cases h9 : s[j].toNat = 9
      · have hB : Hid (blk (l.getD j 0) = true) := by show _ = true; rw [← hc]; unfold blk; simp [h9]
        have HG2 : Hid (j + 1 + gp false (l.drop (j + 1)) = G) := by have := HI.out.2.2; rw [gp_blank hjl hB.out] at this; show _ = _; omega
        have e32 : ((s[j].toNat : Int) == 32) = false := by simp; omega
        have e9 : ((s[j].toNat : Int) == 9) = true := by simp; omega
        have hwr : wrap64 ((j : Int) + 1) = ((j + 1 : Nat) : Int) := by unfold wrap64; omega
        clear hB hc h9
        go_wp2_with fail
        go_quiet (fail)
        go_wp2_with fail
        go_quiet (fail)
        go_wp2_with fail
        go_roundg (s.size - (j + 1))
        case measure => omega
        case rel => exact ⟨j + 1, by omega, by omega, (HI.out.1.bel (below_drewN (Below.refl _ _) _)).setCell 1 none _, (HI.out.2.1.bel (below_drewN (Below.refl _ _) _)).set _, HG2.out⟩
      by_cases h10 : s[j].toNat = 10
      · have hB : Hid (blk (l.getD j 0) = true) := by show _ = true; rw [← hc]; unfold blk; simp [h10]
        have HG2 : Hid (j + 1 + gp false (l.drop (j + 1)) = G) := by have := HI.out.2.2; rw [gp_blank hjl hB.out] at this; show _ = _; omega
        have e32 : ((s[j].toNat : Int) == 32) = false := by simp; omega
        have e9 : ((s[j].toNat : Int) == 9) = false := by simp; omega
        have e10 : ((s[j].toNat : Int) == 10) = true := by simp; omega
        have hwr : wrap64 ((j : Int) + 1) = ((j + 1 : Nat) : Int) := by unfold wrap64; omega
        clear hB hc h10
        go_wp2_with fail
        go_quiet (fail)
        go_wp2_with fail
        go_quiet (fail)
        go_wp2_with fail
        go_roundg (s.size - (j + 1))
        case measure => omega
        case rel => exact ⟨j + 1, by omega, by omega, (HI.out.1.bel (below_drewN (Below.refl _ _) _)).setCell 1 none _, (HI.out.2.1.bel (below_drewN (Below.refl _ _) _)).set _, HG2.out⟩
      by_cases h13 : s[j].toNat = 13
      · have hB : Hid (blk (l.getD j 0) = true) := by show _ = true; rw [← hc]; unfold blk; simp [h13]
        have HG2 : Hid (j + 1 + gp false (l.drop (j + 1)) = G) := by have := HI.out.2.2; rw [gp_blank hjl hB.out] at this; show _ = _; omega
        have e32 : ((s[j].toNat : Int) == 32) = false := by simp; omega
        have e9 : ((s[j].toNat : Int) == 9) = false := by simp; omega
        have e10 : ((s[j].toNat : Int) == 10) = false := by simp; omega
        have e13 : ((s[j].toNat : Int) == 13) = true := by simp; omega
        have hwr : wrap64 ((j : Int) + 1) = ((j + 1 : Nat) : Int) := by unfold wrap64; omega
        clear hB hc h13
        go_wp2_with fail
        go_quiet (fail)
        go_wp2_with fail
        go_quiet (fail)
        go_wp2_with fail
        go_roundg (s.size - (j + 1))
        case measure => omega
        case rel => exact ⟨j + 1, by omega, by omega, (HI.out.1.bel (below_drewN (Below.refl _ _) _)).setCell 1 none _, (HI.out.2.1.bel (below_drewN (Below.refl _ _) _)).set _, HG2.out⟩
      have e0 : blk (l.getD j 0) = false := by rw [← hc]; unfold blk; simp [h32, h9, h10, h13]
      have e32 : ((s[j].toNat : Int) == 32) = false := by simp; omega
      have e9 : ((s[j].toNat : Int) == 9) = false := by simp; omega
      have e10 : ((s[j].toNat : Int) == 10) = false := by simp; omega
      have e13 : ((s[j].toNat : Int) == 13) = false := by simp; omega
      by_cases h35 : s[j].toNat = 35
      · have e35 : ((s[j].toNat : Int) == 35) = true := by simp; omega
        obtain ⟨g1, g2⟩ := gp_hash hjl (by rw [← hc]; exact h35)
        have KK := Lib.hid (fun w h => KR.out j w h hj)
        have hm : ((l.drop j).takeWhile lin).length ≤ l.length - j := by have := tw_pre (p := lin) (l.drop j); rwa [List.length_drop] at this
        obtain ⟨m, hm0⟩ : ∃ m, m = ((l.drop j).takeWhile lin).length := ⟨_, rfl⟩
        obtain ⟨r, hr0⟩ : ∃ r, r = (l.drop j).takeWhile lin := ⟨_, rfl⟩
        rw [← hr0] at KK g1 g2 hm hm0
        have hrs : (bs r).size = m := by rw [bs_size, hm0]
        rw [← hm0] at g1 g2 hm
        have HG2 : Hid (j + m + gp false (l.drop (j + m)) = G) := by have := HI.out.2.2; rw [g1] at this; show _ = _; omega
        clear g1 hm0 hr0 hc h35 e0
        go_wp2_with fail
        go_quiet (fail)
        go_wp2_with fail
        go_quiet (fail)
        go_wp2_with fail
        go_region_with (go_at_call 95; refine (KK.out _ (HI.out.2.1.bel (by repeat' (first | (with_reducible refine Below.setCell ?_ ?_ _) | (with_reducible refine Below.alloc ?_ ?_ _) | (with_reducible refine Below.drew ?_) | (with_reducible refine below_drewN ?_ _) | (with_reducible exact Below.refl _ _) | omega | (simp; done) | (simp; omega))))).mono ?_; rintro _ _ ⟨rfl, n, rfl⟩)
        all_goals
          rw [show IntKind.i64.wrap ((j : Int) + (m : Int)) = ((j + m : Nat) : Int) by rw [IntKind.wrap_i64]; omega]
          go_wp2_with fail
          go_roundg (s.size - (j + m))
          case measure => omega
          case rel => exact ⟨j + m, by omega, by omega, (HI.out.1.bel (below_drewN (Below.refl _ _) _)).setCell 1 none _, (HI.out.2.1.bel (below_drewN (Below.refl _ _) _)).set _, HG2.out⟩
      · have e35 : ((s[j].toNat : Int) == 35) = false := by simp; omega
        have HG2 : Hid (j = G) := by have := HI.out.2.2; rw [gp_none hjl e0 (by rw [← hc]; exact h35)] at this; exact this
        clear e0 hc
        go_wp2_with fail
        go_quiet (fail)
        go_wp2_with fail
        go_quiet (fail)
        go_wp2_with fail
        refine bodyPost_ret (v := .tuple #[]) (results_none rfl _ _ _) rfl ⟨rfl, ?_, ?_⟩
        · exact HI.out.1.bel (below_drewN (Below.refl _ _) _)
        · rw [← HG2.out]; exact HI.out.2.1.bel (below_drewN (Below.refl _ _) _)
    · have hltz : ¬ (j : Int) < (s.size : Int) := by omega
      have HG2 : Hid (j = G) := by have := HI.out.2.2; rw [List.drop_eq_nil_of_le (by omega)] at this; exact this
      go_wp2_with fail
      go_quiet (fail)
      go_wp2_with fail
      go_end0
      exact ⟨rfl, HI.out.1.bel (below_drewN (Below.refl _ _) _), by rw [← HG2.out]; exact HI.out.2.1.bel (below_drewN (Below.refl _ _) _)⟩
end Go.Proofs.YtedbpjcglnkjmaaGreatDoor
