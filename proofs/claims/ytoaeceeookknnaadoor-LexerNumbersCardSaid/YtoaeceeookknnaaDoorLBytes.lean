/-
  Contracts of the kinds of bytes, and of the longest beginning of one kind; the reference's as well.
-/
import Derived.Test.YtoaeceeookknnaaDoorLKit
namespace Go.Proofs.YtoaeceeookknnaaDoor
open Go.RowKit Lx

theorem get_list (T : ByteArray) (i : Nat) (h : i < T.size) : T[i] = T.data.toList.getD i 0 := by
  rw [List.getD_eq_getElem?_getD, List.getElem?_eq_getElem (by simpa using h)]
  simp [ByteArray.getElem_eq_getElem_data]
theorem i2 {a b : Nat} : ((a : Int) == (b : Int)) = decide (a = b) := by rw [Bool.eq_iff_iff]; simp; omega
theorem isLetter_any (c : UInt8) (w : World) : Calls Tryd.prog 37 #[.int .u8 c.toNat] w fun e w' => e = .returned (.bool (ltr c)) ∧ w' = w := by
  unfold ltr
  generalize c.toNat = n
  by_cases h : 97 ≤ n
  · have d1 : decide ((97 : Int) ≤ (n : Int)) = true := by simp; omega
    go_enter Tryd.func37, Tryd.ntmps37
    go_wp2
    go_ret
    exact ⟨ret_bool (by rw [Bool.eq_iff_iff]; first | (simp; done) | (simp; omega)), rfl⟩
  · have d1 : decide ((97 : Int) ≤ (n : Int)) = false := by simp; omega
    go_enter Tryd.func37, Tryd.ntmps37
    go_wp2
    go_ret
    exact ⟨ret_bool (by rw [Bool.eq_iff_iff]; first | (simp; done) | (simp; omega)), rfl⟩
theorem isDigit_any (c : UInt8) (w : World) : Calls Tryd.prog 39 #[.int .u8 c.toNat] w fun e w' => e = .returned (.bool (dgt c)) ∧ w' = w := by
  unfold dgt
  generalize c.toNat = n
  by_cases h : 48 ≤ n
  · have d1 : decide ((48 : Int) ≤ (n : Int)) = true := by simp; omega
    go_enter Tryd.func39, Tryd.ntmps39
    go_wp2
    go_ret
    exact ⟨ret_bool (by rw [Bool.eq_iff_iff]; first | (simp; done) | (simp; omega)), rfl⟩
  · have d1 : decide ((48 : Int) ≤ (n : Int)) = false := by simp; omega
    go_enter Tryd.func39, Tryd.ntmps39
    go_wp2
    go_ret
    exact ⟨ret_bool (by rw [Bool.eq_iff_iff]; first | (simp; done) | (simp; omega)), rfl⟩
theorem rLetter_any (c : UInt8) (w : World) : Calls Tryd.prog 30 #[.int .u8 c.toNat] w fun e w' => e = .returned (.bool (ltr c)) ∧ w' = w := by
  unfold ltr
  generalize c.toNat = n
  by_cases h : 97 ≤ n
  · have d1 : decide ((97 : Int) ≤ (n : Int)) = true := by simp; omega
    go_enter Tryd.func30, Tryd.ntmps30
    go_wp2
    go_ret
    exact ⟨ret_bool (by rw [Bool.eq_iff_iff]; first | (simp; done) | (simp; omega)), rfl⟩
  · have d1 : decide ((97 : Int) ≤ (n : Int)) = false := by simp; omega
    go_enter Tryd.func30, Tryd.ntmps30
    go_wp2
    go_ret
    exact ⟨ret_bool (by rw [Bool.eq_iff_iff]; first | (simp; done) | (simp; omega)), rfl⟩
theorem rDigit_any (c : UInt8) (w : World) : Calls Tryd.prog 29 #[.int .u8 c.toNat] w fun e w' => e = .returned (.bool (dgt c)) ∧ w' = w := by
  unfold dgt
  generalize c.toNat = n
  by_cases h : 48 ≤ n
  · have d1 : decide ((48 : Int) ≤ (n : Int)) = true := by simp; omega
    go_enter Tryd.func29, Tryd.ntmps29
    go_wp2
    go_ret
    exact ⟨ret_bool (by rw [Bool.eq_iff_iff]; first | (simp; done) | (simp; omega)), rfl⟩
  · have d1 : decide ((48 : Int) ≤ (n : Int)) = false := by simp; omega
    go_enter Tryd.func29, Tryd.ntmps29
    go_wp2
    go_ret
    exact ⟨ret_bool (by rw [Bool.eq_iff_iff]; first | (simp; done) | (simp; omega)), rfl⟩

theorem isInLine_any (c : UInt8) (w : World) : Calls Tryd.prog 35 #[.int .u8 c.toNat] w fun e w' => e = .returned (.bool (lin c)) ∧ w' = w := by
  unfold lin
  generalize c.toNat = n
  go_enter Tryd.func35, Tryd.ntmps35
  go_wp2
  go_ret
  exact ⟨ret_bool (by rw [Bool.eq_iff_iff]; first | (simp; done) | (simp; omega)), rfl⟩
theorem isInWord_any (c : UInt8) (w : World) : Calls Tryd.prog 45 #[.int .u8 c.toNat] w fun e w' => e = .returned (.bool (wrd c)) ∧ w' = w := by
  have K := Lib.hid (isLetter_any c)
  have K2 := Lib.hid (isDigit_any c)
  obtain ⟨r, hr⟩ : ∃ r, r = wrd c := ⟨_, rfl⟩
  rw [← hr]
  unfold wrd at hr
  have HR := Lib.hid hr
  clear hr
  generalize ltr c = a at *
  generalize dgt c = b at *
  generalize c.toNat = n at *
  cases a
  · cases b
    · go_enter Tryd.func45, Tryd.ntmps45
      go_wp2_with (first | (refine (K.out _).mono ?_; rintro _ _ ⟨rfl, rfl⟩) | (refine (K2.out _).mono ?_; rintro _ _ ⟨rfl, rfl⟩))
      go_ret
      exact ⟨ret_bool (by rw [HR.out]; simp only [Bool.false_or]; rw [Bool.eq_iff_iff]; simp; omega), rfl⟩
    · go_enter Tryd.func45, Tryd.ntmps45
      go_wp2_with (first | (refine (K.out _).mono ?_; rintro _ _ ⟨rfl, rfl⟩) | (refine (K2.out _).mono ?_; rintro _ _ ⟨rfl, rfl⟩))
      go_ret
      exact ⟨ret_bool (by rw [HR.out]; rfl), rfl⟩
  · go_enter Tryd.func45, Tryd.ntmps45
    go_wp2_with (first | (refine (K.out _).mono ?_; rintro _ _ ⟨rfl, rfl⟩) | (refine (K2.out _).mono ?_; rintro _ _ ⟨rfl, rfl⟩))
    go_ret
    exact ⟨ret_bool (by rw [HR.out]; rfl), rfl⟩
theorem isInNumber_any (c : UInt8) (w : World) : Calls Tryd.prog 46 #[.int .u8 c.toNat] w fun e w' => e = .returned (.bool (nmb c)) ∧ w' = w := by
  have K := Lib.hid (isInWord_any c)
  obtain ⟨r, hr⟩ : ∃ r, r = nmb c := ⟨_, rfl⟩
  rw [← hr]
  unfold nmb at hr
  have HR := Lib.hid hr
  clear hr
  generalize wrd c = a at *
  generalize c.toNat = n at *
  cases a
  · go_enter Tryd.func46, Tryd.ntmps46
    go_wp2_with (refine (K.out _).mono ?_; rintro _ _ ⟨rfl, rfl⟩)
    go_ret
    exact ⟨ret_bool (by rw [HR.out]; simp only [Bool.false_or]; rw [Bool.eq_iff_iff]; simp; omega), rfl⟩
  · go_enter Tryd.func46, Tryd.ntmps46
    go_wp2_with (refine (K.out _).mono ?_; rintro _ _ ⟨rfl, rfl⟩)
    go_ret
    exact ⟨ret_bool (by rw [HR.out]; rfl), rfl⟩

theorem tw_stop {p : UInt8 → Bool} {l : List UInt8} {k : Nat} (hk : k < l.length) (h1 : (l.take k).all p = true) (h2 : p (l.getD k 0) = false) : l.takeWhile p = l.take k := by
  have e : l = l.take k ++ l.drop k := (List.take_append_drop k l).symm
  rw [e, tw_eq _ _ h1]
  · rw [← e]
  · intro c hc
    rw [List.head?_drop, List.getElem?_eq_getElem hk] at hc
    simp only [Option.some.injEq] at hc
    rw [List.getD_eq_getElem?_getD, List.getElem?_eq_getElem hk, Option.getD_some, hc] at h2
    exact h2
theorem tw_whole {p : UInt8 → Bool} {l : List UInt8} (h1 : l.all p = true) : l.takeWhile p = l := by
  have := tw_eq (p := p) l [] h1 (fun c hc => by simp at hc)
  rwa [List.append_nil] at this
theorem all_next {p : UInt8 → Bool} {l : List UInt8} {k : Nat} (hk : k < l.length) (h1 : (l.take k).all p = true) (h2 : p (l.getD k 0) = true) : (l.take (k + 1)).all p = true := by
  rw [List.take_succ_eq_append_getElem hk, List.all_append, h1]
  rw [List.getD_eq_getElem?_getD, List.getElem?_eq_getElem hk, Option.getD_some] at h2
  simp [h2]
/-- A function that is handed over: what it says of bytes. -/
def Says (F : FuncId) (p : UInt8 → Bool) : Prop := (∀ (c : UInt8) (w : World), Calls Tryd.prog F #[.int .u8 c.toNat] w fun e w' => e = .returned (.bool (p c)) ∧ w' = w) ∧
  ∀ (args : Array Value) (w : World), (callFunc F args).run Tryd.prog w = .ok (.enter F args) w
theorem says_line : Says 35 lin := ⟨isInLine_any, fun _ _ => by kernel_rfl⟩
theorem says_word : Says 45 wrd := ⟨isInWord_any, fun _ _ => by kernel_rfl⟩
theorem says_number : Says 46 nmb := ⟨isInNumber_any, fun _ _ => by kernel_rfl⟩
theorem says_digit : Says 39 dgt := ⟨isDigit_any, fun _ _ => by kernel_rfl⟩
set_option maxRecDepth 100000 in
set_option maxHeartbeats 400000 in
theorem beginning_any (F : FuncId) (p : UInt8 → Bool) (hF : Says F p) (s : ByteArray) (w : World) (hs : s.size ≤ 281474976710656) :
    Calls Tryd.prog 41 #[.string s, .func (.func F) #[] #[]] w fun e w' => e = .returned (.string (bs (s.data.toList.takeWhile p))) ∧ w' = w := by
  have K := Lib.hid hF.1
  have hE := hF.2
  obtain ⟨l, hl⟩ : ∃ l, l = s.data.toList := ⟨_, rfl⟩
  have hsz : s.size = l.length := by rw [hl]; simp
  have hget : Hid (∀ i (h : i < s.size), s[i] = l.getD i 0) := fun i h => by rw [hl]; exact get_list s i h
  have HS : Hid (s = bs l) := by show _ = _; rw [hl]; exact bs_of s
  rw [← hl]
  have HL := Lib.hid hl
  obtain ⟨n, hn⟩ : ∃ n, n = s.size := ⟨_, rfl⟩
  have HN := Lib.hid hn
  have HZ := Lib.hid hsz
  clear hF hl hsz
  go_enter Tryd.func41, Tryd.ntmps41
  go_wp2_with fail
  go_loopg [8] n (fun g s8 wr => ∃ k : Nat, s8 = .int .i64 k ∧ k ≤ n ∧ n - k ≤ g ∧ Hid ((l.take k).all p = true) ∧ wr = w)
  case atStart => exact ⟨0, rfl, by omega, by omega, rfl, rfl⟩
  case round =>
    obtain ⟨k, rfl, hk, hkg, HA, rfl⟩ := hrel
    by_cases hlt : k < n
    · have hltz : (k : Int) < (s.size : Int) := by omega
      have hkl : k < l.length := by rw [← HZ.out]; omega
      have hks : k < s.size := by omega
      have hgl := hget.out k hks
      have KC := Lib.hid (K.out s[k])
      cases hp : p s[k] with
      | true =>
        have HA2 : Hid ((l.take (k + 1)).all p = true) := all_next hkl HA.out (by rw [← hgl]; exact hp)
        rw [hp] at KC
        clear hp hgl HA
        go_wp2_with (refine (KC.out _).mono ?_; rintro _ _ ⟨rfl, rfl⟩)
        go_roundg (n - (k + 1))
        case measure => omega
        case rel => exact ⟨k + 1, by go_num, by omega, by omega, HA2, rfl⟩
      | false =>
        have HE : Hid (l.takeWhile p = l.take k) := tw_stop hkl HA.out (by rw [← hgl]; exact hp)
        rw [hp] at KC
        clear hp hgl HA
        go_wp2_with (refine (KC.out _).mono ?_; rintro _ _ ⟨rfl, rfl⟩)
        go_ret
        exact ⟨ret_str (by rw [HE.out, ← bs_take, ← HS.out]), rfl⟩
    · have hltz : ¬ (k : Int) < (s.size : Int) := by omega
      have hkn : k = s.size := by omega
      have HE : Hid (l.takeWhile p = l) := tw_whole (by have := HA.out; rwa [List.take_of_length_le (by rw [← HZ.out]; omega)] at this)
      clear HA
      go_wp2_with fail
      go_ret
      exact ⟨ret_str (by rw [HE.out, ← HS.out]), rfl⟩
end Go.Proofs.YtoaeceeookknnaaDoor
