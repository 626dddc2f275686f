/-
  The contract of signLength, and of the reference's Sign.
-/
import Derived.Test.YtoaeceeookknnaaDoorLText
namespace Go.Proofs.YtoaeceeookknnaaDoor
open Go.RowKit Lx

theorem pre_one (l : List UInt8) : Lib.hasPrefix l [61] = decide (l.head? = some 61) := by
  unfold Lib.hasPrefix
  cases l with
  | nil => rfl
  | cons c l =>
    simp only [List.isPrefixOf, List.head?_cons, Option.some.injEq, Bool.and_true]
    rw [Bool.eq_iff_iff, beq_iff_eq, decide_eq_true_eq]
    exact eq_comm
theorem nat61 {d : UInt8} (h : (d.toNat : Int) = 61) : d.toNat = 61 := by omega
theorem sgn_s1 {c : UInt8} (l : List UInt8) (h33 : c.toNat ≠ 33) (h60 : c.toNat ≠ 60) (h62 : c.toNat ≠ 62) : sgn (c :: l) = if isS1 c = true then 1 else 0 := by
  simp only [sgn]; rw [if_neg h33, if_neg (by omega)]
theorem sgn_33 {c : UInt8} (l : List UInt8) (h : c.toNat = 33) : sgn (c :: l) = if decide (l.head? = some 61) = true then 2 else 0 := by
  simp only [sgn, decide_eq_true_eq]; rw [if_pos h]
theorem sgn_6 {c : UInt8} (l : List UInt8) (h : c.toNat = 60 ∨ c.toNat = 62) : sgn (c :: l) = if decide (l.head? = some 61) = true then 2 else 1 := by
  simp only [sgn, decide_eq_true_eq]; rw [if_neg (by omega), if_pos h]

set_option maxRecDepth 100000 in
set_option maxHeartbeats 2000000 in
theorem signLength_any (s : ByteArray) (c : UInt8) (r : List UInt8) (w : World) (hl : s.data.toList = c :: r) (hs : s.size ≤ 281474976710656) :
    Calls Tryd.prog 42 #[.string s] w fun e w' => e = .returned (.int .i64 (sgn (c :: r) : Nat)) ∧ w' = w := by
  have hsz : s.size = r.length + 1 := by rw [← len_bytes, hl]; rfl
  have h0 : 0 < s.size := by omega
  have hget : s[0] = c := by rw [get_list s 0 h0, hl]; rfl
  have KP : Hid (∀ w : World, Calls Tryd.prog 51 #[.string (s.extract 1 s.size), .string ⟨#[61]⟩] w fun e w' => e = .returned (.bool (decide (r.head? = some 61))) ∧ w' = w) := fun w => by
    have h := Tryd.strings_HasPrefix (s.extract 1 s.size) ⟨#[61]⟩ w
    rw [Lib.extract_to_end, hl] at h
    show Calls _ _ _ _ _
    rw [← pre_one]; exact h
  have h1z : (1 : Int) ≤ (s.size : Int) := by omega
  have hn : ∀ h, (s[0]'h).toNat = c.toNat := fun h => by rw [← hget]
  have HG : Hid (s[0].toNat = c.toNat) := hn h0
  obtain ⟨R, hR⟩ : ∃ R, R = sgn (c :: r) := ⟨_, rfl⟩
  rw [← hR]
  have hd : Hid (if c.toNat = 33 then R = (if decide (r.head? = some 61) = true then 2 else 0) else if c.toNat = 60 ∨ c.toNat = 62 then R = (if decide (r.head? = some 61) = true then 2 else 1) else R = if isS1 c = true then 1 else 0) := by
    show ite _ _ _
    by_cases h33 : c.toNat = 33
    · rw [if_pos h33, hR, sgn_33 r h33]
    · rw [if_neg h33]
      by_cases h6 : c.toNat = 60 ∨ c.toNat = 62
      · rw [if_pos h6, hR, sgn_6 r h6]
      · rw [if_neg h6, hR, sgn_s1 r h33 (by omega) (by omega)]
  have hS : Hid (isS1 c = [123, 125, 40, 41, 59, 44, 58, 43, 45, 42, 47, 61].contains c.toNat) := rfl
  clear hR hl hget hn
  generalize decide (r.head? = some 61) = q at *
  generalize isS1 c = S at *
  generalize c.toNat = n at *
  by_cases h33 : n = 33
  · subst h33
    cases q
    · have HR : Hid (R = 0) := by have := hd.out; show _ = _; simpa using this
      have e33 : ((s[0].toNat : Int) == 33) = true := by rw [HG.out]; rfl
      have e60 : ((s[0].toNat : Int) == 60) = false := by rw [HG.out]; rfl
      have e62 : ((s[0].toNat : Int) == 62) = false := by rw [HG.out]; rfl
      have e123 : ((s[0].toNat : Int) == 123) = false := by rw [HG.out]; rfl
      have e125 : ((s[0].toNat : Int) == 125) = false := by rw [HG.out]; rfl
      have e40 : ((s[0].toNat : Int) == 40) = false := by rw [HG.out]; rfl
      have e41 : ((s[0].toNat : Int) == 41) = false := by rw [HG.out]; rfl
      have e59 : ((s[0].toNat : Int) == 59) = false := by rw [HG.out]; rfl
      have e44 : ((s[0].toNat : Int) == 44) = false := by rw [HG.out]; rfl
      have e58 : ((s[0].toNat : Int) == 58) = false := by rw [HG.out]; rfl
      have e43 : ((s[0].toNat : Int) == 43) = false := by rw [HG.out]; rfl
      have e45 : ((s[0].toNat : Int) == 45) = false := by rw [HG.out]; rfl
      have e42 : ((s[0].toNat : Int) == 42) = false := by rw [HG.out]; rfl
      have e47 : ((s[0].toNat : Int) == 47) = false := by rw [HG.out]; rfl
      have e61 : ((s[0].toNat : Int) == 61) = false := by rw [HG.out]; rfl
      clear HG hd hS hsz
      go_enter Tryd.func42, Tryd.ntmps42
      go_wp2_with (refine (KP.out _).mono ?_; rintro _ _ ⟨rfl, rfl⟩)
      go_ret
      exact ⟨ret_i64 (by rw [HR.out]; rfl), rfl⟩
    · have HR : Hid (R = 2) := by have := hd.out; show _ = _; simpa using this
      have e33 : ((s[0].toNat : Int) == 33) = true := by rw [HG.out]; rfl
      have e60 : ((s[0].toNat : Int) == 60) = false := by rw [HG.out]; rfl
      have e62 : ((s[0].toNat : Int) == 62) = false := by rw [HG.out]; rfl
      have e123 : ((s[0].toNat : Int) == 123) = false := by rw [HG.out]; rfl
      have e125 : ((s[0].toNat : Int) == 125) = false := by rw [HG.out]; rfl
      have e40 : ((s[0].toNat : Int) == 40) = false := by rw [HG.out]; rfl
      have e41 : ((s[0].toNat : Int) == 41) = false := by rw [HG.out]; rfl
      have e59 : ((s[0].toNat : Int) == 59) = false := by rw [HG.out]; rfl
      have e44 : ((s[0].toNat : Int) == 44) = false := by rw [HG.out]; rfl
      have e58 : ((s[0].toNat : Int) == 58) = false := by rw [HG.out]; rfl
      have e43 : ((s[0].toNat : Int) == 43) = false := by rw [HG.out]; rfl
      have e45 : ((s[0].toNat : Int) == 45) = false := by rw [HG.out]; rfl
      have e42 : ((s[0].toNat : Int) == 42) = false := by rw [HG.out]; rfl
      have e47 : ((s[0].toNat : Int) == 47) = false := by rw [HG.out]; rfl
      have e61 : ((s[0].toNat : Int) == 61) = false := by rw [HG.out]; rfl
      clear HG hd hS hsz
      go_enter Tryd.func42, Tryd.ntmps42
      go_wp2_with (refine (KP.out _).mono ?_; rintro _ _ ⟨rfl, rfl⟩)
      go_ret
      exact ⟨ret_i64 (by rw [HR.out]; rfl), rfl⟩
  by_cases h60 : n = 60
  · subst h60
    cases q
    · have HR : Hid (R = 1) := by have := hd.out; show _ = _; simpa using this
      have e33 : ((s[0].toNat : Int) == 33) = false := by rw [HG.out]; rfl
      have e60 : ((s[0].toNat : Int) == 60) = true := by rw [HG.out]; rfl
      have e62 : ((s[0].toNat : Int) == 62) = false := by rw [HG.out]; rfl
      have e123 : ((s[0].toNat : Int) == 123) = false := by rw [HG.out]; rfl
      have e125 : ((s[0].toNat : Int) == 125) = false := by rw [HG.out]; rfl
      have e40 : ((s[0].toNat : Int) == 40) = false := by rw [HG.out]; rfl
      have e41 : ((s[0].toNat : Int) == 41) = false := by rw [HG.out]; rfl
      have e59 : ((s[0].toNat : Int) == 59) = false := by rw [HG.out]; rfl
      have e44 : ((s[0].toNat : Int) == 44) = false := by rw [HG.out]; rfl
      have e58 : ((s[0].toNat : Int) == 58) = false := by rw [HG.out]; rfl
      have e43 : ((s[0].toNat : Int) == 43) = false := by rw [HG.out]; rfl
      have e45 : ((s[0].toNat : Int) == 45) = false := by rw [HG.out]; rfl
      have e42 : ((s[0].toNat : Int) == 42) = false := by rw [HG.out]; rfl
      have e47 : ((s[0].toNat : Int) == 47) = false := by rw [HG.out]; rfl
      have e61 : ((s[0].toNat : Int) == 61) = false := by rw [HG.out]; rfl
      clear HG hd hS hsz
      go_enter Tryd.func42, Tryd.ntmps42
      go_wp2_with (refine (KP.out _).mono ?_; rintro _ _ ⟨rfl, rfl⟩)
      go_ret
      exact ⟨ret_i64 (by rw [HR.out]; rfl), rfl⟩
    · have HR : Hid (R = 2) := by have := hd.out; show _ = _; simpa using this
      have e33 : ((s[0].toNat : Int) == 33) = false := by rw [HG.out]; rfl
      have e60 : ((s[0].toNat : Int) == 60) = true := by rw [HG.out]; rfl
      have e62 : ((s[0].toNat : Int) == 62) = false := by rw [HG.out]; rfl
      have e123 : ((s[0].toNat : Int) == 123) = false := by rw [HG.out]; rfl
      have e125 : ((s[0].toNat : Int) == 125) = false := by rw [HG.out]; rfl
      have e40 : ((s[0].toNat : Int) == 40) = false := by rw [HG.out]; rfl
      have e41 : ((s[0].toNat : Int) == 41) = false := by rw [HG.out]; rfl
      have e59 : ((s[0].toNat : Int) == 59) = false := by rw [HG.out]; rfl
      have e44 : ((s[0].toNat : Int) == 44) = false := by rw [HG.out]; rfl
      have e58 : ((s[0].toNat : Int) == 58) = false := by rw [HG.out]; rfl
      have e43 : ((s[0].toNat : Int) == 43) = false := by rw [HG.out]; rfl
      have e45 : ((s[0].toNat : Int) == 45) = false := by rw [HG.out]; rfl
      have e42 : ((s[0].toNat : Int) == 42) = false := by rw [HG.out]; rfl
      have e47 : ((s[0].toNat : Int) == 47) = false := by rw [HG.out]; rfl
      have e61 : ((s[0].toNat : Int) == 61) = false := by rw [HG.out]; rfl
      clear HG hd hS hsz
      go_enter Tryd.func42, Tryd.ntmps42
      go_wp2_with (refine (KP.out _).mono ?_; rintro _ _ ⟨rfl, rfl⟩)
      go_ret
      exact ⟨ret_i64 (by rw [HR.out]; rfl), rfl⟩
  by_cases h62 : n = 62
  · subst h62
    cases q
    · have HR : Hid (R = 1) := by have := hd.out; show _ = _; simpa using this
      have e33 : ((s[0].toNat : Int) == 33) = false := by rw [HG.out]; rfl
      have e60 : ((s[0].toNat : Int) == 60) = false := by rw [HG.out]; rfl
      have e62 : ((s[0].toNat : Int) == 62) = true := by rw [HG.out]; rfl
      have e123 : ((s[0].toNat : Int) == 123) = false := by rw [HG.out]; rfl
      have e125 : ((s[0].toNat : Int) == 125) = false := by rw [HG.out]; rfl
      have e40 : ((s[0].toNat : Int) == 40) = false := by rw [HG.out]; rfl
      have e41 : ((s[0].toNat : Int) == 41) = false := by rw [HG.out]; rfl
      have e59 : ((s[0].toNat : Int) == 59) = false := by rw [HG.out]; rfl
      have e44 : ((s[0].toNat : Int) == 44) = false := by rw [HG.out]; rfl
      have e58 : ((s[0].toNat : Int) == 58) = false := by rw [HG.out]; rfl
      have e43 : ((s[0].toNat : Int) == 43) = false := by rw [HG.out]; rfl
      have e45 : ((s[0].toNat : Int) == 45) = false := by rw [HG.out]; rfl
      have e42 : ((s[0].toNat : Int) == 42) = false := by rw [HG.out]; rfl
      have e47 : ((s[0].toNat : Int) == 47) = false := by rw [HG.out]; rfl
      have e61 : ((s[0].toNat : Int) == 61) = false := by rw [HG.out]; rfl
      clear HG hd hS hsz
      go_enter Tryd.func42, Tryd.ntmps42
      go_wp2_with (refine (KP.out _).mono ?_; rintro _ _ ⟨rfl, rfl⟩)
      go_ret
      exact ⟨ret_i64 (by rw [HR.out]; rfl), rfl⟩
    · have HR : Hid (R = 2) := by have := hd.out; show _ = _; simpa using this
      have e33 : ((s[0].toNat : Int) == 33) = false := by rw [HG.out]; rfl
      have e60 : ((s[0].toNat : Int) == 60) = false := by rw [HG.out]; rfl
      have e62 : ((s[0].toNat : Int) == 62) = true := by rw [HG.out]; rfl
      have e123 : ((s[0].toNat : Int) == 123) = false := by rw [HG.out]; rfl
      have e125 : ((s[0].toNat : Int) == 125) = false := by rw [HG.out]; rfl
      have e40 : ((s[0].toNat : Int) == 40) = false := by rw [HG.out]; rfl
      have e41 : ((s[0].toNat : Int) == 41) = false := by rw [HG.out]; rfl
      have e59 : ((s[0].toNat : Int) == 59) = false := by rw [HG.out]; rfl
      have e44 : ((s[0].toNat : Int) == 44) = false := by rw [HG.out]; rfl
      have e58 : ((s[0].toNat : Int) == 58) = false := by rw [HG.out]; rfl
      have e43 : ((s[0].toNat : Int) == 43) = false := by rw [HG.out]; rfl
      have e45 : ((s[0].toNat : Int) == 45) = false := by rw [HG.out]; rfl
      have e42 : ((s[0].toNat : Int) == 42) = false := by rw [HG.out]; rfl
      have e47 : ((s[0].toNat : Int) == 47) = false := by rw [HG.out]; rfl
      have e61 : ((s[0].toNat : Int) == 61) = false := by rw [HG.out]; rfl
      clear HG hd hS hsz
      go_enter Tryd.func42, Tryd.ntmps42
      go_wp2_with (refine (KP.out _).mono ?_; rintro _ _ ⟨rfl, rfl⟩)
      go_ret
      exact ⟨ret_i64 (by rw [HR.out]; rfl), rfl⟩
  by_cases h123 : n = 123
  · subst h123
    have HR : Hid (R = 1) := by have := hd.out; show _ = _; simpa [hS.out] using this
    have e33 : ((s[0].toNat : Int) == 33) = false := by rw [HG.out]; rfl
    have e60 : ((s[0].toNat : Int) == 60) = false := by rw [HG.out]; rfl
    have e62 : ((s[0].toNat : Int) == 62) = false := by rw [HG.out]; rfl
    have e123 : ((s[0].toNat : Int) == 123) = true := by rw [HG.out]; rfl
    have e125 : ((s[0].toNat : Int) == 125) = false := by rw [HG.out]; rfl
    have e40 : ((s[0].toNat : Int) == 40) = false := by rw [HG.out]; rfl
    have e41 : ((s[0].toNat : Int) == 41) = false := by rw [HG.out]; rfl
    have e59 : ((s[0].toNat : Int) == 59) = false := by rw [HG.out]; rfl
    have e44 : ((s[0].toNat : Int) == 44) = false := by rw [HG.out]; rfl
    have e58 : ((s[0].toNat : Int) == 58) = false := by rw [HG.out]; rfl
    have e43 : ((s[0].toNat : Int) == 43) = false := by rw [HG.out]; rfl
    have e45 : ((s[0].toNat : Int) == 45) = false := by rw [HG.out]; rfl
    have e42 : ((s[0].toNat : Int) == 42) = false := by rw [HG.out]; rfl
    have e47 : ((s[0].toNat : Int) == 47) = false := by rw [HG.out]; rfl
    have e61 : ((s[0].toNat : Int) == 61) = false := by rw [HG.out]; rfl
    clear HG hd hS hsz
    go_enter Tryd.func42, Tryd.ntmps42
    go_wp2_with (refine (KP.out _).mono ?_; rintro _ _ ⟨rfl, rfl⟩)
    go_ret
    exact ⟨ret_i64 (by rw [HR.out]; rfl), rfl⟩
  by_cases h125 : n = 125
  · subst h125
    have HR : Hid (R = 1) := by have := hd.out; show _ = _; simpa [hS.out] using this
    have e33 : ((s[0].toNat : Int) == 33) = false := by rw [HG.out]; rfl
    have e60 : ((s[0].toNat : Int) == 60) = false := by rw [HG.out]; rfl
    have e62 : ((s[0].toNat : Int) == 62) = false := by rw [HG.out]; rfl
    have e123 : ((s[0].toNat : Int) == 123) = false := by rw [HG.out]; rfl
    have e125 : ((s[0].toNat : Int) == 125) = true := by rw [HG.out]; rfl
    have e40 : ((s[0].toNat : Int) == 40) = false := by rw [HG.out]; rfl
    have e41 : ((s[0].toNat : Int) == 41) = false := by rw [HG.out]; rfl
    have e59 : ((s[0].toNat : Int) == 59) = false := by rw [HG.out]; rfl
    have e44 : ((s[0].toNat : Int) == 44) = false := by rw [HG.out]; rfl
    have e58 : ((s[0].toNat : Int) == 58) = false := by rw [HG.out]; rfl
    have e43 : ((s[0].toNat : Int) == 43) = false := by rw [HG.out]; rfl
    have e45 : ((s[0].toNat : Int) == 45) = false := by rw [HG.out]; rfl
    have e42 : ((s[0].toNat : Int) == 42) = false := by rw [HG.out]; rfl
    have e47 : ((s[0].toNat : Int) == 47) = false := by rw [HG.out]; rfl
    have e61 : ((s[0].toNat : Int) == 61) = false := by rw [HG.out]; rfl
    clear HG hd hS hsz
    go_enter Tryd.func42, Tryd.ntmps42
    go_wp2_with (refine (KP.out _).mono ?_; rintro _ _ ⟨rfl, rfl⟩)
    go_ret
    exact ⟨ret_i64 (by rw [HR.out]; rfl), rfl⟩
  by_cases h40 : n = 40
  · subst h40
    have HR : Hid (R = 1) := by have := hd.out; show _ = _; simpa [hS.out] using this
    have e33 : ((s[0].toNat : Int) == 33) = false := by rw [HG.out]; rfl
    have e60 : ((s[0].toNat : Int) == 60) = false := by rw [HG.out]; rfl
    have e62 : ((s[0].toNat : Int) == 62) = false := by rw [HG.out]; rfl
    have e123 : ((s[0].toNat : Int) == 123) = false := by rw [HG.out]; rfl
    have e125 : ((s[0].toNat : Int) == 125) = false := by rw [HG.out]; rfl
    have e40 : ((s[0].toNat : Int) == 40) = true := by rw [HG.out]; rfl
    have e41 : ((s[0].toNat : Int) == 41) = false := by rw [HG.out]; rfl
    have e59 : ((s[0].toNat : Int) == 59) = false := by rw [HG.out]; rfl
    have e44 : ((s[0].toNat : Int) == 44) = false := by rw [HG.out]; rfl
    have e58 : ((s[0].toNat : Int) == 58) = false := by rw [HG.out]; rfl
    have e43 : ((s[0].toNat : Int) == 43) = false := by rw [HG.out]; rfl
    have e45 : ((s[0].toNat : Int) == 45) = false := by rw [HG.out]; rfl
    have e42 : ((s[0].toNat : Int) == 42) = false := by rw [HG.out]; rfl
    have e47 : ((s[0].toNat : Int) == 47) = false := by rw [HG.out]; rfl
    have e61 : ((s[0].toNat : Int) == 61) = false := by rw [HG.out]; rfl
    clear HG hd hS hsz
    go_enter Tryd.func42, Tryd.ntmps42
    go_wp2_with (refine (KP.out _).mono ?_; rintro _ _ ⟨rfl, rfl⟩)
    go_ret
    exact ⟨ret_i64 (by rw [HR.out]; rfl), rfl⟩
  by_cases h41 : n = 41
  · subst h41
    have HR : Hid (R = 1) := by have := hd.out; show _ = _; simpa [hS.out] using this
    have e33 : ((s[0].toNat : Int) == 33) = false := by rw [HG.out]; rfl
    have e60 : ((s[0].toNat : Int) == 60) = false := by rw [HG.out]; rfl
    have e62 : ((s[0].toNat : Int) == 62) = false := by rw [HG.out]; rfl
    have e123 : ((s[0].toNat : Int) == 123) = false := by rw [HG.out]; rfl
    have e125 : ((s[0].toNat : Int) == 125) = false := by rw [HG.out]; rfl
    have e40 : ((s[0].toNat : Int) == 40) = false := by rw [HG.out]; rfl
    have e41 : ((s[0].toNat : Int) == 41) = true := by rw [HG.out]; rfl
    have e59 : ((s[0].toNat : Int) == 59) = false := by rw [HG.out]; rfl
    have e44 : ((s[0].toNat : Int) == 44) = false := by rw [HG.out]; rfl
    have e58 : ((s[0].toNat : Int) == 58) = false := by rw [HG.out]; rfl
    have e43 : ((s[0].toNat : Int) == 43) = false := by rw [HG.out]; rfl
    have e45 : ((s[0].toNat : Int) == 45) = false := by rw [HG.out]; rfl
    have e42 : ((s[0].toNat : Int) == 42) = false := by rw [HG.out]; rfl
    have e47 : ((s[0].toNat : Int) == 47) = false := by rw [HG.out]; rfl
    have e61 : ((s[0].toNat : Int) == 61) = false := by rw [HG.out]; rfl
    clear HG hd hS hsz
    go_enter Tryd.func42, Tryd.ntmps42
    go_wp2_with (refine (KP.out _).mono ?_; rintro _ _ ⟨rfl, rfl⟩)
    go_ret
    exact ⟨ret_i64 (by rw [HR.out]; rfl), rfl⟩
  by_cases h59 : n = 59
  · subst h59
    have HR : Hid (R = 1) := by have := hd.out; show _ = _; simpa [hS.out] using this
    have e33 : ((s[0].toNat : Int) == 33) = false := by rw [HG.out]; rfl
    have e60 : ((s[0].toNat : Int) == 60) = false := by rw [HG.out]; rfl
    have e62 : ((s[0].toNat : Int) == 62) = false := by rw [HG.out]; rfl
    have e123 : ((s[0].toNat : Int) == 123) = false := by rw [HG.out]; rfl
    have e125 : ((s[0].toNat : Int) == 125) = false := by rw [HG.out]; rfl
    have e40 : ((s[0].toNat : Int) == 40) = false := by rw [HG.out]; rfl
    have e41 : ((s[0].toNat : Int) == 41) = false := by rw [HG.out]; rfl
    have e59 : ((s[0].toNat : Int) == 59) = true := by rw [HG.out]; rfl
    have e44 : ((s[0].toNat : Int) == 44) = false := by rw [HG.out]; rfl
    have e58 : ((s[0].toNat : Int) == 58) = false := by rw [HG.out]; rfl
    have e43 : ((s[0].toNat : Int) == 43) = false := by rw [HG.out]; rfl
    have e45 : ((s[0].toNat : Int) == 45) = false := by rw [HG.out]; rfl
    have e42 : ((s[0].toNat : Int) == 42) = false := by rw [HG.out]; rfl
    have e47 : ((s[0].toNat : Int) == 47) = false := by rw [HG.out]; rfl
    have e61 : ((s[0].toNat : Int) == 61) = false := by rw [HG.out]; rfl
    clear HG hd hS hsz
    go_enter Tryd.func42, Tryd.ntmps42
    go_wp2_with (refine (KP.out _).mono ?_; rintro _ _ ⟨rfl, rfl⟩)
    go_ret
    exact ⟨ret_i64 (by rw [HR.out]; rfl), rfl⟩
  by_cases h44 : n = 44
  · subst h44
    have HR : Hid (R = 1) := by have := hd.out; show _ = _; simpa [hS.out] using this
    have e33 : ((s[0].toNat : Int) == 33) = false := by rw [HG.out]; rfl
    have e60 : ((s[0].toNat : Int) == 60) = false := by rw [HG.out]; rfl
    have e62 : ((s[0].toNat : Int) == 62) = false := by rw [HG.out]; rfl
    have e123 : ((s[0].toNat : Int) == 123) = false := by rw [HG.out]; rfl
    have e125 : ((s[0].toNat : Int) == 125) = false := by rw [HG.out]; rfl
    have e40 : ((s[0].toNat : Int) == 40) = false := by rw [HG.out]; rfl
    have e41 : ((s[0].toNat : Int) == 41) = false := by rw [HG.out]; rfl
    have e59 : ((s[0].toNat : Int) == 59) = false := by rw [HG.out]; rfl
    have e44 : ((s[0].toNat : Int) == 44) = true := by rw [HG.out]; rfl
    have e58 : ((s[0].toNat : Int) == 58) = false := by rw [HG.out]; rfl
    have e43 : ((s[0].toNat : Int) == 43) = false := by rw [HG.out]; rfl
    have e45 : ((s[0].toNat : Int) == 45) = false := by rw [HG.out]; rfl
    have e42 : ((s[0].toNat : Int) == 42) = false := by rw [HG.out]; rfl
    have e47 : ((s[0].toNat : Int) == 47) = false := by rw [HG.out]; rfl
    have e61 : ((s[0].toNat : Int) == 61) = false := by rw [HG.out]; rfl
    clear HG hd hS hsz
    go_enter Tryd.func42, Tryd.ntmps42
    go_wp2_with (refine (KP.out _).mono ?_; rintro _ _ ⟨rfl, rfl⟩)
    go_ret
    exact ⟨ret_i64 (by rw [HR.out]; rfl), rfl⟩
  by_cases h58 : n = 58
  · subst h58
    have HR : Hid (R = 1) := by have := hd.out; show _ = _; simpa [hS.out] using this
    have e33 : ((s[0].toNat : Int) == 33) = false := by rw [HG.out]; rfl
    have e60 : ((s[0].toNat : Int) == 60) = false := by rw [HG.out]; rfl
    have e62 : ((s[0].toNat : Int) == 62) = false := by rw [HG.out]; rfl
    have e123 : ((s[0].toNat : Int) == 123) = false := by rw [HG.out]; rfl
    have e125 : ((s[0].toNat : Int) == 125) = false := by rw [HG.out]; rfl
    have e40 : ((s[0].toNat : Int) == 40) = false := by rw [HG.out]; rfl
    have e41 : ((s[0].toNat : Int) == 41) = false := by rw [HG.out]; rfl
    have e59 : ((s[0].toNat : Int) == 59) = false := by rw [HG.out]; rfl
    have e44 : ((s[0].toNat : Int) == 44) = false := by rw [HG.out]; rfl
    have e58 : ((s[0].toNat : Int) == 58) = true := by rw [HG.out]; rfl
    have e43 : ((s[0].toNat : Int) == 43) = false := by rw [HG.out]; rfl
    have e45 : ((s[0].toNat : Int) == 45) = false := by rw [HG.out]; rfl
    have e42 : ((s[0].toNat : Int) == 42) = false := by rw [HG.out]; rfl
    have e47 : ((s[0].toNat : Int) == 47) = false := by rw [HG.out]; rfl
    have e61 : ((s[0].toNat : Int) == 61) = false := by rw [HG.out]; rfl
    clear HG hd hS hsz
    go_enter Tryd.func42, Tryd.ntmps42
    go_wp2_with (refine (KP.out _).mono ?_; rintro _ _ ⟨rfl, rfl⟩)
    go_ret
    exact ⟨ret_i64 (by rw [HR.out]; rfl), rfl⟩
  by_cases h43 : n = 43
  · subst h43
    have HR : Hid (R = 1) := by have := hd.out; show _ = _; simpa [hS.out] using this
    have e33 : ((s[0].toNat : Int) == 33) = false := by rw [HG.out]; rfl
    have e60 : ((s[0].toNat : Int) == 60) = false := by rw [HG.out]; rfl
    have e62 : ((s[0].toNat : Int) == 62) = false := by rw [HG.out]; rfl
    have e123 : ((s[0].toNat : Int) == 123) = false := by rw [HG.out]; rfl
    have e125 : ((s[0].toNat : Int) == 125) = false := by rw [HG.out]; rfl
    have e40 : ((s[0].toNat : Int) == 40) = false := by rw [HG.out]; rfl
    have e41 : ((s[0].toNat : Int) == 41) = false := by rw [HG.out]; rfl
    have e59 : ((s[0].toNat : Int) == 59) = false := by rw [HG.out]; rfl
    have e44 : ((s[0].toNat : Int) == 44) = false := by rw [HG.out]; rfl
    have e58 : ((s[0].toNat : Int) == 58) = false := by rw [HG.out]; rfl
    have e43 : ((s[0].toNat : Int) == 43) = true := by rw [HG.out]; rfl
    have e45 : ((s[0].toNat : Int) == 45) = false := by rw [HG.out]; rfl
    have e42 : ((s[0].toNat : Int) == 42) = false := by rw [HG.out]; rfl
    have e47 : ((s[0].toNat : Int) == 47) = false := by rw [HG.out]; rfl
    have e61 : ((s[0].toNat : Int) == 61) = false := by rw [HG.out]; rfl
    clear HG hd hS hsz
    go_enter Tryd.func42, Tryd.ntmps42
    go_wp2_with (refine (KP.out _).mono ?_; rintro _ _ ⟨rfl, rfl⟩)
    go_ret
    exact ⟨ret_i64 (by rw [HR.out]; rfl), rfl⟩
  by_cases h45 : n = 45
  · subst h45
    have HR : Hid (R = 1) := by have := hd.out; show _ = _; simpa [hS.out] using this
    have e33 : ((s[0].toNat : Int) == 33) = false := by rw [HG.out]; rfl
    have e60 : ((s[0].toNat : Int) == 60) = false := by rw [HG.out]; rfl
    have e62 : ((s[0].toNat : Int) == 62) = false := by rw [HG.out]; rfl
    have e123 : ((s[0].toNat : Int) == 123) = false := by rw [HG.out]; rfl
    have e125 : ((s[0].toNat : Int) == 125) = false := by rw [HG.out]; rfl
    have e40 : ((s[0].toNat : Int) == 40) = false := by rw [HG.out]; rfl
    have e41 : ((s[0].toNat : Int) == 41) = false := by rw [HG.out]; rfl
    have e59 : ((s[0].toNat : Int) == 59) = false := by rw [HG.out]; rfl
    have e44 : ((s[0].toNat : Int) == 44) = false := by rw [HG.out]; rfl
    have e58 : ((s[0].toNat : Int) == 58) = false := by rw [HG.out]; rfl
    have e43 : ((s[0].toNat : Int) == 43) = false := by rw [HG.out]; rfl
    have e45 : ((s[0].toNat : Int) == 45) = true := by rw [HG.out]; rfl
    have e42 : ((s[0].toNat : Int) == 42) = false := by rw [HG.out]; rfl
    have e47 : ((s[0].toNat : Int) == 47) = false := by rw [HG.out]; rfl
    have e61 : ((s[0].toNat : Int) == 61) = false := by rw [HG.out]; rfl
    clear HG hd hS hsz
    go_enter Tryd.func42, Tryd.ntmps42
    go_wp2_with (refine (KP.out _).mono ?_; rintro _ _ ⟨rfl, rfl⟩)
    go_ret
    exact ⟨ret_i64 (by rw [HR.out]; rfl), rfl⟩
  by_cases h42 : n = 42
  · subst h42
    have HR : Hid (R = 1) := by have := hd.out; show _ = _; simpa [hS.out] using this
    have e33 : ((s[0].toNat : Int) == 33) = false := by rw [HG.out]; rfl
    have e60 : ((s[0].toNat : Int) == 60) = false := by rw [HG.out]; rfl
    have e62 : ((s[0].toNat : Int) == 62) = false := by rw [HG.out]; rfl
    have e123 : ((s[0].toNat : Int) == 123) = false := by rw [HG.out]; rfl
    have e125 : ((s[0].toNat : Int) == 125) = false := by rw [HG.out]; rfl
    have e40 : ((s[0].toNat : Int) == 40) = false := by rw [HG.out]; rfl
    have e41 : ((s[0].toNat : Int) == 41) = false := by rw [HG.out]; rfl
    have e59 : ((s[0].toNat : Int) == 59) = false := by rw [HG.out]; rfl
    have e44 : ((s[0].toNat : Int) == 44) = false := by rw [HG.out]; rfl
    have e58 : ((s[0].toNat : Int) == 58) = false := by rw [HG.out]; rfl
    have e43 : ((s[0].toNat : Int) == 43) = false := by rw [HG.out]; rfl
    have e45 : ((s[0].toNat : Int) == 45) = false := by rw [HG.out]; rfl
    have e42 : ((s[0].toNat : Int) == 42) = true := by rw [HG.out]; rfl
    have e47 : ((s[0].toNat : Int) == 47) = false := by rw [HG.out]; rfl
    have e61 : ((s[0].toNat : Int) == 61) = false := by rw [HG.out]; rfl
    clear HG hd hS hsz
    go_enter Tryd.func42, Tryd.ntmps42
    go_wp2_with (refine (KP.out _).mono ?_; rintro _ _ ⟨rfl, rfl⟩)
    go_ret
    exact ⟨ret_i64 (by rw [HR.out]; rfl), rfl⟩
  by_cases h47 : n = 47
  · subst h47
    have HR : Hid (R = 1) := by have := hd.out; show _ = _; simpa [hS.out] using this
    have e33 : ((s[0].toNat : Int) == 33) = false := by rw [HG.out]; rfl
    have e60 : ((s[0].toNat : Int) == 60) = false := by rw [HG.out]; rfl
    have e62 : ((s[0].toNat : Int) == 62) = false := by rw [HG.out]; rfl
    have e123 : ((s[0].toNat : Int) == 123) = false := by rw [HG.out]; rfl
    have e125 : ((s[0].toNat : Int) == 125) = false := by rw [HG.out]; rfl
    have e40 : ((s[0].toNat : Int) == 40) = false := by rw [HG.out]; rfl
    have e41 : ((s[0].toNat : Int) == 41) = false := by rw [HG.out]; rfl
    have e59 : ((s[0].toNat : Int) == 59) = false := by rw [HG.out]; rfl
    have e44 : ((s[0].toNat : Int) == 44) = false := by rw [HG.out]; rfl
    have e58 : ((s[0].toNat : Int) == 58) = false := by rw [HG.out]; rfl
    have e43 : ((s[0].toNat : Int) == 43) = false := by rw [HG.out]; rfl
    have e45 : ((s[0].toNat : Int) == 45) = false := by rw [HG.out]; rfl
    have e42 : ((s[0].toNat : Int) == 42) = false := by rw [HG.out]; rfl
    have e47 : ((s[0].toNat : Int) == 47) = true := by rw [HG.out]; rfl
    have e61 : ((s[0].toNat : Int) == 61) = false := by rw [HG.out]; rfl
    clear HG hd hS hsz
    go_enter Tryd.func42, Tryd.ntmps42
    go_wp2_with (refine (KP.out _).mono ?_; rintro _ _ ⟨rfl, rfl⟩)
    go_ret
    exact ⟨ret_i64 (by rw [HR.out]; rfl), rfl⟩
  by_cases h61 : n = 61
  · subst h61
    have HR : Hid (R = 1) := by have := hd.out; show _ = _; simpa [hS.out] using this
    have e33 : ((s[0].toNat : Int) == 33) = false := by rw [HG.out]; rfl
    have e60 : ((s[0].toNat : Int) == 60) = false := by rw [HG.out]; rfl
    have e62 : ((s[0].toNat : Int) == 62) = false := by rw [HG.out]; rfl
    have e123 : ((s[0].toNat : Int) == 123) = false := by rw [HG.out]; rfl
    have e125 : ((s[0].toNat : Int) == 125) = false := by rw [HG.out]; rfl
    have e40 : ((s[0].toNat : Int) == 40) = false := by rw [HG.out]; rfl
    have e41 : ((s[0].toNat : Int) == 41) = false := by rw [HG.out]; rfl
    have e59 : ((s[0].toNat : Int) == 59) = false := by rw [HG.out]; rfl
    have e44 : ((s[0].toNat : Int) == 44) = false := by rw [HG.out]; rfl
    have e58 : ((s[0].toNat : Int) == 58) = false := by rw [HG.out]; rfl
    have e43 : ((s[0].toNat : Int) == 43) = false := by rw [HG.out]; rfl
    have e45 : ((s[0].toNat : Int) == 45) = false := by rw [HG.out]; rfl
    have e42 : ((s[0].toNat : Int) == 42) = false := by rw [HG.out]; rfl
    have e47 : ((s[0].toNat : Int) == 47) = false := by rw [HG.out]; rfl
    have e61 : ((s[0].toNat : Int) == 61) = true := by rw [HG.out]; rfl
    clear HG hd hS hsz
    go_enter Tryd.func42, Tryd.ntmps42
    go_wp2_with (refine (KP.out _).mono ?_; rintro _ _ ⟨rfl, rfl⟩)
    go_ret
    exact ⟨ret_i64 (by rw [HR.out]; rfl), rfl⟩
  have HR : Hid (R = 0) := by have := hd.out; show _ = _; simpa [hS.out, h33, h60, h62, h123, h125, h40, h41, h59, h44, h58, h43, h45, h42, h47, h61] using this
  have e33 : ((s[0].toNat : Int) == 33) = false := by rw [HG.out]; simp; omega
  have e60 : ((s[0].toNat : Int) == 60) = false := by rw [HG.out]; simp; omega
  have e62 : ((s[0].toNat : Int) == 62) = false := by rw [HG.out]; simp; omega
  have e123 : ((s[0].toNat : Int) == 123) = false := by rw [HG.out]; simp; omega
  have e125 : ((s[0].toNat : Int) == 125) = false := by rw [HG.out]; simp; omega
  have e40 : ((s[0].toNat : Int) == 40) = false := by rw [HG.out]; simp; omega
  have e41 : ((s[0].toNat : Int) == 41) = false := by rw [HG.out]; simp; omega
  have e59 : ((s[0].toNat : Int) == 59) = false := by rw [HG.out]; simp; omega
  have e44 : ((s[0].toNat : Int) == 44) = false := by rw [HG.out]; simp; omega
  have e58 : ((s[0].toNat : Int) == 58) = false := by rw [HG.out]; simp; omega
  have e43 : ((s[0].toNat : Int) == 43) = false := by rw [HG.out]; simp; omega
  have e45 : ((s[0].toNat : Int) == 45) = false := by rw [HG.out]; simp; omega
  have e42 : ((s[0].toNat : Int) == 42) = false := by rw [HG.out]; simp; omega
  have e47 : ((s[0].toNat : Int) == 47) = false := by rw [HG.out]; simp; omega
  have e61 : ((s[0].toNat : Int) == 61) = false := by rw [HG.out]; simp; omega
  clear HG hd hS hsz
  go_enter Tryd.func42, Tryd.ntmps42
  go_wp2_with (refine (KP.out _).mono ?_; rintro _ _ ⟨rfl, rfl⟩)
  go_ret
  exact ⟨ret_i64 (by rw [HR.out]; rfl), rfl⟩
end Go.Proofs.YtoaeceeookknnaaDoor
