/-
  Contracts of the reference: Blank, Part, Skip, Sign.
-/
import Derived.Test.YtoaeceeookknnaaDoorLLex
namespace Go.Proofs.YtoaeceeookknnaaDoor
open Go.RowKit Lx

set_option maxRecDepth 100000 in
set_option maxHeartbeats 800000 in
theorem rBlank_any (c : UInt8) (w : World) : Calls Tryd.prog 23 #[.int .u8 c.toNat] w fun e w' => e = .returned (.bool (blk c)) ∧ w' = w := by
  obtain ⟨r, hr⟩ : ∃ r, r = blk c := ⟨_, rfl⟩
  rw [← hr]
  unfold blk at hr
  generalize c.toNat = n at *
  by_cases h32 : n = 32
  · have e32 : ((n : Int) == 32) = true := by subst h32; rfl
    have e9 : ((n : Int) == 9) = false := by subst h32; rfl
    have e10 : ((n : Int) == 10) = false := by subst h32; rfl
    have e13 : ((n : Int) == 13) = false := by subst h32; rfl
    have HR : Hid (r = true) := by show _ = _; rw [hr]; simp [h32]
    clear hr
    go_enter Tryd.func23, Tryd.ntmps23
    go_wp2
    go_ret
    exact ⟨ret_bool HR.out.symm, rfl⟩
  by_cases h9 : n = 9
  · have e32 : ((n : Int) == 32) = false := by subst h9; rfl
    have e9 : ((n : Int) == 9) = true := by subst h9; rfl
    have e10 : ((n : Int) == 10) = false := by subst h9; rfl
    have e13 : ((n : Int) == 13) = false := by subst h9; rfl
    have HR : Hid (r = true) := by show _ = _; rw [hr]; simp [h9]
    clear hr
    go_enter Tryd.func23, Tryd.ntmps23
    go_wp2
    go_ret
    exact ⟨ret_bool HR.out.symm, rfl⟩
  by_cases h10 : n = 10
  · have e32 : ((n : Int) == 32) = false := by subst h10; rfl
    have e9 : ((n : Int) == 9) = false := by subst h10; rfl
    have e10 : ((n : Int) == 10) = true := by subst h10; rfl
    have e13 : ((n : Int) == 13) = false := by subst h10; rfl
    have HR : Hid (r = true) := by show _ = _; rw [hr]; simp [h10]
    clear hr
    go_enter Tryd.func23, Tryd.ntmps23
    go_wp2
    go_ret
    exact ⟨ret_bool HR.out.symm, rfl⟩
  by_cases h13 : n = 13
  · have e32 : ((n : Int) == 32) = false := by subst h13; rfl
    have e9 : ((n : Int) == 9) = false := by subst h13; rfl
    have e10 : ((n : Int) == 10) = false := by subst h13; rfl
    have e13 : ((n : Int) == 13) = true := by subst h13; rfl
    have HR : Hid (r = true) := by show _ = _; rw [hr]; simp [h13]
    clear hr
    go_enter Tryd.func23, Tryd.ntmps23
    go_wp2
    go_ret
    exact ⟨ret_bool HR.out.symm, rfl⟩
  have e32 : ((n : Int) == 32) = false := by simp; omega
  have e9 : ((n : Int) == 9) = false := by simp; omega
  have e10 : ((n : Int) == 10) = false := by simp; omega
  have e13 : ((n : Int) == 13) = false := by simp; omega
  have HR : Hid (r = false) := by show _ = _; rw [hr]; simp [h32, h9, h10, h13]
  clear hr
  go_enter Tryd.func23, Tryd.ntmps23
  go_wp2
  go_ret
  exact ⟨ret_bool HR.out.symm, rfl⟩

def prt (b : Bool) (c : UInt8) : Bool := if b = true then nmb c else wrd c
set_option maxRecDepth 100000 in
set_option maxHeartbeats 800000 in
theorem rPart_any (c : UInt8) (b : Bool) (w : World) : Calls Tryd.prog 32 #[.int .u8 c.toNat, .bool b] w fun e w' => e = .returned (.bool (prt b c)) ∧ w' = w := by
  have K := Lib.hid (rLetter_any c)
  have K2 := Lib.hid (rDigit_any c)
  obtain ⟨r, hr⟩ : ∃ r, r = prt b c := ⟨_, rfl⟩
  rw [← hr]
  unfold prt nmb wrd at hr
  have HR := Lib.hid hr
  clear hr
  generalize ltr c = x at *
  generalize dgt c = y at *
  generalize c.toNat = n at *
  cases x
  · cases y
    · by_cases h : n = 95
      · have e1 : ((n : Int) == 95) = true := by simp; omega
        have HH := Lib.hid h
        clear h
        go_enter Tryd.func32, Tryd.ntmps32
        go_wp2_with (first | ((with_reducible refine (K.out _).mono ?_); rintro _ _ ⟨rfl, rfl⟩) | ((with_reducible refine (K2.out _).mono ?_); rintro _ _ ⟨rfl, rfl⟩))
        go_ret
        exact ⟨ret_bool (by rw [HR.out]; simp [HH.out]), rfl⟩
      · have e1 : ((n : Int) == 95) = false := by simp; omega
        cases b
        · go_enter Tryd.func32, Tryd.ntmps32
          go_wp2_with (first | ((with_reducible refine (K.out _).mono ?_); rintro _ _ ⟨rfl, rfl⟩) | ((with_reducible refine (K2.out _).mono ?_); rintro _ _ ⟨rfl, rfl⟩))
          go_ret
          exact ⟨ret_bool (by rw [HR.out]; simp [h]), rfl⟩
        · by_cases h2 : n = 46
          · have e2 : ((n : Int) == 46) = true := by simp; omega
            have HH := Lib.hid h2
            clear h2
            go_enter Tryd.func32, Tryd.ntmps32
            go_wp2_with (first | ((with_reducible refine (K.out _).mono ?_); rintro _ _ ⟨rfl, rfl⟩) | ((with_reducible refine (K2.out _).mono ?_); rintro _ _ ⟨rfl, rfl⟩))
            go_ret
            exact ⟨ret_bool (by rw [HR.out]; simp [HH.out]), rfl⟩
          · have e2 : ((n : Int) == 46) = false := by simp; omega
            go_enter Tryd.func32, Tryd.ntmps32
            go_wp2_with (first | ((with_reducible refine (K.out _).mono ?_); rintro _ _ ⟨rfl, rfl⟩) | ((with_reducible refine (K2.out _).mono ?_); rintro _ _ ⟨rfl, rfl⟩))
            go_ret
            exact ⟨ret_bool (by rw [HR.out]; simp [h, h2]), rfl⟩
    · go_enter Tryd.func32, Tryd.ntmps32
      go_wp2_with (first | ((with_reducible refine (K.out _).mono ?_); rintro _ _ ⟨rfl, rfl⟩) | ((with_reducible refine (K2.out _).mono ?_); rintro _ _ ⟨rfl, rfl⟩))
      go_ret
      exact ⟨ret_bool (by rw [HR.out]; simp), rfl⟩
  · go_enter Tryd.func32, Tryd.ntmps32
    go_wp2_with (first | ((with_reducible refine (K.out _).mono ?_); rintro _ _ ⟨rfl, rfl⟩) | ((with_reducible refine (K2.out _).mono ?_); rintro _ _ ⟨rfl, rfl⟩))
    go_ret
    exact ⟨ret_bool (by rw [HR.out]; simp), rfl⟩

theorem gp_ten (b : Bool) (r : List UInt8) {c : UInt8} (h : c.toNat = 10) : gp b (c :: r) = 1 + gp false r := by
  have hb : blk c = true := by unfold blk; simp [h]
  cases b
  · simp only [gp]; rw [if_neg (by omega), if_pos hb]
  · simp only [gp]; rw [if_pos h]
theorem gp_mark (b : Bool) (r : List UInt8) {c : UInt8} (h : c.toNat = 35) : gp b (c :: r) = 1 + gp true r := by
  cases b
  · simp only [gp]; rw [if_pos h]
  · simp only [gp]; rw [if_neg (by omega)]
theorem gp_in (r : List UInt8) {c : UInt8} (h : c.toNat ≠ 10) : gp true (c :: r) = 1 + gp true r := by simp only [gp]; rw [if_neg h]
set_option maxRecDepth 100000 in
set_option maxHeartbeats 2000000 in
theorem rSkip_any (s : ByteArray) (i : Nat) (w : World) (hi : i ≤ s.size) (hs : s.size ≤ 281474976710656) :
    Calls Tryd.prog 15 #[.string s, .int .i64 i] w fun e w' => e = .returned (.int .i64 (i + gp false (s.data.toList.drop i) : Nat)) ∧ w' = w := by
  obtain ⟨l, hl⟩ : ∃ l, l = s.data.toList := ⟨_, rfl⟩
  have hsz : s.size = l.length := by rw [hl]; simp
  have hget : Hid (∀ i (h : i < s.size), s[i] = l.getD i 0) := fun i h => by rw [hl]; exact get_list s i h
  rw [← hl]
  obtain ⟨G, hG⟩ : ∃ G, G = i + gp false (l.drop i) := ⟨_, rfl⟩
  rw [← hG]
  have HG := Lib.hid hG
  have HZ := Lib.hid hsz
  obtain ⟨N, hN⟩ : ∃ N, N = s.size := ⟨_, rfl⟩
  have HN := Lib.hid hN
  clear hl hG hsz
  go_enter Tryd.func15, Tryd.ntmps15
  go_wp2_with fail
  go_loopg [1, 5] N (fun g s1 s5 wr => ∃ (k : Nat) (b : Bool), s1 = .int .i64 k ∧ s5 = .bool b ∧ k ≤ N ∧ N - k ≤ g ∧ Hid (k + gp b (l.drop k) = G) ∧ wr = w)
  case atStart => exact ⟨i, false, rfl, rfl, by omega, by omega, HG.out.symm, rfl⟩
  case round =>
    obtain ⟨k, b, rfl, rfl, hk, hkg, HI, rfl⟩ := hrel
    by_cases hlt : k < s.size
    · have hltz : (k : Int) < (s.size : Int) := by omega
      have hkl : k < l.length := by rw [← HZ.out]; exact hlt
      have hc := hget.out k hlt
      have hd := drop_get hkl
      rw [← hc] at hd
      have KB := Lib.hid (rBlank_any s[k])
      by_cases h10 : s[k].toNat = 10
      · have hb : blk s[k] = true := by unfold blk; simp [h10]
        rw [hb] at KB
        clear hb
        cases b
        · have e10 : ((s[k].toNat : Int) == 10) = true := by simp; omega
          have e35 : ((s[k].toNat : Int) == 35) = false := by simp; omega
          have H2 : Hid (k + 1 + gp false (l.drop (k + 1)) = G) := by have := HI.out; rw [hd, gp_ten _ _ h10] at this; show _ = _; omega
          clear hd hc h10
          go_wp2_with ((with_reducible refine (KB.out _).mono ?_); rintro _ _ ⟨rfl, rfl⟩)
          go_roundg (N - (k + 1))
          case measure => omega
          case rel => exact ⟨k + 1, false, by go_num, rfl, by omega, by omega, H2, rfl⟩
        · have e10 : ((s[k].toNat : Int) == 10) = true := by simp; omega
          have e35 : ((s[k].toNat : Int) == 35) = false := by simp; omega
          have H2 : Hid (k + 1 + gp false (l.drop (k + 1)) = G) := by have := HI.out; rw [hd, gp_ten _ _ h10] at this; show _ = _; omega
          clear hd hc h10
          go_wp2_with ((with_reducible refine (KB.out _).mono ?_); rintro _ _ ⟨rfl, rfl⟩)
          go_roundg (N - (k + 1))
          case measure => omega
          case rel => exact ⟨k + 1, false, by go_num, rfl, by omega, by omega, H2, rfl⟩
      · have e10 : ((s[k].toNat : Int) == 10) = false := by simp; omega
        by_cases h35 : s[k].toNat = 35
        · cases b
          · have e35 : ((s[k].toNat : Int) == 35) = true := by simp; omega
            have H2 : Hid (k + 1 + gp true (l.drop (k + 1)) = G) := by have := HI.out; rw [hd, gp_mark _ _ h35] at this; show _ = _; omega
            clear hd hc h35
            go_wp2_with ((with_reducible refine (KB.out _).mono ?_); rintro _ _ ⟨rfl, rfl⟩)
            go_roundg (N - (k + 1))
            case measure => omega
            case rel => exact ⟨k + 1, true, by go_num, rfl, by omega, by omega, H2, rfl⟩
          · have e35 : ((s[k].toNat : Int) == 35) = true := by simp; omega
            have H2 : Hid (k + 1 + gp true (l.drop (k + 1)) = G) := by have := HI.out; rw [hd, gp_mark _ _ h35] at this; show _ = _; omega
            clear hd hc h35
            go_wp2_with ((with_reducible refine (KB.out _).mono ?_); rintro _ _ ⟨rfl, rfl⟩)
            go_roundg (N - (k + 1))
            case measure => omega
            case rel => exact ⟨k + 1, true, by go_num, rfl, by omega, by omega, H2, rfl⟩
        · have e35 : ((s[k].toNat : Int) == 35) = false := by simp; omega
          cases b
          · cases hb : blk s[k] with
            | false =>
              have H2 : Hid (k = G) := by have := HI.out; rw [gp_none hkl (by rw [← hc]; exact hb) (by rw [← hc]; exact h35)] at this; exact this
              rw [hb] at KB
              clear hd hc hb
              go_wp2_with ((with_reducible refine (KB.out _).mono ?_); rintro _ _ ⟨rfl, rfl⟩)
              go_ret
              exact ⟨ret_i64 (by rw [H2.out]), rfl⟩
            | true =>
              have H2 : Hid (k + 1 + gp false (l.drop (k + 1)) = G) := by have := HI.out; rw [gp_blank hkl (by rw [← hc]; exact hb)] at this; show _ = _; omega
              rw [hb] at KB
              clear hd hc hb
              go_wp2_with ((with_reducible refine (KB.out _).mono ?_); rintro _ _ ⟨rfl, rfl⟩)
              go_roundg (N - (k + 1))
              case measure => omega
              case rel => exact ⟨k + 1, false, by go_num, rfl, by omega, by omega, H2, rfl⟩
          · have H2 : Hid (k + 1 + gp true (l.drop (k + 1)) = G) := by have := HI.out; rw [hd, gp_in _ h10] at this; show _ = _; omega
            clear hd hc
            go_wp2_with ((with_reducible refine (KB.out _).mono ?_); rintro _ _ ⟨rfl, rfl⟩)
            go_roundg (N - (k + 1))
            case measure => omega
            case rel => exact ⟨k + 1, true, by go_num, rfl, by omega, by omega, H2, rfl⟩
    · have hltz : ¬ (k : Int) < (s.size : Int) := by omega
      have H2 : Hid (k = G) := by have := HI.out; rw [List.drop_eq_nil_of_le (by rw [← HZ.out]; omega)] at this; cases b <;> exact this
      go_wp2_with fail
      go_ret
      exact ⟨ret_i64 (by rw [H2.out]), rfl⟩
end Go.Proofs.YtoaeceeookknnaaDoor
