/-
  The contract of the reference's Sign.
-/
import Derived.Test.YtoaeceeookknnaaDoorLRefA
namespace Go.Proofs.YtoaeceeookknnaaDoor
open Go.RowKit Lx

set_option maxRecDepth 100000 in
set_option maxHeartbeats 2000000 in
theorem rSign_any (s : ByteArray) (c : UInt8) (r : List UInt8) (w : World) (hl : s.data.toList = c :: r) (hs : s.size ≤ 281474976710656) :
    Calls Tryd.prog 31 #[.string s] w fun e w' => e = .returned (.int .i64 (sgn (c :: r) : Nat)) ∧ w' = w := by
  have hsz : s.size = r.length + 1 := by rw [← len_bytes, hl]; rfl
  have h0 : 0 < s.size := by omega
  have hget : s[0] = c := by rw [get_list s 0 h0, hl]; rfl
  have HQ : Hid (∀ h : 1 < s.size, decide (r.head? = some 61) = ((s[1].toNat : Int) == 61)) := fun h => by
    have h2 := get_list s 1 h
    rw [hl] at h2
    have h3 : r = r.getD 0 0 :: r.drop 1 := by
      cases r with
      | nil => simp at hsz; omega
      | cons d r => rfl
    have h4 : (c :: r).getD 1 0 = r.getD 0 0 := rfl
    rw [h2, h4, h3, List.head?_cons]
    generalize r.getD 0 0 = d
    rw [Bool.eq_iff_iff]
    simp only [decide_eq_true_eq, Option.some.injEq, beq_iff_eq]
    exact ⟨fun h => by rw [h]; rfl, fun h => UInt8.toNat_inj.1 (nat61 h)⟩
  have HL : Hid (¬ 1 < s.size → decide (r.head? = some 61) = false) := fun h => by
    cases r with
    | nil => rfl
    | cons d r => simp at hsz; omega
  have hn : ∀ h, (s[0]'h).toNat = c.toNat := fun h => by rw [← hget]
  have HG : Hid (s[0].toNat = c.toNat) := hn h0
  obtain ⟨R, hR⟩ : ∃ R, R = sgn (c :: r) := ⟨_, rfl⟩
  rw [← hR]
  have hd : Hid (if c.toNat = 33 then R = (if decide (r.head? = some 61) = true then 2 else 0) else if c.toNat = 60 ∨ c.toNat = 62 then R = (if decide (r.head? = some 61) = true then 2 else 1) else R = if isS1 c = true then 1 else 0) := by
    show ite _ _ _
    by_cases h33 : c.toNat = 33
    · rw [if_pos h33, hR, sgn_33 r h33]
    · rw [if_neg h33]
      by_cases h6 : c.toNat = 60 ∨ c.toNat = 62
      · rw [if_pos h6, hR, sgn_6 r h6]
      · rw [if_neg h6, hR, sgn_s1 r h33 (by omega) (by omega)]
  have hS : Hid (isS1 c = [123, 125, 40, 41, 59, 44, 58, 43, 45, 42, 47, 61].contains c.toNat) := rfl
  clear hR hl hget hn
  generalize decide (r.head? = some 61) = q at *
  generalize isS1 c = S at *
  generalize c.toNat = n at *
  by_cases h33 : n = 33
  · have HK := Lib.hid h33
    clear h33
    by_cases hlen : 1 < s.size
    · cases q
      · have HR : Hid (R = 0) := by have := hd.out; show _ = _; simpa [HK.out] using this
        have e33 : ((s[0].toNat : Int) == 33) = true := by rw [HG.out, HK.out]; rfl
        have e60 : ((s[0].toNat : Int) == 60) = false := by rw [HG.out, HK.out]; rfl
        have e62 : ((s[0].toNat : Int) == 62) = false := by rw [HG.out, HK.out]; rfl
        have e123 : ((s[0].toNat : Int) == 123) = false := by rw [HG.out, HK.out]; rfl
        have e125 : ((s[0].toNat : Int) == 125) = false := by rw [HG.out, HK.out]; rfl
        have e40 : ((s[0].toNat : Int) == 40) = false := by rw [HG.out, HK.out]; rfl
        have e41 : ((s[0].toNat : Int) == 41) = false := by rw [HG.out, HK.out]; rfl
        have e59 : ((s[0].toNat : Int) == 59) = false := by rw [HG.out, HK.out]; rfl
        have e44 : ((s[0].toNat : Int) == 44) = false := by rw [HG.out, HK.out]; rfl
        have e58 : ((s[0].toNat : Int) == 58) = false := by rw [HG.out, HK.out]; rfl
        have e43 : ((s[0].toNat : Int) == 43) = false := by rw [HG.out, HK.out]; rfl
        have e45 : ((s[0].toNat : Int) == 45) = false := by rw [HG.out, HK.out]; rfl
        have e42 : ((s[0].toNat : Int) == 42) = false := by rw [HG.out, HK.out]; rfl
        have e47 : ((s[0].toNat : Int) == 47) = false := by rw [HG.out, HK.out]; rfl
        have e61 : ((s[0].toNat : Int) == 61) = false := by rw [HG.out, HK.out]; rfl
        have l1 : (1 : Int) < (s.size : Int) := by omega
        have l2 : decide ((1 : Int) < (s.size : Int)) = true := decide_eq_true l1
        have q1 : ((s[1].toNat : Int) == 61) = false := (HQ.out hlen).symm
        clear HG hd hS hsz HQ HL HK
        go_enter Tryd.func31, Tryd.ntmps31
        go_wp2_with fail
        go_ret
        exact ⟨ret_i64 (by rw [HR.out]; rfl), rfl⟩
      · have HR : Hid (R = 2) := by have := hd.out; show _ = _; simpa [HK.out] using this
        have e33 : ((s[0].toNat : Int) == 33) = true := by rw [HG.out, HK.out]; rfl
        have e60 : ((s[0].toNat : Int) == 60) = false := by rw [HG.out, HK.out]; rfl
        have e62 : ((s[0].toNat : Int) == 62) = false := by rw [HG.out, HK.out]; rfl
        have e123 : ((s[0].toNat : Int) == 123) = false := by rw [HG.out, HK.out]; rfl
        have e125 : ((s[0].toNat : Int) == 125) = false := by rw [HG.out, HK.out]; rfl
        have e40 : ((s[0].toNat : Int) == 40) = false := by rw [HG.out, HK.out]; rfl
        have e41 : ((s[0].toNat : Int) == 41) = false := by rw [HG.out, HK.out]; rfl
        have e59 : ((s[0].toNat : Int) == 59) = false := by rw [HG.out, HK.out]; rfl
        have e44 : ((s[0].toNat : Int) == 44) = false := by rw [HG.out, HK.out]; rfl
        have e58 : ((s[0].toNat : Int) == 58) = false := by rw [HG.out, HK.out]; rfl
        have e43 : ((s[0].toNat : Int) == 43) = false := by rw [HG.out, HK.out]; rfl
        have e45 : ((s[0].toNat : Int) == 45) = false := by rw [HG.out, HK.out]; rfl
        have e42 : ((s[0].toNat : Int) == 42) = false := by rw [HG.out, HK.out]; rfl
        have e47 : ((s[0].toNat : Int) == 47) = false := by rw [HG.out, HK.out]; rfl
        have e61 : ((s[0].toNat : Int) == 61) = false := by rw [HG.out, HK.out]; rfl
        have l1 : (1 : Int) < (s.size : Int) := by omega
        have l2 : decide ((1 : Int) < (s.size : Int)) = true := decide_eq_true l1
        have q1 : ((s[1].toNat : Int) == 61) = true := (HQ.out hlen).symm
        clear HG hd hS hsz HQ HL HK
        go_enter Tryd.func31, Tryd.ntmps31
        go_wp2_with fail
        go_ret
        exact ⟨ret_i64 (by rw [HR.out]; rfl), rfl⟩
    · obtain rfl : q = false := HL.out hlen
      have HR : Hid (R = 0) := by have := hd.out; show _ = _; simpa [HK.out] using this
      have e33 : ((s[0].toNat : Int) == 33) = true := by rw [HG.out, HK.out]; rfl
      have e60 : ((s[0].toNat : Int) == 60) = false := by rw [HG.out, HK.out]; rfl
      have e62 : ((s[0].toNat : Int) == 62) = false := by rw [HG.out, HK.out]; rfl
      have e123 : ((s[0].toNat : Int) == 123) = false := by rw [HG.out, HK.out]; rfl
      have e125 : ((s[0].toNat : Int) == 125) = false := by rw [HG.out, HK.out]; rfl
      have e40 : ((s[0].toNat : Int) == 40) = false := by rw [HG.out, HK.out]; rfl
      have e41 : ((s[0].toNat : Int) == 41) = false := by rw [HG.out, HK.out]; rfl
      have e59 : ((s[0].toNat : Int) == 59) = false := by rw [HG.out, HK.out]; rfl
      have e44 : ((s[0].toNat : Int) == 44) = false := by rw [HG.out, HK.out]; rfl
      have e58 : ((s[0].toNat : Int) == 58) = false := by rw [HG.out, HK.out]; rfl
      have e43 : ((s[0].toNat : Int) == 43) = false := by rw [HG.out, HK.out]; rfl
      have e45 : ((s[0].toNat : Int) == 45) = false := by rw [HG.out, HK.out]; rfl
      have e42 : ((s[0].toNat : Int) == 42) = false := by rw [HG.out, HK.out]; rfl
      have e47 : ((s[0].toNat : Int) == 47) = false := by rw [HG.out, HK.out]; rfl
      have e61 : ((s[0].toNat : Int) == 61) = false := by rw [HG.out, HK.out]; rfl
      have l1 : ¬ (1 : Int) < (s.size : Int) := by omega
      have l2 : decide ((1 : Int) < (s.size : Int)) = false := decide_eq_false l1
      clear HG hd hS hsz HQ HL HK
      go_enter Tryd.func31, Tryd.ntmps31
      go_wp2_with fail
      go_ret
      exact ⟨ret_i64 (by rw [HR.out]; rfl), rfl⟩
  by_cases h60 : n = 60
  · have HK := Lib.hid h60
    clear h60
    by_cases hlen : 1 < s.size
    · cases q
      · have HR : Hid (R = 1) := by have := hd.out; show _ = _; simpa [HK.out] using this
        have e33 : ((s[0].toNat : Int) == 33) = false := by rw [HG.out, HK.out]; rfl
        have e60 : ((s[0].toNat : Int) == 60) = true := by rw [HG.out, HK.out]; rfl
        have e62 : ((s[0].toNat : Int) == 62) = false := by rw [HG.out, HK.out]; rfl
        have e123 : ((s[0].toNat : Int) == 123) = false := by rw [HG.out, HK.out]; rfl
        have e125 : ((s[0].toNat : Int) == 125) = false := by rw [HG.out, HK.out]; rfl
        have e40 : ((s[0].toNat : Int) == 40) = false := by rw [HG.out, HK.out]; rfl
        have e41 : ((s[0].toNat : Int) == 41) = false := by rw [HG.out, HK.out]; rfl
        have e59 : ((s[0].toNat : Int) == 59) = false := by rw [HG.out, HK.out]; rfl
        have e44 : ((s[0].toNat : Int) == 44) = false := by rw [HG.out, HK.out]; rfl
        have e58 : ((s[0].toNat : Int) == 58) = false := by rw [HG.out, HK.out]; rfl
        have e43 : ((s[0].toNat : Int) == 43) = false := by rw [HG.out, HK.out]; rfl
        have e45 : ((s[0].toNat : Int) == 45) = false := by rw [HG.out, HK.out]; rfl
        have e42 : ((s[0].toNat : Int) == 42) = false := by rw [HG.out, HK.out]; rfl
        have e47 : ((s[0].toNat : Int) == 47) = false := by rw [HG.out, HK.out]; rfl
        have e61 : ((s[0].toNat : Int) == 61) = false := by rw [HG.out, HK.out]; rfl
        have l1 : (1 : Int) < (s.size : Int) := by omega
        have l2 : decide ((1 : Int) < (s.size : Int)) = true := decide_eq_true l1
        have q1 : ((s[1].toNat : Int) == 61) = false := (HQ.out hlen).symm
        clear HG hd hS hsz HQ HL HK
        go_enter Tryd.func31, Tryd.ntmps31
        go_wp2_with fail
        go_ret
        exact ⟨ret_i64 (by rw [HR.out]; rfl), rfl⟩
      · have HR : Hid (R = 2) := by have := hd.out; show _ = _; simpa [HK.out] using this
        have e33 : ((s[0].toNat : Int) == 33) = false := by rw [HG.out, HK.out]; rfl
        have e60 : ((s[0].toNat : Int) == 60) = true := by rw [HG.out, HK.out]; rfl
        have e62 : ((s[0].toNat : Int) == 62) = false := by rw [HG.out, HK.out]; rfl
        have e123 : ((s[0].toNat : Int) == 123) = false := by rw [HG.out, HK.out]; rfl
        have e125 : ((s[0].toNat : Int) == 125) = false := by rw [HG.out, HK.out]; rfl
        have e40 : ((s[0].toNat : Int) == 40) = false := by rw [HG.out, HK.out]; rfl
        have e41 : ((s[0].toNat : Int) == 41) = false := by rw [HG.out, HK.out]; rfl
        have e59 : ((s[0].toNat : Int) == 59) = false := by rw [HG.out, HK.out]; rfl
        have e44 : ((s[0].toNat : Int) == 44) = false := by rw [HG.out, HK.out]; rfl
        have e58 : ((s[0].toNat : Int) == 58) = false := by rw [HG.out, HK.out]; rfl
        have e43 : ((s[0].toNat : Int) == 43) = false := by rw [HG.out, HK.out]; rfl
        have e45 : ((s[0].toNat : Int) == 45) = false := by rw [HG.out, HK.out]; rfl
        have e42 : ((s[0].toNat : Int) == 42) = false := by rw [HG.out, HK.out]; rfl
        have e47 : ((s[0].toNat : Int) == 47) = false := by rw [HG.out, HK.out]; rfl
        have e61 : ((s[0].toNat : Int) == 61) = false := by rw [HG.out, HK.out]; rfl
        have l1 : (1 : Int) < (s.size : Int) := by omega
        have l2 : decide ((1 : Int) < (s.size : Int)) = true := decide_eq_true l1
        have q1 : ((s[1].toNat : Int) == 61) = true := (HQ.out hlen).symm
        clear HG hd hS hsz HQ HL HK
        go_enter Tryd.func31, Tryd.ntmps31
        go_wp2_with fail
        go_ret
        exact ⟨ret_i64 (by rw [HR.out]; rfl), rfl⟩
    · obtain rfl : q = false := HL.out hlen
      have HR : Hid (R = 1) := by have := hd.out; show _ = _; simpa [HK.out] using this
      have e33 : ((s[0].toNat : Int) == 33) = false := by rw [HG.out, HK.out]; rfl
      have e60 : ((s[0].toNat : Int) == 60) = true := by rw [HG.out, HK.out]; rfl
      have e62 : ((s[0].toNat : Int) == 62) = false := by rw [HG.out, HK.out]; rfl
      have e123 : ((s[0].toNat : Int) == 123) = false := by rw [HG.out, HK.out]; rfl
      have e125 : ((s[0].toNat : Int) == 125) = false := by rw [HG.out, HK.out]; rfl
      have e40 : ((s[0].toNat : Int) == 40) = false := by rw [HG.out, HK.out]; rfl
      have e41 : ((s[0].toNat : Int) == 41) = false := by rw [HG.out, HK.out]; rfl
      have e59 : ((s[0].toNat : Int) == 59) = false := by rw [HG.out, HK.out]; rfl
      have e44 : ((s[0].toNat : Int) == 44) = false := by rw [HG.out, HK.out]; rfl
      have e58 : ((s[0].toNat : Int) == 58) = false := by rw [HG.out, HK.out]; rfl
      have e43 : ((s[0].toNat : Int) == 43) = false := by rw [HG.out, HK.out]; rfl
      have e45 : ((s[0].toNat : Int) == 45) = false := by rw [HG.out, HK.out]; rfl
      have e42 : ((s[0].toNat : Int) == 42) = false := by rw [HG.out, HK.out]; rfl
      have e47 : ((s[0].toNat : Int) == 47) = false := by rw [HG.out, HK.out]; rfl
      have e61 : ((s[0].toNat : Int) == 61) = false := by rw [HG.out, HK.out]; rfl
      have l1 : ¬ (1 : Int) < (s.size : Int) := by omega
      have l2 : decide ((1 : Int) < (s.size : Int)) = false := decide_eq_false l1
      clear HG hd hS hsz HQ HL HK
      go_enter Tryd.func31, Tryd.ntmps31
      go_wp2_with fail
      go_ret
      exact ⟨ret_i64 (by rw [HR.out]; rfl), rfl⟩
  by_cases h62 : n = 62
  · have HK := Lib.hid h62
    clear h62
    by_cases hlen : 1 < s.size
    · cases q
      · have HR : Hid (R = 1) := by have := hd.out; show _ = _; simpa [HK.out] using this
        have e33 : ((s[0].toNat : Int) == 33) = false := by rw [HG.out, HK.out]; rfl
        have e60 : ((s[0].toNat : Int) == 60) = false := by rw [HG.out, HK.out]; rfl
        have e62 : ((s[0].toNat : Int) == 62) = true := by rw [HG.out, HK.out]; rfl
        have e123 : ((s[0].toNat : Int) == 123) = false := by rw [HG.out, HK.out]; rfl
        have e125 : ((s[0].toNat : Int) == 125) = false := by rw [HG.out, HK.out]; rfl
        have e40 : ((s[0].toNat : Int) == 40) = false := by rw [HG.out, HK.out]; rfl
        have e41 : ((s[0].toNat : Int) == 41) = false := by rw [HG.out, HK.out]; rfl
        have e59 : ((s[0].toNat : Int) == 59) = false := by rw [HG.out, HK.out]; rfl
        have e44 : ((s[0].toNat : Int) == 44) = false := by rw [HG.out, HK.out]; rfl
        have e58 : ((s[0].toNat : Int) == 58) = false := by rw [HG.out, HK.out]; rfl
        have e43 : ((s[0].toNat : Int) == 43) = false := by rw [HG.out, HK.out]; rfl
        have e45 : ((s[0].toNat : Int) == 45) = false := by rw [HG.out, HK.out]; rfl
        have e42 : ((s[0].toNat : Int) == 42) = false := by rw [HG.out, HK.out]; rfl
        have e47 : ((s[0].toNat : Int) == 47) = false := by rw [HG.out, HK.out]; rfl
        have e61 : ((s[0].toNat : Int) == 61) = false := by rw [HG.out, HK.out]; rfl
        have l1 : (1 : Int) < (s.size : Int) := by omega
        have l2 : decide ((1 : Int) < (s.size : Int)) = true := decide_eq_true l1
        have q1 : ((s[1].toNat : Int) == 61) = false := (HQ.out hlen).symm
        clear HG hd hS hsz HQ HL HK
        go_enter Tryd.func31, Tryd.ntmps31
        go_wp2_with fail
        go_ret
        exact ⟨ret_i64 (by rw [HR.out]; rfl), rfl⟩
      · have HR : Hid (R = 2) := by have := hd.out; show _ = _; simpa [HK.out] using this
        have e33 : ((s[0].toNat : Int) == 33) = false := by rw [HG.out, HK.out]; rfl
        have e60 : ((s[0].toNat : Int) == 60) = false := by rw [HG.out, HK.out]; rfl
        have e62 : ((s[0].toNat : Int) == 62) = true := by rw [HG.out, HK.out]; rfl
        have e123 : ((s[0].toNat : Int) == 123) = false := by rw [HG.out, HK.out]; rfl
        have e125 : ((s[0].toNat : Int) == 125) = false := by rw [HG.out, HK.out]; rfl
        have e40 : ((s[0].toNat : Int) == 40) = false := by rw [HG.out, HK.out]; rfl
        have e41 : ((s[0].toNat : Int) == 41) = false := by rw [HG.out, HK.out]; rfl
        have e59 : ((s[0].toNat : Int) == 59) = false := by rw [HG.out, HK.out]; rfl
        have e44 : ((s[0].toNat : Int) == 44) = false := by rw [HG.out, HK.out]; rfl
        have e58 : ((s[0].toNat : Int) == 58) = false := by rw [HG.out, HK.out]; rfl
        have e43 : ((s[0].toNat : Int) == 43) = false := by rw [HG.out, HK.out]; rfl
        have e45 : ((s[0].toNat : Int) == 45) = false := by rw [HG.out, HK.out]; rfl
        have e42 : ((s[0].toNat : Int) == 42) = false := by rw [HG.out, HK.out]; rfl
        have e47 : ((s[0].toNat : Int) == 47) = false := by rw [HG.out, HK.out]; rfl
        have e61 : ((s[0].toNat : Int) == 61) = false := by rw [HG.out, HK.out]; rfl
        have l1 : (1 : Int) < (s.size : Int) := by omega
        have l2 : decide ((1 : Int) < (s.size : Int)) = true := decide_eq_true l1
        have q1 : ((s[1].toNat : Int) == 61) = true := (HQ.out hlen).symm
        clear HG hd hS hsz HQ HL HK
        go_enter Tryd.func31, Tryd.ntmps31
        go_wp2_with fail
        go_ret
        exact ⟨ret_i64 (by rw [HR.out]; rfl), rfl⟩
    · obtain rfl : q = false := HL.out hlen
      have HR : Hid (R = 1) := by have := hd.out; show _ = _; simpa [HK.out] using this
      have e33 : ((s[0].toNat : Int) == 33) = false := by rw [HG.out, HK.out]; rfl
      have e60 : ((s[0].toNat : Int) == 60) = false := by rw [HG.out, HK.out]; rfl
      have e62 : ((s[0].toNat : Int) == 62) = true := by rw [HG.out, HK.out]; rfl
      have e123 : ((s[0].toNat : Int) == 123) = false := by rw [HG.out, HK.out]; rfl
      have e125 : ((s[0].toNat : Int) == 125) = false := by rw [HG.out, HK.out]; rfl
      have e40 : ((s[0].toNat : Int) == 40) = false := by rw [HG.out, HK.out]; rfl
      have e41 : ((s[0].toNat : Int) == 41) = false := by rw [HG.out, HK.out]; rfl
      have e59 : ((s[0].toNat : Int) == 59) = false := by rw [HG.out, HK.out]; rfl
      have e44 : ((s[0].toNat : Int) == 44) = false := by rw [HG.out, HK.out]; rfl
      have e58 : ((s[0].toNat : Int) == 58) = false := by rw [HG.out, HK.out]; rfl
      have e43 : ((s[0].toNat : Int) == 43) = false := by rw [HG.out, HK.out]; rfl
      have e45 : ((s[0].toNat : Int) == 45) = false := by rw [HG.out, HK.out]; rfl
      have e42 : ((s[0].toNat : Int) == 42) = false := by rw [HG.out, HK.out]; rfl
      have e47 : ((s[0].toNat : Int) == 47) = false := by rw [HG.out, HK.out]; rfl
      have e61 : ((s[0].toNat : Int) == 61) = false := by rw [HG.out, HK.out]; rfl
      have l1 : ¬ (1 : Int) < (s.size : Int) := by omega
      have l2 : decide ((1 : Int) < (s.size : Int)) = false := decide_eq_false l1
      clear HG hd hS hsz HQ HL HK
      go_enter Tryd.func31, Tryd.ntmps31
      go_wp2_with fail
      go_ret
      exact ⟨ret_i64 (by rw [HR.out]; rfl), rfl⟩
  by_cases h123 : n = 123
  · have HK := Lib.hid h123
    clear h123
    by_cases hlen : 1 < s.size
    · cases q
      · have HR : Hid (R = 1) := by have := hd.out; show _ = _; simpa [HK.out, hS.out] using this
        have e33 : ((s[0].toNat : Int) == 33) = false := by rw [HG.out, HK.out]; rfl
        have e60 : ((s[0].toNat : Int) == 60) = false := by rw [HG.out, HK.out]; rfl
        have e62 : ((s[0].toNat : Int) == 62) = false := by rw [HG.out, HK.out]; rfl
        have e123 : ((s[0].toNat : Int) == 123) = true := by rw [HG.out, HK.out]; rfl
        have e125 : ((s[0].toNat : Int) == 125) = false := by rw [HG.out, HK.out]; rfl
        have e40 : ((s[0].toNat : Int) == 40) = false := by rw [HG.out, HK.out]; rfl
        have e41 : ((s[0].toNat : Int) == 41) = false := by rw [HG.out, HK.out]; rfl
        have e59 : ((s[0].toNat : Int) == 59) = false := by rw [HG.out, HK.out]; rfl
        have e44 : ((s[0].toNat : Int) == 44) = false := by rw [HG.out, HK.out]; rfl
        have e58 : ((s[0].toNat : Int) == 58) = false := by rw [HG.out, HK.out]; rfl
        have e43 : ((s[0].toNat : Int) == 43) = false := by rw [HG.out, HK.out]; rfl
        have e45 : ((s[0].toNat : Int) == 45) = false := by rw [HG.out, HK.out]; rfl
        have e42 : ((s[0].toNat : Int) == 42) = false := by rw [HG.out, HK.out]; rfl
        have e47 : ((s[0].toNat : Int) == 47) = false := by rw [HG.out, HK.out]; rfl
        have e61 : ((s[0].toNat : Int) == 61) = false := by rw [HG.out, HK.out]; rfl
        have l1 : (1 : Int) < (s.size : Int) := by omega
        have l2 : decide ((1 : Int) < (s.size : Int)) = true := decide_eq_true l1
        have q1 : ((s[1].toNat : Int) == 61) = false := (HQ.out hlen).symm
        clear HG hd hS hsz HQ HL HK
        go_enter Tryd.func31, Tryd.ntmps31
        go_wp2_with fail
        go_ret
        exact ⟨ret_i64 (by rw [HR.out]; rfl), rfl⟩
      · have HR : Hid (R = 1) := by have := hd.out; show _ = _; simpa [HK.out, hS.out] using this
        have e33 : ((s[0].toNat : Int) == 33) = false := by rw [HG.out, HK.out]; rfl
        have e60 : ((s[0].toNat : Int) == 60) = false := by rw [HG.out, HK.out]; rfl
        have e62 : ((s[0].toNat : Int) == 62) = false := by rw [HG.out, HK.out]; rfl
        have e123 : ((s[0].toNat : Int) == 123) = true := by rw [HG.out, HK.out]; rfl
        have e125 : ((s[0].toNat : Int) == 125) = false := by rw [HG.out, HK.out]; rfl
        have e40 : ((s[0].toNat : Int) == 40) = false := by rw [HG.out, HK.out]; rfl
        have e41 : ((s[0].toNat : Int) == 41) = false := by rw [HG.out, HK.out]; rfl
        have e59 : ((s[0].toNat : Int) == 59) = false := by rw [HG.out, HK.out]; rfl
        have e44 : ((s[0].toNat : Int) == 44) = false := by rw [HG.out, HK.out]; rfl
        have e58 : ((s[0].toNat : Int) == 58) = false := by rw [HG.out, HK.out]; rfl
        have e43 : ((s[0].toNat : Int) == 43) = false := by rw [HG.out, HK.out]; rfl
        have e45 : ((s[0].toNat : Int) == 45) = false := by rw [HG.out, HK.out]; rfl
        have e42 : ((s[0].toNat : Int) == 42) = false := by rw [HG.out, HK.out]; rfl
        have e47 : ((s[0].toNat : Int) == 47) = false := by rw [HG.out, HK.out]; rfl
        have e61 : ((s[0].toNat : Int) == 61) = false := by rw [HG.out, HK.out]; rfl
        have l1 : (1 : Int) < (s.size : Int) := by omega
        have l2 : decide ((1 : Int) < (s.size : Int)) = true := decide_eq_true l1
        have q1 : ((s[1].toNat : Int) == 61) = true := (HQ.out hlen).symm
        clear HG hd hS hsz HQ HL HK
        go_enter Tryd.func31, Tryd.ntmps31
        go_wp2_with fail
        go_ret
        exact ⟨ret_i64 (by rw [HR.out]; rfl), rfl⟩
    · obtain rfl : q = false := HL.out hlen
      have HR : Hid (R = 1) := by have := hd.out; show _ = _; simpa [HK.out, hS.out] using this
      have e33 : ((s[0].toNat : Int) == 33) = false := by rw [HG.out, HK.out]; rfl
      have e60 : ((s[0].toNat : Int) == 60) = false := by rw [HG.out, HK.out]; rfl
      have e62 : ((s[0].toNat : Int) == 62) = false := by rw [HG.out, HK.out]; rfl
      have e123 : ((s[0].toNat : Int) == 123) = true := by rw [HG.out, HK.out]; rfl
      have e125 : ((s[0].toNat : Int) == 125) = false := by rw [HG.out, HK.out]; rfl
      have e40 : ((s[0].toNat : Int) == 40) = false := by rw [HG.out, HK.out]; rfl
      have e41 : ((s[0].toNat : Int) == 41) = false := by rw [HG.out, HK.out]; rfl
      have e59 : ((s[0].toNat : Int) == 59) = false := by rw [HG.out, HK.out]; rfl
      have e44 : ((s[0].toNat : Int) == 44) = false := by rw [HG.out, HK.out]; rfl
      have e58 : ((s[0].toNat : Int) == 58) = false := by rw [HG.out, HK.out]; rfl
      have e43 : ((s[0].toNat : Int) == 43) = false := by rw [HG.out, HK.out]; rfl
      have e45 : ((s[0].toNat : Int) == 45) = false := by rw [HG.out, HK.out]; rfl
      have e42 : ((s[0].toNat : Int) == 42) = false := by rw [HG.out, HK.out]; rfl
      have e47 : ((s[0].toNat : Int) == 47) = false := by rw [HG.out, HK.out]; rfl
      have e61 : ((s[0].toNat : Int) == 61) = false := by rw [HG.out, HK.out]; rfl
      have l1 : ¬ (1 : Int) < (s.size : Int) := by omega
      have l2 : decide ((1 : Int) < (s.size : Int)) = false := decide_eq_false l1
      clear HG hd hS hsz HQ HL HK
      go_enter Tryd.func31, Tryd.ntmps31
      go_wp2_with fail
      go_ret
      exact ⟨ret_i64 (by rw [HR.out]; rfl), rfl⟩
  by_cases h125 : n = 125
  · have HK := Lib.hid h125
    clear h125
    by_cases hlen : 1 < s.size
    · cases q
      · have HR : Hid (R = 1) := by have := hd.out; show _ = _; simpa [HK.out, hS.out] using this
        have e33 : ((s[0].toNat : Int) == 33) = false := by rw [HG.out, HK.out]; rfl
        have e60 : ((s[0].toNat : Int) == 60) = false := by rw [HG.out, HK.out]; rfl
        have e62 : ((s[0].toNat : Int) == 62) = false := by rw [HG.out, HK.out]; rfl
        have e123 : ((s[0].toNat : Int) == 123) = false := by rw [HG.out, HK.out]; rfl
        have e125 : ((s[0].toNat : Int) == 125) = true := by rw [HG.out, HK.out]; rfl
        have e40 : ((s[0].toNat : Int) == 40) = false := by rw [HG.out, HK.out]; rfl
        have e41 : ((s[0].toNat : Int) == 41) = false := by rw [HG.out, HK.out]; rfl
        have e59 : ((s[0].toNat : Int) == 59) = false := by rw [HG.out, HK.out]; rfl
        have e44 : ((s[0].toNat : Int) == 44) = false := by rw [HG.out, HK.out]; rfl
        have e58 : ((s[0].toNat : Int) == 58) = false := by rw [HG.out, HK.out]; rfl
        have e43 : ((s[0].toNat : Int) == 43) = false := by rw [HG.out, HK.out]; rfl
        have e45 : ((s[0].toNat : Int) == 45) = false := by rw [HG.out, HK.out]; rfl
        have e42 : ((s[0].toNat : Int) == 42) = false := by rw [HG.out, HK.out]; rfl
        have e47 : ((s[0].toNat : Int) == 47) = false := by rw [HG.out, HK.out]; rfl
        have e61 : ((s[0].toNat : Int) == 61) = false := by rw [HG.out, HK.out]; rfl
        have l1 : (1 : Int) < (s.size : Int) := by omega
        have l2 : decide ((1 : Int) < (s.size : Int)) = true := decide_eq_true l1
        have q1 : ((s[1].toNat : Int) == 61) = false := (HQ.out hlen).symm
        clear HG hd hS hsz HQ HL HK
        go_enter Tryd.func31, Tryd.ntmps31
        go_wp2_with fail
        go_ret
        exact ⟨ret_i64 (by rw [HR.out]; rfl), rfl⟩
      · have HR : Hid (R = 1) := by have := hd.out; show _ = _; simpa [HK.out, hS.out] using this
        have e33 : ((s[0].toNat : Int) == 33) = false := by rw [HG.out, HK.out]; rfl
        have e60 : ((s[0].toNat : Int) == 60) = false := by rw [HG.out, HK.out]; rfl
        have e62 : ((s[0].toNat : Int) == 62) = false := by rw [HG.out, HK.out]; rfl
        have e123 : ((s[0].toNat : Int) == 123) = false := by rw [HG.out, HK.out]; rfl
        have e125 : ((s[0].toNat : Int) == 125) = true := by rw [HG.out, HK.out]; rfl
        have e40 : ((s[0].toNat : Int) == 40) = false := by rw [HG.out, HK.out]; rfl
        have e41 : ((s[0].toNat : Int) == 41) = false := by rw [HG.out, HK.out]; rfl
        have e59 : ((s[0].toNat : Int) == 59) = false := by rw [HG.out, HK.out]; rfl
        have e44 : ((s[0].toNat : Int) == 44) = false := by rw [HG.out, HK.out]; rfl
        have e58 : ((s[0].toNat : Int) == 58) = false := by rw [HG.out, HK.out]; rfl
        have e43 : ((s[0].toNat : Int) == 43) = false := by rw [HG.out, HK.out]; rfl
        have e45 : ((s[0].toNat : Int) == 45) = false := by rw [HG.out, HK.out]; rfl
        have e42 : ((s[0].toNat : Int) == 42) = false := by rw [HG.out, HK.out]; rfl
        have e47 : ((s[0].toNat : Int) == 47) = false := by rw [HG.out, HK.out]; rfl
        have e61 : ((s[0].toNat : Int) == 61) = false := by rw [HG.out, HK.out]; rfl
        have l1 : (1 : Int) < (s.size : Int) := by omega
        have l2 : decide ((1 : Int) < (s.size : Int)) = true := decide_eq_true l1
        have q1 : ((s[1].toNat : Int) == 61) = true := (HQ.out hlen).symm
        clear HG hd hS hsz HQ HL HK
        go_enter Tryd.func31, Tryd.ntmps31
        go_wp2_with fail
        go_ret
        exact ⟨ret_i64 (by rw [HR.out]; rfl), rfl⟩
    · obtain rfl : q = false := HL.out hlen
      have HR : Hid (R = 1) := by have := hd.out; show _ = _; simpa [HK.out, hS.out] using this
      have e33 : ((s[0].toNat : Int) == 33) = false := by rw [HG.out, HK.out]; rfl
      have e60 : ((s[0].toNat : Int) == 60) = false := by rw [HG.out, HK.out]; rfl
      have e62 : ((s[0].toNat : Int) == 62) = false := by rw [HG.out, HK.out]; rfl
      have e123 : ((s[0].toNat : Int) == 123) = false := by rw [HG.out, HK.out]; rfl
      have e125 : ((s[0].toNat : Int) == 125) = true := by rw [HG.out, HK.out]; rfl
      have e40 : ((s[0].toNat : Int) == 40) = false := by rw [HG.out, HK.out]; rfl
      have e41 : ((s[0].toNat : Int) == 41) = false := by rw [HG.out, HK.out]; rfl
      have e59 : ((s[0].toNat : Int) == 59) = false := by rw [HG.out, HK.out]; rfl
      have e44 : ((s[0].toNat : Int) == 44) = false := by rw [HG.out, HK.out]; rfl
      have e58 : ((s[0].toNat : Int) == 58) = false := by rw [HG.out, HK.out]; rfl
      have e43 : ((s[0].toNat : Int) == 43) = false := by rw [HG.out, HK.out]; rfl
      have e45 : ((s[0].toNat : Int) == 45) = false := by rw [HG.out, HK.out]; rfl
      have e42 : ((s[0].toNat : Int) == 42) = false := by rw [HG.out, HK.out]; rfl
      have e47 : ((s[0].toNat : Int) == 47) = false := by rw [HG.out, HK.out]; rfl
      have e61 : ((s[0].toNat : Int) == 61) = false := by rw [HG.out, HK.out]; rfl
      have l1 : ¬ (1 : Int) < (s.size : Int) := by omega
      have l2 : decide ((1 : Int) < (s.size : Int)) = false := decide_eq_false l1
      clear HG hd hS hsz HQ HL HK
      go_enter Tryd.func31, Tryd.ntmps31
      go_wp2_with fail
      go_ret
      exact ⟨ret_i64 (by rw [HR.out]; rfl), rfl⟩
  by_cases h40 : n = 40
  · have HK := Lib.hid h40
    clear h40
    by_cases hlen : 1 < s.size
    · cases q
      · have HR : Hid (R = 1) := by have := hd.out; show _ = _; simpa [HK.out, hS.out] using this
        have e33 : ((s[0].toNat : Int) == 33) = false := by rw [HG.out, HK.out]; rfl
        have e60 : ((s[0].toNat : Int) == 60) = false := by rw [HG.out, HK.out]; rfl
        have e62 : ((s[0].toNat : Int) == 62) = false := by rw [HG.out, HK.out]; rfl
        have e123 : ((s[0].toNat : Int) == 123) = false := by rw [HG.out, HK.out]; rfl
        have e125 : ((s[0].toNat : Int) == 125) = false := by rw [HG.out, HK.out]; rfl
        have e40 : ((s[0].toNat : Int) == 40) = true := by rw [HG.out, HK.out]; rfl
        have e41 : ((s[0].toNat : Int) == 41) = false := by rw [HG.out, HK.out]; rfl
        have e59 : ((s[0].toNat : Int) == 59) = false := by rw [HG.out, HK.out]; rfl
        have e44 : ((s[0].toNat : Int) == 44) = false := by rw [HG.out, HK.out]; rfl
        have e58 : ((s[0].toNat : Int) == 58) = false := by rw [HG.out, HK.out]; rfl
        have e43 : ((s[0].toNat : Int) == 43) = false := by rw [HG.out, HK.out]; rfl
        have e45 : ((s[0].toNat : Int) == 45) = false := by rw [HG.out, HK.out]; rfl
        have e42 : ((s[0].toNat : Int) == 42) = false := by rw [HG.out, HK.out]; rfl
        have e47 : ((s[0].toNat : Int) == 47) = false := by rw [HG.out, HK.out]; rfl
        have e61 : ((s[0].toNat : Int) == 61) = false := by rw [HG.out, HK.out]; rfl
        have l1 : (1 : Int) < (s.size : Int) := by omega
        have l2 : decide ((1 : Int) < (s.size : Int)) = true := decide_eq_true l1
        have q1 : ((s[1].toNat : Int) == 61) = false := (HQ.out hlen).symm
        clear HG hd hS hsz HQ HL HK
        go_enter Tryd.func31, Tryd.ntmps31
        go_wp2_with fail
        go_ret
        exact ⟨ret_i64 (by rw [HR.out]; rfl), rfl⟩
      · have HR : Hid (R = 1) := by have := hd.out; show _ = _; simpa [HK.out, hS.out] using this
        have e33 : ((s[0].toNat : Int) == 33) = false := by rw [HG.out, HK.out]; rfl
        have e60 : ((s[0].toNat : Int) == 60) = false := by rw [HG.out, HK.out]; rfl
        have e62 : ((s[0].toNat : Int) == 62) = false := by rw [HG.out, HK.out]; rfl
        have e123 : ((s[0].toNat : Int) == 123) = false := by rw [HG.out, HK.out]; rfl
        have e125 : ((s[0].toNat : Int) == 125) = false := by rw [HG.out, HK.out]; rfl
        have e40 : ((s[0].toNat : Int) == 40) = true := by rw [HG.out, HK.out]; rfl
        have e41 : ((s[0].toNat : Int) == 41) = false := by rw [HG.out, HK.out]; rfl
        have e59 : ((s[0].toNat : Int) == 59) = false := by rw [HG.out, HK.out]; rfl
        have e44 : ((s[0].toNat : Int) == 44) = false := by rw [HG.out, HK.out]; rfl
        have e58 : ((s[0].toNat : Int) == 58) = false := by rw [HG.out, HK.out]; rfl
        have e43 : ((s[0].toNat : Int) == 43) = false := by rw [HG.out, HK.out]; rfl
        have e45 : ((s[0].toNat : Int) == 45) = false := by rw [HG.out, HK.out]; rfl
        have e42 : ((s[0].toNat : Int) == 42) = false := by rw [HG.out, HK.out]; rfl
        have e47 : ((s[0].toNat : Int) == 47) = false := by rw [HG.out, HK.out]; rfl
        have e61 : ((s[0].toNat : Int) == 61) = false := by rw [HG.out, HK.out]; rfl
        have l1 : (1 : Int) < (s.size : Int) := by omega
        have l2 : decide ((1 : Int) < (s.size : Int)) = true := decide_eq_true l1
        have q1 : ((s[1].toNat : Int) == 61) = true := (HQ.out hlen).symm
        clear HG hd hS hsz HQ HL HK
        go_enter Tryd.func31, Tryd.ntmps31
        go_wp2_with fail
        go_ret
        exact ⟨ret_i64 (by rw [HR.out]; rfl), rfl⟩
    · obtain rfl : q = false := HL.out hlen
      have HR : Hid (R = 1) := by have := hd.out; show _ = _; simpa [HK.out, hS.out] using this
      have e33 : ((s[0].toNat : Int) == 33) = false := by rw [HG.out, HK.out]; rfl
      have e60 : ((s[0].toNat : Int) == 60) = false := by rw [HG.out, HK.out]; rfl
      have e62 : ((s[0].toNat : Int) == 62) = false := by rw [HG.out, HK.out]; rfl
      have e123 : ((s[0].toNat : Int) == 123) = false := by rw [HG.out, HK.out]; rfl
      have e125 : ((s[0].toNat : Int) == 125) = false := by rw [HG.out, HK.out]; rfl
      have e40 : ((s[0].toNat : Int) == 40) = true := by rw [HG.out, HK.out]; rfl
      have e41 : ((s[0].toNat : Int) == 41) = false := by rw [HG.out, HK.out]; rfl
      have e59 : ((s[0].toNat : Int) == 59) = false := by rw [HG.out, HK.out]; rfl
      have e44 : ((s[0].toNat : Int) == 44) = false := by rw [HG.out, HK.out]; rfl
      have e58 : ((s[0].toNat : Int) == 58) = false := by rw [HG.out, HK.out]; rfl
      have e43 : ((s[0].toNat : Int) == 43) = false := by rw [HG.out, HK.out]; rfl
      have e45 : ((s[0].toNat : Int) == 45) = false := by rw [HG.out, HK.out]; rfl
      have e42 : ((s[0].toNat : Int) == 42) = false := by rw [HG.out, HK.out]; rfl
      have e47 : ((s[0].toNat : Int) == 47) = false := by rw [HG.out, HK.out]; rfl
      have e61 : ((s[0].toNat : Int) == 61) = false := by rw [HG.out, HK.out]; rfl
      have l1 : ¬ (1 : Int) < (s.size : Int) := by omega
      have l2 : decide ((1 : Int) < (s.size : Int)) = false := decide_eq_false l1
      clear HG hd hS hsz HQ HL HK
      go_enter Tryd.func31, Tryd.ntmps31
      go_wp2_with fail
      go_ret
      exact ⟨ret_i64 (by rw [HR.out]; rfl), rfl⟩
  by_cases h41 : n = 41
  · have HK := Lib.hid h41
    clear h41
    by_cases hlen : 1 < s.size
    · cases q
      · have HR : Hid (R = 1) := by have := hd.out; show _ = _; simpa [HK.out, hS.out] using this
        have e33 : ((s[0].toNat : Int) == 33) = false := by rw [HG.out, HK.out]; rfl
        have e60 : ((s[0].toNat : Int) == 60) = false := by rw [HG.out, HK.out]; rfl
        have e62 : ((s[0].toNat : Int) == 62) = false := by rw [HG.out, HK.out]; rfl
        have e123 : ((s[0].toNat : Int) == 123) = false := by rw [HG.out, HK.out]; rfl
        have e125 : ((s[0].toNat : Int) == 125) = false := by rw [HG.out, HK.out]; rfl
        have e40 : ((s[0].toNat : Int) == 40) = false := by rw [HG.out, HK.out]; rfl
        have e41 : ((s[0].toNat : Int) == 41) = true := by rw [HG.out, HK.out]; rfl
        have e59 : ((s[0].toNat : Int) == 59) = false := by rw [HG.out, HK.out]; rfl
        have e44 : ((s[0].toNat : Int) == 44) = false := by rw [HG.out, HK.out]; rfl
        have e58 : ((s[0].toNat : Int) == 58) = false := by rw [HG.out, HK.out]; rfl
        have e43 : ((s[0].toNat : Int) == 43) = false := by rw [HG.out, HK.out]; rfl
        have e45 : ((s[0].toNat : Int) == 45) = false := by rw [HG.out, HK.out]; rfl
        have e42 : ((s[0].toNat : Int) == 42) = false := by rw [HG.out, HK.out]; rfl
        have e47 : ((s[0].toNat : Int) == 47) = false := by rw [HG.out, HK.out]; rfl
        have e61 : ((s[0].toNat : Int) == 61) = false := by rw [HG.out, HK.out]; rfl
        have l1 : (1 : Int) < (s.size : Int) := by omega
        have l2 : decide ((1 : Int) < (s.size : Int)) = true := decide_eq_true l1
        have q1 : ((s[1].toNat : Int) == 61) = false := (HQ.out hlen).symm
        clear HG hd hS hsz HQ HL HK
        go_enter Tryd.func31, Tryd.ntmps31
        go_wp2_with fail
        go_ret
        exact ⟨ret_i64 (by rw [HR.out]; rfl), rfl⟩
      · have HR : Hid (R = 1) := by have := hd.out; show _ = _; simpa [HK.out, hS.out] using this
        have e33 : ((s[0].toNat : Int) == 33) = false := by rw [HG.out, HK.out]; rfl
        have e60 : ((s[0].toNat : Int) == 60) = false := by rw [HG.out, HK.out]; rfl
        have e62 : ((s[0].toNat : Int) == 62) = false := by rw [HG.out, HK.out]; rfl
        have e123 : ((s[0].toNat : Int) == 123) = false := by rw [HG.out, HK.out]; rfl
        have e125 : ((s[0].toNat : Int) == 125) = false := by rw [HG.out, HK.out]; rfl
        have e40 : ((s[0].toNat : Int) == 40) = false := by rw [HG.out, HK.out]; rfl
        have e41 : ((s[0].toNat : Int) == 41) = true := by rw [HG.out, HK.out]; rfl
        have e59 : ((s[0].toNat : Int) == 59) = false := by rw [HG.out, HK.out]; rfl
        have e44 : ((s[0].toNat : Int) == 44) = false := by rw [HG.out, HK.out]; rfl
        have e58 : ((s[0].toNat : Int) == 58) = false := by rw [HG.out, HK.out]; rfl
        have e43 : ((s[0].toNat : Int) == 43) = false := by rw [HG.out, HK.out]; rfl
        have e45 : ((s[0].toNat : Int) == 45) = false := by rw [HG.out, HK.out]; rfl
        have e42 : ((s[0].toNat : Int) == 42) = false := by rw [HG.out, HK.out]; rfl
        have e47 : ((s[0].toNat : Int) == 47) = false := by rw [HG.out, HK.out]; rfl
        have e61 : ((s[0].toNat : Int) == 61) = false := by rw [HG.out, HK.out]; rfl
        have l1 : (1 : Int) < (s.size : Int) := by omega
        have l2 : decide ((1 : Int) < (s.size : Int)) = true := decide_eq_true l1
        have q1 : ((s[1].toNat : Int) == 61) = true := (HQ.out hlen).symm
        clear HG hd hS hsz HQ HL HK
        go_enter Tryd.func31, Tryd.ntmps31
        go_wp2_with fail
        go_ret
        exact ⟨ret_i64 (by rw [HR.out]; rfl), rfl⟩
    · obtain rfl : q = false := HL.out hlen
      have HR : Hid (R = 1) := by have := hd.out; show _ = _; simpa [HK.out, hS.out] using this
      have e33 : ((s[0].toNat : Int) == 33) = false := by rw [HG.out, HK.out]; rfl
      have e60 : ((s[0].toNat : Int) == 60) = false := by rw [HG.out, HK.out]; rfl
      have e62 : ((s[0].toNat : Int) == 62) = false := by rw [HG.out, HK.out]; rfl
      have e123 : ((s[0].toNat : Int) == 123) = false := by rw [HG.out, HK.out]; rfl
      have e125 : ((s[0].toNat : Int) == 125) = false := by rw [HG.out, HK.out]; rfl
      have e40 : ((s[0].toNat : Int) == 40) = false := by rw [HG.out, HK.out]; rfl
      have e41 : ((s[0].toNat : Int) == 41) = true := by rw [HG.out, HK.out]; rfl
      have e59 : ((s[0].toNat : Int) == 59) = false := by rw [HG.out, HK.out]; rfl
      have e44 : ((s[0].toNat : Int) == 44) = false := by rw [HG.out, HK.out]; rfl
      have e58 : ((s[0].toNat : Int) == 58) = false := by rw [HG.out, HK.out]; rfl
      have e43 : ((s[0].toNat : Int) == 43) = false := by rw [HG.out, HK.out]; rfl
      have e45 : ((s[0].toNat : Int) == 45) = false := by rw [HG.out, HK.out]; rfl
      have e42 : ((s[0].toNat : Int) == 42) = false := by rw [HG.out, HK.out]; rfl
      have e47 : ((s[0].toNat : Int) == 47) = false := by rw [HG.out, HK.out]; rfl
      have e61 : ((s[0].toNat : Int) == 61) = false := by rw [HG.out, HK.out]; rfl
      have l1 : ¬ (1 : Int) < (s.size : Int) := by omega
      have l2 : decide ((1 : Int) < (s.size : Int)) = false := decide_eq_false l1
      clear HG hd hS hsz HQ HL HK
      go_enter Tryd.func31, Tryd.ntmps31
      go_wp2_with fail
      go_ret
      exact ⟨ret_i64 (by rw [HR.out]; rfl), rfl⟩
  by_cases h59 : n = 59
  · have HK := Lib.hid h59
    clear h59
    by_cases hlen : 1 < s.size
    · cases q
      · have HR : Hid (R = 1) := by have := hd.out; show _ = _; simpa [HK.out, hS.out] using this
        have e33 : ((s[0].toNat : Int) == 33) = false := by rw [HG.out, HK.out]; rfl
        have e60 : ((s[0].toNat : Int) == 60) = false := by rw [HG.out, HK.out]; rfl
        have e62 : ((s[0].toNat : Int) == 62) = false := by rw [HG.out, HK.out]; rfl
        have e123 : ((s[0].toNat : Int) == 123) = false := by rw [HG.out, HK.out]; rfl
        have e125 : ((s[0].toNat : Int) == 125) = false := by rw [HG.out, HK.out]; rfl
        have e40 : ((s[0].toNat : Int) == 40) = false := by rw [HG.out, HK.out]; rfl
        have e41 : ((s[0].toNat : Int) == 41) = false := by rw [HG.out, HK.out]; rfl
        have e59 : ((s[0].toNat : Int) == 59) = true := by rw [HG.out, HK.out]; rfl
        have e44 : ((s[0].toNat : Int) == 44) = false := by rw [HG.out, HK.out]; rfl
        have e58 : ((s[0].toNat : Int) == 58) = false := by rw [HG.out, HK.out]; rfl
        have e43 : ((s[0].toNat : Int) == 43) = false := by rw [HG.out, HK.out]; rfl
        have e45 : ((s[0].toNat : Int) == 45) = false := by rw [HG.out, HK.out]; rfl
        have e42 : ((s[0].toNat : Int) == 42) = false := by rw [HG.out, HK.out]; rfl
        have e47 : ((s[0].toNat : Int) == 47) = false := by rw [HG.out, HK.out]; rfl
        have e61 : ((s[0].toNat : Int) == 61) = false := by rw [HG.out, HK.out]; rfl
        have l1 : (1 : Int) < (s.size : Int) := by omega
        have l2 : decide ((1 : Int) < (s.size : Int)) = true := decide_eq_true l1
        have q1 : ((s[1].toNat : Int) == 61) = false := (HQ.out hlen).symm
        clear HG hd hS hsz HQ HL HK
        go_enter Tryd.func31, Tryd.ntmps31
        go_wp2_with fail
        go_ret
        exact ⟨ret_i64 (by rw [HR.out]; rfl), rfl⟩
      · have HR : Hid (R = 1) := by have := hd.out; show _ = _; simpa [HK.out, hS.out] using this
        have e33 : ((s[0].toNat : Int) == 33) = false := by rw [HG.out, HK.out]; rfl
        have e60 : ((s[0].toNat : Int) == 60) = false := by rw [HG.out, HK.out]; rfl
        have e62 : ((s[0].toNat : Int) == 62) = false := by rw [HG.out, HK.out]; rfl
        have e123 : ((s[0].toNat : Int) == 123) = false := by rw [HG.out, HK.out]; rfl
        have e125 : ((s[0].toNat : Int) == 125) = false := by rw [HG.out, HK.out]; rfl
        have e40 : ((s[0].toNat : Int) == 40) = false := by rw [HG.out, HK.out]; rfl
        have e41 : ((s[0].toNat : Int) == 41) = false := by rw [HG.out, HK.out]; rfl
        have e59 : ((s[0].toNat : Int) == 59) = true := by rw [HG.out, HK.out]; rfl
        have e44 : ((s[0].toNat : Int) == 44) = false := by rw [HG.out, HK.out]; rfl
        have e58 : ((s[0].toNat : Int) == 58) = false := by rw [HG.out, HK.out]; rfl
        have e43 : ((s[0].toNat : Int) == 43) = false := by rw [HG.out, HK.out]; rfl
        have e45 : ((s[0].toNat : Int) == 45) = false := by rw [HG.out, HK.out]; rfl
        have e42 : ((s[0].toNat : Int) == 42) = false := by rw [HG.out, HK.out]; rfl
        have e47 : ((s[0].toNat : Int) == 47) = false := by rw [HG.out, HK.out]; rfl
        have e61 : ((s[0].toNat : Int) == 61) = false := by rw [HG.out, HK.out]; rfl
        have l1 : (1 : Int) < (s.size : Int) := by omega
        have l2 : decide ((1 : Int) < (s.size : Int)) = true := decide_eq_true l1
        have q1 : ((s[1].toNat : Int) == 61) = true := (HQ.out hlen).symm
        clear HG hd hS hsz HQ HL HK
        go_enter Tryd.func31, Tryd.ntmps31
        go_wp2_with fail
        go_ret
        exact ⟨ret_i64 (by rw [HR.out]; rfl), rfl⟩
    · obtain rfl : q = false := HL.out hlen
      have HR : Hid (R = 1) := by have := hd.out; show _ = _; simpa [HK.out, hS.out] using this
      have e33 : ((s[0].toNat : Int) == 33) = false := by rw [HG.out, HK.out]; rfl
      have e60 : ((s[0].toNat : Int) == 60) = false := by rw [HG.out, HK.out]; rfl
      have e62 : ((s[0].toNat : Int) == 62) = false := by rw [HG.out, HK.out]; rfl
      have e123 : ((s[0].toNat : Int) == 123) = false := by rw [HG.out, HK.out]; rfl
      have e125 : ((s[0].toNat : Int) == 125) = false := by rw [HG.out, HK.out]; rfl
      have e40 : ((s[0].toNat : Int) == 40) = false := by rw [HG.out, HK.out]; rfl
      have e41 : ((s[0].toNat : Int) == 41) = false := by rw [HG.out, HK.out]; rfl
      have e59 : ((s[0].toNat : Int) == 59) = true := by rw [HG.out, HK.out]; rfl
      have e44 : ((s[0].toNat : Int) == 44) = false := by rw [HG.out, HK.out]; rfl
      have e58 : ((s[0].toNat : Int) == 58) = false := by rw [HG.out, HK.out]; rfl
      have e43 : ((s[0].toNat : Int) == 43) = false := by rw [HG.out, HK.out]; rfl
      have e45 : ((s[0].toNat : Int) == 45) = false := by rw [HG.out, HK.out]; rfl
      have e42 : ((s[0].toNat : Int) == 42) = false := by rw [HG.out, HK.out]; rfl
      have e47 : ((s[0].toNat : Int) == 47) = false := by rw [HG.out, HK.out]; rfl
      have e61 : ((s[0].toNat : Int) == 61) = false := by rw [HG.out, HK.out]; rfl
      have l1 : ¬ (1 : Int) < (s.size : Int) := by omega
      have l2 : decide ((1 : Int) < (s.size : Int)) = false := decide_eq_false l1
      clear HG hd hS hsz HQ HL HK
      go_enter Tryd.func31, Tryd.ntmps31
      go_wp2_with fail
      go_ret
      exact ⟨ret_i64 (by rw [HR.out]; rfl), rfl⟩
  by_cases h44 : n = 44
  · have HK := Lib.hid h44
    clear h44
    by_cases hlen : 1 < s.size
    · cases q
      · have HR : Hid (R = 1) := by have := hd.out; show _ = _; simpa [HK.out, hS.out] using this
        have e33 : ((s[0].toNat : Int) == 33) = false := by rw [HG.out, HK.out]; rfl
        have e60 : ((s[0].toNat : Int) == 60) = false := by rw [HG.out, HK.out]; rfl
        have e62 : ((s[0].toNat : Int) == 62) = false := by rw [HG.out, HK.out]; rfl
        have e123 : ((s[0].toNat : Int) == 123) = false := by rw [HG.out, HK.out]; rfl
        have e125 : ((s[0].toNat : Int) == 125) = false := by rw [HG.out, HK.out]; rfl
        have e40 : ((s[0].toNat : Int) == 40) = false := by rw [HG.out, HK.out]; rfl
        have e41 : ((s[0].toNat : Int) == 41) = false := by rw [HG.out, HK.out]; rfl
        have e59 : ((s[0].toNat : Int) == 59) = false := by rw [HG.out, HK.out]; rfl
        have e44 : ((s[0].toNat : Int) == 44) = true := by rw [HG.out, HK.out]; rfl
        have e58 : ((s[0].toNat : Int) == 58) = false := by rw [HG.out, HK.out]; rfl
        have e43 : ((s[0].toNat : Int) == 43) = false := by rw [HG.out, HK.out]; rfl
        have e45 : ((s[0].toNat : Int) == 45) = false := by rw [HG.out, HK.out]; rfl
        have e42 : ((s[0].toNat : Int) == 42) = false := by rw [HG.out, HK.out]; rfl
        have e47 : ((s[0].toNat : Int) == 47) = false := by rw [HG.out, HK.out]; rfl
        have e61 : ((s[0].toNat : Int) == 61) = false := by rw [HG.out, HK.out]; rfl
        have l1 : (1 : Int) < (s.size : Int) := by omega
        have l2 : decide ((1 : Int) < (s.size : Int)) = true := decide_eq_true l1
        have q1 : ((s[1].toNat : Int) == 61) = false := (HQ.out hlen).symm
        clear HG hd hS hsz HQ HL HK
        go_enter Tryd.func31, Tryd.ntmps31
        go_wp2_with fail
        go_ret
        exact ⟨ret_i64 (by rw [HR.out]; rfl), rfl⟩
      · have HR : Hid (R = 1) := by have := hd.out; show _ = _; simpa [HK.out, hS.out] using this
        have e33 : ((s[0].toNat : Int) == 33) = false := by rw [HG.out, HK.out]; rfl
        have e60 : ((s[0].toNat : Int) == 60) = false := by rw [HG.out, HK.out]; rfl
        have e62 : ((s[0].toNat : Int) == 62) = false := by rw [HG.out, HK.out]; rfl
        have e123 : ((s[0].toNat : Int) == 123) = false := by rw [HG.out, HK.out]; rfl
        have e125 : ((s[0].toNat : Int) == 125) = false := by rw [HG.out, HK.out]; rfl
        have e40 : ((s[0].toNat : Int) == 40) = false := by rw [HG.out, HK.out]; rfl
        have e41 : ((s[0].toNat : Int) == 41) = false := by rw [HG.out, HK.out]; rfl
        have e59 : ((s[0].toNat : Int) == 59) = false := by rw [HG.out, HK.out]; rfl
        have e44 : ((s[0].toNat : Int) == 44) = true := by rw [HG.out, HK.out]; rfl
        have e58 : ((s[0].toNat : Int) == 58) = false := by rw [HG.out, HK.out]; rfl
        have e43 : ((s[0].toNat : Int) == 43) = false := by rw [HG.out, HK.out]; rfl
        have e45 : ((s[0].toNat : Int) == 45) = false := by rw [HG.out, HK.out]; rfl
        have e42 : ((s[0].toNat : Int) == 42) = false := by rw [HG.out, HK.out]; rfl
        have e47 : ((s[0].toNat : Int) == 47) = false := by rw [HG.out, HK.out]; rfl
        have e61 : ((s[0].toNat : Int) == 61) = false := by rw [HG.out, HK.out]; rfl
        have l1 : (1 : Int) < (s.size : Int) := by omega
        have l2 : decide ((1 : Int) < (s.size : Int)) = true := decide_eq_true l1
        have q1 : ((s[1].toNat : Int) == 61) = true := (HQ.out hlen).symm
        clear HG hd hS hsz HQ HL HK
        go_enter Tryd.func31, Tryd.ntmps31
        go_wp2_with fail
        go_ret
        exact ⟨ret_i64 (by rw [HR.out]; rfl), rfl⟩
    · obtain rfl : q = false := HL.out hlen
      have HR : Hid (R = 1) := by have := hd.out; show _ = _; simpa [HK.out, hS.out] using this
      have e33 : ((s[0].toNat : Int) == 33) = false := by rw [HG.out, HK.out]; rfl
      have e60 : ((s[0].toNat : Int) == 60) = false := by rw [HG.out, HK.out]; rfl
      have e62 : ((s[0].toNat : Int) == 62) = false := by rw [HG.out, HK.out]; rfl
      have e123 : ((s[0].toNat : Int) == 123) = false := by rw [HG.out, HK.out]; rfl
      have e125 : ((s[0].toNat : Int) == 125) = false := by rw [HG.out, HK.out]; rfl
      have e40 : ((s[0].toNat : Int) == 40) = false := by rw [HG.out, HK.out]; rfl
      have e41 : ((s[0].toNat : Int) == 41) = false := by rw [HG.out, HK.out]; rfl
      have e59 : ((s[0].toNat : Int) == 59) = false := by rw [HG.out, HK.out]; rfl
      have e44 : ((s[0].toNat : Int) == 44) = true := by rw [HG.out, HK.out]; rfl
      have e58 : ((s[0].toNat : Int) == 58) = false := by rw [HG.out, HK.out]; rfl
      have e43 : ((s[0].toNat : Int) == 43) = false := by rw [HG.out, HK.out]; rfl
      have e45 : ((s[0].toNat : Int) == 45) = false := by rw [HG.out, HK.out]; rfl
      have e42 : ((s[0].toNat : Int) == 42) = false := by rw [HG.out, HK.out]; rfl
      have e47 : ((s[0].toNat : Int) == 47) = false := by rw [HG.out, HK.out]; rfl
      have e61 : ((s[0].toNat : Int) == 61) = false := by rw [HG.out, HK.out]; rfl
      have l1 : ¬ (1 : Int) < (s.size : Int) := by omega
      have l2 : decide ((1 : Int) < (s.size : Int)) = false := decide_eq_false l1
      clear HG hd hS hsz HQ HL HK
      go_enter Tryd.func31, Tryd.ntmps31
      go_wp2_with fail
      go_ret
      exact ⟨ret_i64 (by rw [HR.out]; rfl), rfl⟩
  by_cases h58 : n = 58
  · have HK := Lib.hid h58
    clear h58
    by_cases hlen : 1 < s.size
    · cases q
      · have HR : Hid (R = 1) := by have := hd.out; show _ = _; simpa [HK.out, hS.out] using this
        have e33 : ((s[0].toNat : Int) == 33) = false := by rw [HG.out, HK.out]; rfl
        have e60 : ((s[0].toNat : Int) == 60) = false := by rw [HG.out, HK.out]; rfl
        have e62 : ((s[0].toNat : Int) == 62) = false := by rw [HG.out, HK.out]; rfl
        have e123 : ((s[0].toNat : Int) == 123) = false := by rw [HG.out, HK.out]; rfl
        have e125 : ((s[0].toNat : Int) == 125) = false := by rw [HG.out, HK.out]; rfl
        have e40 : ((s[0].toNat : Int) == 40) = false := by rw [HG.out, HK.out]; rfl
        have e41 : ((s[0].toNat : Int) == 41) = false := by rw [HG.out, HK.out]; rfl
        have e59 : ((s[0].toNat : Int) == 59) = false := by rw [HG.out, HK.out]; rfl
        have e44 : ((s[0].toNat : Int) == 44) = false := by rw [HG.out, HK.out]; rfl
        have e58 : ((s[0].toNat : Int) == 58) = true := by rw [HG.out, HK.out]; rfl
        have e43 : ((s[0].toNat : Int) == 43) = false := by rw [HG.out, HK.out]; rfl
        have e45 : ((s[0].toNat : Int) == 45) = false := by rw [HG.out, HK.out]; rfl
        have e42 : ((s[0].toNat : Int) == 42) = false := by rw [HG.out, HK.out]; rfl
        have e47 : ((s[0].toNat : Int) == 47) = false := by rw [HG.out, HK.out]; rfl
        have e61 : ((s[0].toNat : Int) == 61) = false := by rw [HG.out, HK.out]; rfl
        have l1 : (1 : Int) < (s.size : Int) := by omega
        have l2 : decide ((1 : Int) < (s.size : Int)) = true := decide_eq_true l1
        have q1 : ((s[1].toNat : Int) == 61) = false := (HQ.out hlen).symm
        clear HG hd hS hsz HQ HL HK
        go_enter Tryd.func31, Tryd.ntmps31
        go_wp2_with fail
        go_ret
        exact ⟨ret_i64 (by rw [HR.out]; rfl), rfl⟩
      · have HR : Hid (R = 1) := by have := hd.out; show _ = _; simpa [HK.out, hS.out] using this
        have e33 : ((s[0].toNat : Int) == 33) = false := by rw [HG.out, HK.out]; rfl
        have e60 : ((s[0].toNat : Int) == 60) = false := by rw [HG.out, HK.out]; rfl
        have e62 : ((s[0].toNat : Int) == 62) = false := by rw [HG.out, HK.out]; rfl
        have e123 : ((s[0].toNat : Int) == 123) = false := by rw [HG.out, HK.out]; rfl
        have e125 : ((s[0].toNat : Int) == 125) = false := by rw [HG.out, HK.out]; rfl
        have e40 : ((s[0].toNat : Int) == 40) = false := by rw [HG.out, HK.out]; rfl
        have e41 : ((s[0].toNat : Int) == 41) = false := by rw [HG.out, HK.out]; rfl
        have e59 : ((s[0].toNat : Int) == 59) = false := by rw [HG.out, HK.out]; rfl
        have e44 : ((s[0].toNat : Int) == 44) = false := by rw [HG.out, HK.out]; rfl
        have e58 : ((s[0].toNat : Int) == 58) = true := by rw [HG.out, HK.out]; rfl
        have e43 : ((s[0].toNat : Int) == 43) = false := by rw [HG.out, HK.out]; rfl
        have e45 : ((s[0].toNat : Int) == 45) = false := by rw [HG.out, HK.out]; rfl
        have e42 : ((s[0].toNat : Int) == 42) = false := by rw [HG.out, HK.out]; rfl
        have e47 : ((s[0].toNat : Int) == 47) = false := by rw [HG.out, HK.out]; rfl
        have e61 : ((s[0].toNat : Int) == 61) = false := by rw [HG.out, HK.out]; rfl
        have l1 : (1 : Int) < (s.size : Int) := by omega
        have l2 : decide ((1 : Int) < (s.size : Int)) = true := decide_eq_true l1
        have q1 : ((s[1].toNat : Int) == 61) = true := (HQ.out hlen).symm
        clear HG hd hS hsz HQ HL HK
        go_enter Tryd.func31, Tryd.ntmps31
        go_wp2_with fail
        go_ret
        exact ⟨ret_i64 (by rw [HR.out]; rfl), rfl⟩
    · obtain rfl : q = false := HL.out hlen
      have HR : Hid (R = 1) := by have := hd.out; show _ = _; simpa [HK.out, hS.out] using this
      have e33 : ((s[0].toNat : Int) == 33) = false := by rw [HG.out, HK.out]; rfl
      have e60 : ((s[0].toNat : Int) == 60) = false := by rw [HG.out, HK.out]; rfl
      have e62 : ((s[0].toNat : Int) == 62) = false := by rw [HG.out, HK.out]; rfl
      have e123 : ((s[0].toNat : Int) == 123) = false := by rw [HG.out, HK.out]; rfl
      have e125 : ((s[0].toNat : Int) == 125) = false := by rw [HG.out, HK.out]; rfl
      have e40 : ((s[0].toNat : Int) == 40) = false := by rw [HG.out, HK.out]; rfl
      have e41 : ((s[0].toNat : Int) == 41) = false := by rw [HG.out, HK.out]; rfl
      have e59 : ((s[0].toNat : Int) == 59) = false := by rw [HG.out, HK.out]; rfl
      have e44 : ((s[0].toNat : Int) == 44) = false := by rw [HG.out, HK.out]; rfl
      have e58 : ((s[0].toNat : Int) == 58) = true := by rw [HG.out, HK.out]; rfl
      have e43 : ((s[0].toNat : Int) == 43) = false := by rw [HG.out, HK.out]; rfl
      have e45 : ((s[0].toNat : Int) == 45) = false := by rw [HG.out, HK.out]; rfl
      have e42 : ((s[0].toNat : Int) == 42) = false := by rw [HG.out, HK.out]; rfl
      have e47 : ((s[0].toNat : Int) == 47) = false := by rw [HG.out, HK.out]; rfl
      have e61 : ((s[0].toNat : Int) == 61) = false := by rw [HG.out, HK.out]; rfl
      have l1 : ¬ (1 : Int) < (s.size : Int) := by omega
      have l2 : decide ((1 : Int) < (s.size : Int)) = false := decide_eq_false l1
      clear HG hd hS hsz HQ HL HK
      go_enter Tryd.func31, Tryd.ntmps31
      go_wp2_with fail
      go_ret
      exact ⟨ret_i64 (by rw [HR.out]; rfl), rfl⟩
  by_cases h43 : n = 43
  · have HK := Lib.hid h43
    clear h43
    by_cases hlen : 1 < s.size
    · cases q
      · have HR : Hid (R = 1) := by have := hd.out; show _ = _; simpa [HK.out, hS.out] using this
        have e33 : ((s[0].toNat : Int) == 33) = false := by rw [HG.out, HK.out]; rfl
        have e60 : ((s[0].toNat : Int) == 60) = false := by rw [HG.out, HK.out]; rfl
        have e62 : ((s[0].toNat : Int) == 62) = false := by rw [HG.out, HK.out]; rfl
        have e123 : ((s[0].toNat : Int) == 123) = false := by rw [HG.out, HK.out]; rfl
        have e125 : ((s[0].toNat : Int) == 125) = false := by rw [HG.out, HK.out]; rfl
        have e40 : ((s[0].toNat : Int) == 40) = false := by rw [HG.out, HK.out]; rfl
        have e41 : ((s[0].toNat : Int) == 41) = false := by rw [HG.out, HK.out]; rfl
        have e59 : ((s[0].toNat : Int) == 59) = false := by rw [HG.out, HK.out]; rfl
        have e44 : ((s[0].toNat : Int) == 44) = false := by rw [HG.out, HK.out]; rfl
        have e58 : ((s[0].toNat : Int) == 58) = false := by rw [HG.out, HK.out]; rfl
        have e43 : ((s[0].toNat : Int) == 43) = true := by rw [HG.out, HK.out]; rfl
        have e45 : ((s[0].toNat : Int) == 45) = false := by rw [HG.out, HK.out]; rfl
        have e42 : ((s[0].toNat : Int) == 42) = false := by rw [HG.out, HK.out]; rfl
        have e47 : ((s[0].toNat : Int) == 47) = false := by rw [HG.out, HK.out]; rfl
        have e61 : ((s[0].toNat : Int) == 61) = false := by rw [HG.out, HK.out]; rfl
        have l1 : (1 : Int) < (s.size : Int) := by omega
        have l2 : decide ((1 : Int) < (s.size : Int)) = true := decide_eq_true l1
        have q1 : ((s[1].toNat : Int) == 61) = false := (HQ.out hlen).symm
        clear HG hd hS hsz HQ HL HK
        go_enter Tryd.func31, Tryd.ntmps31
        go_wp2_with fail
        go_ret
        exact ⟨ret_i64 (by rw [HR.out]; rfl), rfl⟩
      · have HR : Hid (R = 1) := by have := hd.out; show _ = _; simpa [HK.out, hS.out] using this
        have e33 : ((s[0].toNat : Int) == 33) = false := by rw [HG.out, HK.out]; rfl
        have e60 : ((s[0].toNat : Int) == 60) = false := by rw [HG.out, HK.out]; rfl
        have e62 : ((s[0].toNat : Int) == 62) = false := by rw [HG.out, HK.out]; rfl
        have e123 : ((s[0].toNat : Int) == 123) = false := by rw [HG.out, HK.out]; rfl
        have e125 : ((s[0].toNat : Int) == 125) = false := by rw [HG.out, HK.out]; rfl
        have e40 : ((s[0].toNat : Int) == 40) = false := by rw [HG.out, HK.out]; rfl
        have e41 : ((s[0].toNat : Int) == 41) = false := by rw [HG.out, HK.out]; rfl
        have e59 : ((s[0].toNat : Int) == 59) = false := by rw [HG.out, HK.out]; rfl
        have e44 : ((s[0].toNat : Int) == 44) = false := by rw [HG.out, HK.out]; rfl
        have e58 : ((s[0].toNat : Int) == 58) = false := by rw [HG.out, HK.out]; rfl
        have e43 : ((s[0].toNat : Int) == 43) = true := by rw [HG.out, HK.out]; rfl
        have e45 : ((s[0].toNat : Int) == 45) = false := by rw [HG.out, HK.out]; rfl
        have e42 : ((s[0].toNat : Int) == 42) = false := by rw [HG.out, HK.out]; rfl
        have e47 : ((s[0].toNat : Int) == 47) = false := by rw [HG.out, HK.out]; rfl
        have e61 : ((s[0].toNat : Int) == 61) = false := by rw [HG.out, HK.out]; rfl
        have l1 : (1 : Int) < (s.size : Int) := by omega
        have l2 : decide ((1 : Int) < (s.size : Int)) = true := decide_eq_true l1
        have q1 : ((s[1].toNat : Int) == 61) = true := (HQ.out hlen).symm
        clear HG hd hS hsz HQ HL HK
        go_enter Tryd.func31, Tryd.ntmps31
        go_wp2_with fail
        go_ret
        exact ⟨ret_i64 (by rw [HR.out]; rfl), rfl⟩
    · obtain rfl : q = false := HL.out hlen
      have HR : Hid (R = 1) := by have := hd.out; show _ = _; simpa [HK.out, hS.out] using this
      have e33 : ((s[0].toNat : Int) == 33) = false := by rw [HG.out, HK.out]; rfl
      have e60 : ((s[0].toNat : Int) == 60) = false := by rw [HG.out, HK.out]; rfl
      have e62 : ((s[0].toNat : Int) == 62) = false := by rw [HG.out, HK.out]; rfl
      have e123 : ((s[0].toNat : Int) == 123) = false := by rw [HG.out, HK.out]; rfl
      have e125 : ((s[0].toNat : Int) == 125) = false := by rw [HG.out, HK.out]; rfl
      have e40 : ((s[0].toNat : Int) == 40) = false := by rw [HG.out, HK.out]; rfl
      have e41 : ((s[0].toNat : Int) == 41) = false := by rw [HG.out, HK.out]; rfl
      have e59 : ((s[0].toNat : Int) == 59) = false := by rw [HG.out, HK.out]; rfl
      have e44 : ((s[0].toNat : Int) == 44) = false := by rw [HG.out, HK.out]; rfl
      have e58 : ((s[0].toNat : Int) == 58) = false := by rw [HG.out, HK.out]; rfl
      have e43 : ((s[0].toNat : Int) == 43) = true := by rw [HG.out, HK.out]; rfl
      have e45 : ((s[0].toNat : Int) == 45) = false := by rw [HG.out, HK.out]; rfl
      have e42 : ((s[0].toNat : Int) == 42) = false := by rw [HG.out, HK.out]; rfl
      have e47 : ((s[0].toNat : Int) == 47) = false := by rw [HG.out, HK.out]; rfl
      have e61 : ((s[0].toNat : Int) == 61) = false := by rw [HG.out, HK.out]; rfl
      have l1 : ¬ (1 : Int) < (s.size : Int) := by omega
      have l2 : decide ((1 : Int) < (s.size : Int)) = false := decide_eq_false l1
      clear HG hd hS hsz HQ HL HK
      go_enter Tryd.func31, Tryd.ntmps31
      go_wp2_with fail
      go_ret
      exact ⟨ret_i64 (by rw [HR.out]; rfl), rfl⟩
  by_cases h45 : n = 45
  · have HK := Lib.hid h45
    clear h45
    by_cases hlen : 1 < s.size
    · cases q
      · have HR : Hid (R = 1) := by have := hd.out; show _ = _; simpa [HK.out, hS.out] using this
        have e33 : ((s[0].toNat : Int) == 33) = false := by rw [HG.out, HK.out]; rfl
        have e60 : ((s[0].toNat : Int) == 60) = false := by rw [HG.out, HK.out]; rfl
        have e62 : ((s[0].toNat : Int) == 62) = false := by rw [HG.out, HK.out]; rfl
        have e123 : ((s[0].toNat : Int) == 123) = false := by rw [HG.out, HK.out]; rfl
        have e125 : ((s[0].toNat : Int) == 125) = false := by rw [HG.out, HK.out]; rfl
        have e40 : ((s[0].toNat : Int) == 40) = false := by rw [HG.out, HK.out]; rfl
        have e41 : ((s[0].toNat : Int) == 41) = false := by rw [HG.out, HK.out]; rfl
        have e59 : ((s[0].toNat : Int) == 59) = false := by rw [HG.out, HK.out]; rfl
        have e44 : ((s[0].toNat : Int) == 44) = false := by rw [HG.out, HK.out]; rfl
        have e58 : ((s[0].toNat : Int) == 58) = false := by rw [HG.out, HK.out]; rfl
        have e43 : ((s[0].toNat : Int) == 43) = false := by rw [HG.out, HK.out]; rfl
        have e45 : ((s[0].toNat : Int) == 45) = true := by rw [HG.out, HK.out]; rfl
        have e42 : ((s[0].toNat : Int) == 42) = false := by rw [HG.out, HK.out]; rfl
        have e47 : ((s[0].toNat : Int) == 47) = false := by rw [HG.out, HK.out]; rfl
        have e61 : ((s[0].toNat : Int) == 61) = false := by rw [HG.out, HK.out]; rfl
        have l1 : (1 : Int) < (s.size : Int) := by omega
        have l2 : decide ((1 : Int) < (s.size : Int)) = true := decide_eq_true l1
        have q1 : ((s[1].toNat : Int) == 61) = false := (HQ.out hlen).symm
        clear HG hd hS hsz HQ HL HK
        go_enter Tryd.func31, Tryd.ntmps31
        go_wp2_with fail
        go_ret
        exact ⟨ret_i64 (by rw [HR.out]; rfl), rfl⟩
      · have HR : Hid (R = 1) := by have := hd.out; show _ = _; simpa [HK.out, hS.out] using this
        have e33 : ((s[0].toNat : Int) == 33) = false := by rw [HG.out, HK.out]; rfl
        have e60 : ((s[0].toNat : Int) == 60) = false := by rw [HG.out, HK.out]; rfl
        have e62 : ((s[0].toNat : Int) == 62) = false := by rw [HG.out, HK.out]; rfl
        have e123 : ((s[0].toNat : Int) == 123) = false := by rw [HG.out, HK.out]; rfl
        have e125 : ((s[0].toNat : Int) == 125) = false := by rw [HG.out, HK.out]; rfl
        have e40 : ((s[0].toNat : Int) == 40) = false := by rw [HG.out, HK.out]; rfl
        have e41 : ((s[0].toNat : Int) == 41) = false := by rw [HG.out, HK.out]; rfl
        have e59 : ((s[0].toNat : Int) == 59) = false := by rw [HG.out, HK.out]; rfl
        have e44 : ((s[0].toNat : Int) == 44) = false := by rw [HG.out, HK.out]; rfl
        have e58 : ((s[0].toNat : Int) == 58) = false := by rw [HG.out, HK.out]; rfl
        have e43 : ((s[0].toNat : Int) == 43) = false := by rw [HG.out, HK.out]; rfl
        have e45 : ((s[0].toNat : Int) == 45) = true := by rw [HG.out, HK.out]; rfl
        have e42 : ((s[0].toNat : Int) == 42) = false := by rw [HG.out, HK.out]; rfl
        have e47 : ((s[0].toNat : Int) == 47) = false := by rw [HG.out, HK.out]; rfl
        have e61 : ((s[0].toNat : Int) == 61) = false := by rw [HG.out, HK.out]; rfl
        have l1 : (1 : Int) < (s.size : Int) := by omega
        have l2 : decide ((1 : Int) < (s.size : Int)) = true := decide_eq_true l1
        have q1 : ((s[1].toNat : Int) == 61) = true := (HQ.out hlen).symm
        clear HG hd hS hsz HQ HL HK
        go_enter Tryd.func31, Tryd.ntmps31
        go_wp2_with fail
        go_ret
        exact ⟨ret_i64 (by rw [HR.out]; rfl), rfl⟩
    · obtain rfl : q = false := HL.out hlen
      have HR : Hid (R = 1) := by have := hd.out; show _ = _; simpa [HK.out, hS.out] using this
      have e33 : ((s[0].toNat : Int) == 33) = false := by rw [HG.out, HK.out]; rfl
      have e60 : ((s[0].toNat : Int) == 60) = false := by rw [HG.out, HK.out]; rfl
      have e62 : ((s[0].toNat : Int) == 62) = false := by rw [HG.out, HK.out]; rfl
      have e123 : ((s[0].toNat : Int) == 123) = false := by rw [HG.out, HK.out]; rfl
      have e125 : ((s[0].toNat : Int) == 125) = false := by rw [HG.out, HK.out]; rfl
      have e40 : ((s[0].toNat : Int) == 40) = false := by rw [HG.out, HK.out]; rfl
      have e41 : ((s[0].toNat : Int) == 41) = false := by rw [HG.out, HK.out]; rfl
      have e59 : ((s[0].toNat : Int) == 59) = false := by rw [HG.out, HK.out]; rfl
      have e44 : ((s[0].toNat : Int) == 44) = false := by rw [HG.out, HK.out]; rfl
      have e58 : ((s[0].toNat : Int) == 58) = false := by rw [HG.out, HK.out]; rfl
      have e43 : ((s[0].toNat : Int) == 43) = false := by rw [HG.out, HK.out]; rfl
      have e45 : ((s[0].toNat : Int) == 45) = true := by rw [HG.out, HK.out]; rfl
      have e42 : ((s[0].toNat : Int) == 42) = false := by rw [HG.out, HK.out]; rfl
      have e47 : ((s[0].toNat : Int) == 47) = false := by rw [HG.out, HK.out]; rfl
      have e61 : ((s[0].toNat : Int) == 61) = false := by rw [HG.out, HK.out]; rfl
      have l1 : ¬ (1 : Int) < (s.size : Int) := by omega
      have l2 : decide ((1 : Int) < (s.size : Int)) = false := decide_eq_false l1
      clear HG hd hS hsz HQ HL HK
      go_enter Tryd.func31, Tryd.ntmps31
      go_wp2_with fail
      go_ret
      exact ⟨ret_i64 (by rw [HR.out]; rfl), rfl⟩
  by_cases h42 : n = 42
  · have HK := Lib.hid h42
    clear h42
    by_cases hlen : 1 < s.size
    · cases q
      · have HR : Hid (R = 1) := by have := hd.out; show _ = _; simpa [HK.out, hS.out] using this
        have e33 : ((s[0].toNat : Int) == 33) = false := by rw [HG.out, HK.out]; rfl
        have e60 : ((s[0].toNat : Int) == 60) = false := by rw [HG.out, HK.out]; rfl
        have e62 : ((s[0].toNat : Int) == 62) = false := by rw [HG.out, HK.out]; rfl
        have e123 : ((s[0].toNat : Int) == 123) = false := by rw [HG.out, HK.out]; rfl
        have e125 : ((s[0].toNat : Int) == 125) = false := by rw [HG.out, HK.out]; rfl
        have e40 : ((s[0].toNat : Int) == 40) = false := by rw [HG.out, HK.out]; rfl
        have e41 : ((s[0].toNat : Int) == 41) = false := by rw [HG.out, HK.out]; rfl
        have e59 : ((s[0].toNat : Int) == 59) = false := by rw [HG.out, HK.out]; rfl
        have e44 : ((s[0].toNat : Int) == 44) = false := by rw [HG.out, HK.out]; rfl
        have e58 : ((s[0].toNat : Int) == 58) = false := by rw [HG.out, HK.out]; rfl
        have e43 : ((s[0].toNat : Int) == 43) = false := by rw [HG.out, HK.out]; rfl
        have e45 : ((s[0].toNat : Int) == 45) = false := by rw [HG.out, HK.out]; rfl
        have e42 : ((s[0].toNat : Int) == 42) = true := by rw [HG.out, HK.out]; rfl
        have e47 : ((s[0].toNat : Int) == 47) = false := by rw [HG.out, HK.out]; rfl
        have e61 : ((s[0].toNat : Int) == 61) = false := by rw [HG.out, HK.out]; rfl
        have l1 : (1 : Int) < (s.size : Int) := by omega
        have l2 : decide ((1 : Int) < (s.size : Int)) = true := decide_eq_true l1
        have q1 : ((s[1].toNat : Int) == 61) = false := (HQ.out hlen).symm
        clear HG hd hS hsz HQ HL HK
        go_enter Tryd.func31, Tryd.ntmps31
        go_wp2_with fail
        go_ret
        exact ⟨ret_i64 (by rw [HR.out]; rfl), rfl⟩
      · have HR : Hid (R = 1) := by have := hd.out; show _ = _; simpa [HK.out, hS.out] using this
        have e33 : ((s[0].toNat : Int) == 33) = false := by rw [HG.out, HK.out]; rfl
        have e60 : ((s[0].toNat : Int) == 60) = false := by rw [HG.out, HK.out]; rfl
        have e62 : ((s[0].toNat : Int) == 62) = false := by rw [HG.out, HK.out]; rfl
        have e123 : ((s[0].toNat : Int) == 123) = false := by rw [HG.out, HK.out]; rfl
        have e125 : ((s[0].toNat : Int) == 125) = false := by rw [HG.out, HK.out]; rfl
        have e40 : ((s[0].toNat : Int) == 40) = false := by rw [HG.out, HK.out]; rfl
        have e41 : ((s[0].toNat : Int) == 41) = false := by rw [HG.out, HK.out]; rfl
        have e59 : ((s[0].toNat : Int) == 59) = false := by rw [HG.out, HK.out]; rfl
        have e44 : ((s[0].toNat : Int) == 44) = false := by rw [HG.out, HK.out]; rfl
        have e58 : ((s[0].toNat : Int) == 58) = false := by rw [HG.out, HK.out]; rfl
        have e43 : ((s[0].toNat : Int) == 43) = false := by rw [HG.out, HK.out]; rfl
        have e45 : ((s[0].toNat : Int) == 45) = false := by rw [HG.out, HK.out]; rfl
        have e42 : ((s[0].toNat : Int) == 42) = true := by rw [HG.out, HK.out]; rfl
        have e47 : ((s[0].toNat : Int) == 47) = false := by rw [HG.out, HK.out]; rfl
        have e61 : ((s[0].toNat : Int) == 61) = false := by rw [HG.out, HK.out]; rfl
        have l1 : (1 : Int) < (s.size : Int) := by omega
        have l2 : decide ((1 : Int) < (s.size : Int)) = true := decide_eq_true l1
        have q1 : ((s[1].toNat : Int) == 61) = true := (HQ.out hlen).symm
        clear HG hd hS hsz HQ HL HK
        go_enter Tryd.func31, Tryd.ntmps31
        go_wp2_with fail
        go_ret
        exact ⟨ret_i64 (by rw [HR.out]; rfl), rfl⟩
    · obtain rfl : q = false := HL.out hlen
      have HR : Hid (R = 1) := by have := hd.out; show _ = _; simpa [HK.out, hS.out] using this
      have e33 : ((s[0].toNat : Int) == 33) = false := by rw [HG.out, HK.out]; rfl
      have e60 : ((s[0].toNat : Int) == 60) = false := by rw [HG.out, HK.out]; rfl
      have e62 : ((s[0].toNat : Int) == 62) = false := by rw [HG.out, HK.out]; rfl
      have e123 : ((s[0].toNat : Int) == 123) = false := by rw [HG.out, HK.out]; rfl
      have e125 : ((s[0].toNat : Int) == 125) = false := by rw [HG.out, HK.out]; rfl
      have e40 : ((s[0].toNat : Int) == 40) = false := by rw [HG.out, HK.out]; rfl
      have e41 : ((s[0].toNat : Int) == 41) = false := by rw [HG.out, HK.out]; rfl
      have e59 : ((s[0].toNat : Int) == 59) = false := by rw [HG.out, HK.out]; rfl
      have e44 : ((s[0].toNat : Int) == 44) = false := by rw [HG.out, HK.out]; rfl
      have e58 : ((s[0].toNat : Int) == 58) = false := by rw [HG.out, HK.out]; rfl
      have e43 : ((s[0].toNat : Int) == 43) = false := by rw [HG.out, HK.out]; rfl
      have e45 : ((s[0].toNat : Int) == 45) = false := by rw [HG.out, HK.out]; rfl
      have e42 : ((s[0].toNat : Int) == 42) = true := by rw [HG.out, HK.out]; rfl
      have e47 : ((s[0].toNat : Int) == 47) = false := by rw [HG.out, HK.out]; rfl
      have e61 : ((s[0].toNat : Int) == 61) = false := by rw [HG.out, HK.out]; rfl
      have l1 : ¬ (1 : Int) < (s.size : Int) := by omega
      have l2 : decide ((1 : Int) < (s.size : Int)) = false := decide_eq_false l1
      clear HG hd hS hsz HQ HL HK
      go_enter Tryd.func31, Tryd.ntmps31
      go_wp2_with fail
      go_ret
      exact ⟨ret_i64 (by rw [HR.out]; rfl), rfl⟩
  by_cases h47 : n = 47
  · have HK := Lib.hid h47
    clear h47
    by_cases hlen : 1 < s.size
    · cases q
      · have HR : Hid (R = 1) := by have := hd.out; show _ = _; simpa [HK.out, hS.out] using this
        have e33 : ((s[0].toNat : Int) == 33) = false := by rw [HG.out, HK.out]; rfl
        have e60 : ((s[0].toNat : Int) == 60) = false := by rw [HG.out, HK.out]; rfl
        have e62 : ((s[0].toNat : Int) == 62) = false := by rw [HG.out, HK.out]; rfl
        have e123 : ((s[0].toNat : Int) == 123) = false := by rw [HG.out, HK.out]; rfl
        have e125 : ((s[0].toNat : Int) == 125) = false := by rw [HG.out, HK.out]; rfl
        have e40 : ((s[0].toNat : Int) == 40) = false := by rw [HG.out, HK.out]; rfl
        have e41 : ((s[0].toNat : Int) == 41) = false := by rw [HG.out, HK.out]; rfl
        have e59 : ((s[0].toNat : Int) == 59) = false := by rw [HG.out, HK.out]; rfl
        have e44 : ((s[0].toNat : Int) == 44) = false := by rw [HG.out, HK.out]; rfl
        have e58 : ((s[0].toNat : Int) == 58) = false := by rw [HG.out, HK.out]; rfl
        have e43 : ((s[0].toNat : Int) == 43) = false := by rw [HG.out, HK.out]; rfl
        have e45 : ((s[0].toNat : Int) == 45) = false := by rw [HG.out, HK.out]; rfl
        have e42 : ((s[0].toNat : Int) == 42) = false := by rw [HG.out, HK.out]; rfl
        have e47 : ((s[0].toNat : Int) == 47) = true := by rw [HG.out, HK.out]; rfl
        have e61 : ((s[0].toNat : Int) == 61) = false := by rw [HG.out, HK.out]; rfl
        have l1 : (1 : Int) < (s.size : Int) := by omega
        have l2 : decide ((1 : Int) < (s.size : Int)) = true := decide_eq_true l1
        have q1 : ((s[1].toNat : Int) == 61) = false := (HQ.out hlen).symm
        clear HG hd hS hsz HQ HL HK
        go_enter Tryd.func31, Tryd.ntmps31
        go_wp2_with fail
        go_ret
        exact ⟨ret_i64 (by rw [HR.out]; rfl), rfl⟩
      · have HR : Hid (R = 1) := by have := hd.out; show _ = _; simpa [HK.out, hS.out] using this
        have e33 : ((s[0].toNat : Int) == 33) = false := by rw [HG.out, HK.out]; rfl
        have e60 : ((s[0].toNat : Int) == 60) = false := by rw [HG.out, HK.out]; rfl
        have e62 : ((s[0].toNat : Int) == 62) = false := by rw [HG.out, HK.out]; rfl
        have e123 : ((s[0].toNat : Int) == 123) = false := by rw [HG.out, HK.out]; rfl
        have e125 : ((s[0].toNat : Int) == 125) = false := by rw [HG.out, HK.out]; rfl
        have e40 : ((s[0].toNat : Int) == 40) = false := by rw [HG.out, HK.out]; rfl
        have e41 : ((s[0].toNat : Int) == 41) = false := by rw [HG.out, HK.out]; rfl
        have e59 : ((s[0].toNat : Int) == 59) = false := by rw [HG.out, HK.out]; rfl
        have e44 : ((s[0].toNat : Int) == 44) = false := by rw [HG.out, HK.out]; rfl
        have e58 : ((s[0].toNat : Int) == 58) = false := by rw [HG.out, HK.out]; rfl
        have e43 : ((s[0].toNat : Int) == 43) = false := by rw [HG.out, HK.out]; rfl
        have e45 : ((s[0].toNat : Int) == 45) = false := by rw [HG.out, HK.out]; rfl
        have e42 : ((s[0].toNat : Int) == 42) = false := by rw [HG.out, HK.out]; rfl
        have e47 : ((s[0].toNat : Int) == 47) = true := by rw [HG.out, HK.out]; rfl
        have e61 : ((s[0].toNat : Int) == 61) = false := by rw [HG.out, HK.out]; rfl
        have l1 : (1 : Int) < (s.size : Int) := by omega
        have l2 : decide ((1 : Int) < (s.size : Int)) = true := decide_eq_true l1
        have q1 : ((s[1].toNat : Int) == 61) = true := (HQ.out hlen).symm
        clear HG hd hS hsz HQ HL HK
        go_enter Tryd.func31, Tryd.ntmps31
        go_wp2_with fail
        go_ret
        exact ⟨ret_i64 (by rw [HR.out]; rfl), rfl⟩
    · obtain rfl : q = false := HL.out hlen
      have HR : Hid (R = 1) := by have := hd.out; show _ = _; simpa [HK.out, hS.out] using this
      have e33 : ((s[0].toNat : Int) == 33) = false := by rw [HG.out, HK.out]; rfl
      have e60 : ((s[0].toNat : Int) == 60) = false := by rw [HG.out, HK.out]; rfl
      have e62 : ((s[0].toNat : Int) == 62) = false := by rw [HG.out, HK.out]; rfl
      have e123 : ((s[0].toNat : Int) == 123) = false := by rw [HG.out, HK.out]; rfl
      have e125 : ((s[0].toNat : Int) == 125) = false := by rw [HG.out, HK.out]; rfl
      have e40 : ((s[0].toNat : Int) == 40) = false := by rw [HG.out, HK.out]; rfl
      have e41 : ((s[0].toNat : Int) == 41) = false := by rw [HG.out, HK.out]; rfl
      have e59 : ((s[0].toNat : Int) == 59) = false := by rw [HG.out, HK.out]; rfl
      have e44 : ((s[0].toNat : Int) == 44) = false := by rw [HG.out, HK.out]; rfl
      have e58 : ((s[0].toNat : Int) == 58) = false := by rw [HG.out, HK.out]; rfl
      have e43 : ((s[0].toNat : Int) == 43) = false := by rw [HG.out, HK.out]; rfl
      have e45 : ((s[0].toNat : Int) == 45) = false := by rw [HG.out, HK.out]; rfl
      have e42 : ((s[0].toNat : Int) == 42) = false := by rw [HG.out, HK.out]; rfl
      have e47 : ((s[0].toNat : Int) == 47) = true := by rw [HG.out, HK.out]; rfl
      have e61 : ((s[0].toNat : Int) == 61) = false := by rw [HG.out, HK.out]; rfl
      have l1 : ¬ (1 : Int) < (s.size : Int) := by omega
      have l2 : decide ((1 : Int) < (s.size : Int)) = false := decide_eq_false l1
      clear HG hd hS hsz HQ HL HK
      go_enter Tryd.func31, Tryd.ntmps31
      go_wp2_with fail
      go_ret
      exact ⟨ret_i64 (by rw [HR.out]; rfl), rfl⟩
  by_cases h61 : n = 61
  · have HK := Lib.hid h61
    clear h61
    by_cases hlen : 1 < s.size
    · cases q
      · have HR : Hid (R = 1) := by have := hd.out; show _ = _; simpa [HK.out, hS.out] using this
        have e33 : ((s[0].toNat : Int) == 33) = false := by rw [HG.out, HK.out]; rfl
        have e60 : ((s[0].toNat : Int) == 60) = false := by rw [HG.out, HK.out]; rfl
        have e62 : ((s[0].toNat : Int) == 62) = false := by rw [HG.out, HK.out]; rfl
        have e123 : ((s[0].toNat : Int) == 123) = false := by rw [HG.out, HK.out]; rfl
        have e125 : ((s[0].toNat : Int) == 125) = false := by rw [HG.out, HK.out]; rfl
        have e40 : ((s[0].toNat : Int) == 40) = false := by rw [HG.out, HK.out]; rfl
        have e41 : ((s[0].toNat : Int) == 41) = false := by rw [HG.out, HK.out]; rfl
        have e59 : ((s[0].toNat : Int) == 59) = false := by rw [HG.out, HK.out]; rfl
        have e44 : ((s[0].toNat : Int) == 44) = false := by rw [HG.out, HK.out]; rfl
        have e58 : ((s[0].toNat : Int) == 58) = false := by rw [HG.out, HK.out]; rfl
        have e43 : ((s[0].toNat : Int) == 43) = false := by rw [HG.out, HK.out]; rfl
        have e45 : ((s[0].toNat : Int) == 45) = false := by rw [HG.out, HK.out]; rfl
        have e42 : ((s[0].toNat : Int) == 42) = false := by rw [HG.out, HK.out]; rfl
        have e47 : ((s[0].toNat : Int) == 47) = false := by rw [HG.out, HK.out]; rfl
        have e61 : ((s[0].toNat : Int) == 61) = true := by rw [HG.out, HK.out]; rfl
        have l1 : (1 : Int) < (s.size : Int) := by omega
        have l2 : decide ((1 : Int) < (s.size : Int)) = true := decide_eq_true l1
        have q1 : ((s[1].toNat : Int) == 61) = false := (HQ.out hlen).symm
        clear HG hd hS hsz HQ HL HK
        go_enter Tryd.func31, Tryd.ntmps31
        go_wp2_with fail
        go_ret
        exact ⟨ret_i64 (by rw [HR.out]; rfl), rfl⟩
      · have HR : Hid (R = 1) := by have := hd.out; show _ = _; simpa [HK.out, hS.out] using this
        have e33 : ((s[0].toNat : Int) == 33) = false := by rw [HG.out, HK.out]; rfl
        have e60 : ((s[0].toNat : Int) == 60) = false := by rw [HG.out, HK.out]; rfl
        have e62 : ((s[0].toNat : Int) == 62) = false := by rw [HG.out, HK.out]; rfl
        have e123 : ((s[0].toNat : Int) == 123) = false := by rw [HG.out, HK.out]; rfl
        have e125 : ((s[0].toNat : Int) == 125) = false := by rw [HG.out, HK.out]; rfl
        have e40 : ((s[0].toNat : Int) == 40) = false := by rw [HG.out, HK.out]; rfl
        have e41 : ((s[0].toNat : Int) == 41) = false := by rw [HG.out, HK.out]; rfl
        have e59 : ((s[0].toNat : Int) == 59) = false := by rw [HG.out, HK.out]; rfl
        have e44 : ((s[0].toNat : Int) == 44) = false := by rw [HG.out, HK.out]; rfl
        have e58 : ((s[0].toNat : Int) == 58) = false := by rw [HG.out, HK.out]; rfl
        have e43 : ((s[0].toNat : Int) == 43) = false := by rw [HG.out, HK.out]; rfl
        have e45 : ((s[0].toNat : Int) == 45) = false := by rw [HG.out, HK.out]; rfl
        have e42 : ((s[0].toNat : Int) == 42) = false := by rw [HG.out, HK.out]; rfl
        have e47 : ((s[0].toNat : Int) == 47) = false := by rw [HG.out, HK.out]; rfl
        have e61 : ((s[0].toNat : Int) == 61) = true := by rw [HG.out, HK.out]; rfl
        have l1 : (1 : Int) < (s.size : Int) := by omega
        have l2 : decide ((1 : Int) < (s.size : Int)) = true := decide_eq_true l1
        have q1 : ((s[1].toNat : Int) == 61) = true := (HQ.out hlen).symm
        clear HG hd hS hsz HQ HL HK
        go_enter Tryd.func31, Tryd.ntmps31
        go_wp2_with fail
        go_ret
        exact ⟨ret_i64 (by rw [HR.out]; rfl), rfl⟩
    · obtain rfl : q = false := HL.out hlen
      have HR : Hid (R = 1) := by have := hd.out; show _ = _; simpa [HK.out, hS.out] using this
      have e33 : ((s[0].toNat : Int) == 33) = false := by rw [HG.out, HK.out]; rfl
      have e60 : ((s[0].toNat : Int) == 60) = false := by rw [HG.out, HK.out]; rfl
      have e62 : ((s[0].toNat : Int) == 62) = false := by rw [HG.out, HK.out]; rfl
      have e123 : ((s[0].toNat : Int) == 123) = false := by rw [HG.out, HK.out]; rfl
      have e125 : ((s[0].toNat : Int) == 125) = false := by rw [HG.out, HK.out]; rfl
      have e40 : ((s[0].toNat : Int) == 40) = false := by rw [HG.out, HK.out]; rfl
      have e41 : ((s[0].toNat : Int) == 41) = false := by rw [HG.out, HK.out]; rfl
      have e59 : ((s[0].toNat : Int) == 59) = false := by rw [HG.out, HK.out]; rfl
      have e44 : ((s[0].toNat : Int) == 44) = false := by rw [HG.out, HK.out]; rfl
      have e58 : ((s[0].toNat : Int) == 58) = false := by rw [HG.out, HK.out]; rfl
      have e43 : ((s[0].toNat : Int) == 43) = false := by rw [HG.out, HK.out]; rfl
      have e45 : ((s[0].toNat : Int) == 45) = false := by rw [HG.out, HK.out]; rfl
      have e42 : ((s[0].toNat : Int) == 42) = false := by rw [HG.out, HK.out]; rfl
      have e47 : ((s[0].toNat : Int) == 47) = false := by rw [HG.out, HK.out]; rfl
      have e61 : ((s[0].toNat : Int) == 61) = true := by rw [HG.out, HK.out]; rfl
      have l1 : ¬ (1 : Int) < (s.size : Int) := by omega
      have l2 : decide ((1 : Int) < (s.size : Int)) = false := decide_eq_false l1
      clear HG hd hS hsz HQ HL HK
      go_enter Tryd.func31, Tryd.ntmps31
      go_wp2_with fail
      go_ret
      exact ⟨ret_i64 (by rw [HR.out]; rfl), rfl⟩
  by_cases hlen : 1 < s.size
  · cases q
    · have HR : Hid (R = 0) := by have := hd.out; show _ = _; simpa [hS.out, h33, h60, h62, h123, h125, h40, h41, h59, h44, h58, h43, h45, h42, h47, h61] using this
      have e33 : ((s[0].toNat : Int) == 33) = false := by rw [HG.out]; simp; omega
      have e60 : ((s[0].toNat : Int) == 60) = false := by rw [HG.out]; simp; omega
      have e62 : ((s[0].toNat : Int) == 62) = false := by rw [HG.out]; simp; omega
      have e123 : ((s[0].toNat : Int) == 123) = false := by rw [HG.out]; simp; omega
      have e125 : ((s[0].toNat : Int) == 125) = false := by rw [HG.out]; simp; omega
      have e40 : ((s[0].toNat : Int) == 40) = false := by rw [HG.out]; simp; omega
      have e41 : ((s[0].toNat : Int) == 41) = false := by rw [HG.out]; simp; omega
      have e59 : ((s[0].toNat : Int) == 59) = false := by rw [HG.out]; simp; omega
      have e44 : ((s[0].toNat : Int) == 44) = false := by rw [HG.out]; simp; omega
      have e58 : ((s[0].toNat : Int) == 58) = false := by rw [HG.out]; simp; omega
      have e43 : ((s[0].toNat : Int) == 43) = false := by rw [HG.out]; simp; omega
      have e45 : ((s[0].toNat : Int) == 45) = false := by rw [HG.out]; simp; omega
      have e42 : ((s[0].toNat : Int) == 42) = false := by rw [HG.out]; simp; omega
      have e47 : ((s[0].toNat : Int) == 47) = false := by rw [HG.out]; simp; omega
      have e61 : ((s[0].toNat : Int) == 61) = false := by rw [HG.out]; simp; omega
      have l1 : (1 : Int) < (s.size : Int) := by omega
      have l2 : decide ((1 : Int) < (s.size : Int)) = true := decide_eq_true l1
      have q1 : ((s[1].toNat : Int) == 61) = false := (HQ.out hlen).symm
      clear HG hd hS hsz HQ HL
      go_enter Tryd.func31, Tryd.ntmps31
      go_wp2_with fail
      go_ret
      exact ⟨ret_i64 (by rw [HR.out]; rfl), rfl⟩
    · have HR : Hid (R = 0) := by have := hd.out; show _ = _; simpa [hS.out, h33, h60, h62, h123, h125, h40, h41, h59, h44, h58, h43, h45, h42, h47, h61] using this
      have e33 : ((s[0].toNat : Int) == 33) = false := by rw [HG.out]; simp; omega
      have e60 : ((s[0].toNat : Int) == 60) = false := by rw [HG.out]; simp; omega
      have e62 : ((s[0].toNat : Int) == 62) = false := by rw [HG.out]; simp; omega
      have e123 : ((s[0].toNat : Int) == 123) = false := by rw [HG.out]; simp; omega
      have e125 : ((s[0].toNat : Int) == 125) = false := by rw [HG.out]; simp; omega
      have e40 : ((s[0].toNat : Int) == 40) = false := by rw [HG.out]; simp; omega
      have e41 : ((s[0].toNat : Int) == 41) = false := by rw [HG.out]; simp; omega
      have e59 : ((s[0].toNat : Int) == 59) = false := by rw [HG.out]; simp; omega
      have e44 : ((s[0].toNat : Int) == 44) = false := by rw [HG.out]; simp; omega
      have e58 : ((s[0].toNat : Int) == 58) = false := by rw [HG.out]; simp; omega
      have e43 : ((s[0].toNat : Int) == 43) = false := by rw [HG.out]; simp; omega
      have e45 : ((s[0].toNat : Int) == 45) = false := by rw [HG.out]; simp; omega
      have e42 : ((s[0].toNat : Int) == 42) = false := by rw [HG.out]; simp; omega
      have e47 : ((s[0].toNat : Int) == 47) = false := by rw [HG.out]; simp; omega
      have e61 : ((s[0].toNat : Int) == 61) = false := by rw [HG.out]; simp; omega
      have l1 : (1 : Int) < (s.size : Int) := by omega
      have l2 : decide ((1 : Int) < (s.size : Int)) = true := decide_eq_true l1
      have q1 : ((s[1].toNat : Int) == 61) = true := (HQ.out hlen).symm
      clear HG hd hS hsz HQ HL
      go_enter Tryd.func31, Tryd.ntmps31
      go_wp2_with fail
      go_ret
      exact ⟨ret_i64 (by rw [HR.out]; rfl), rfl⟩
  · obtain rfl : q = false := HL.out hlen
    have HR : Hid (R = 0) := by have := hd.out; show _ = _; simpa [hS.out, h33, h60, h62, h123, h125, h40, h41, h59, h44, h58, h43, h45, h42, h47, h61] using this
    have e33 : ((s[0].toNat : Int) == 33) = false := by rw [HG.out]; simp; omega
    have e60 : ((s[0].toNat : Int) == 60) = false := by rw [HG.out]; simp; omega
    have e62 : ((s[0].toNat : Int) == 62) = false := by rw [HG.out]; simp; omega
    have e123 : ((s[0].toNat : Int) == 123) = false := by rw [HG.out]; simp; omega
    have e125 : ((s[0].toNat : Int) == 125) = false := by rw [HG.out]; simp; omega
    have e40 : ((s[0].toNat : Int) == 40) = false := by rw [HG.out]; simp; omega
    have e41 : ((s[0].toNat : Int) == 41) = false := by rw [HG.out]; simp; omega
    have e59 : ((s[0].toNat : Int) == 59) = false := by rw [HG.out]; simp; omega
    have e44 : ((s[0].toNat : Int) == 44) = false := by rw [HG.out]; simp; omega
    have e58 : ((s[0].toNat : Int) == 58) = false := by rw [HG.out]; simp; omega
    have e43 : ((s[0].toNat : Int) == 43) = false := by rw [HG.out]; simp; omega
    have e45 : ((s[0].toNat : Int) == 45) = false := by rw [HG.out]; simp; omega
    have e42 : ((s[0].toNat : Int) == 42) = false := by rw [HG.out]; simp; omega
    have e47 : ((s[0].toNat : Int) == 47) = false := by rw [HG.out]; simp; omega
    have e61 : ((s[0].toNat : Int) == 61) = false := by rw [HG.out]; simp; omega
    have l1 : ¬ (1 : Int) < (s.size : Int) := by omega
    have l2 : decide ((1 : Int) < (s.size : Int)) = false := decide_eq_false l1
    clear HG hd hS hsz HQ HL
    go_enter Tryd.func31, Tryd.ntmps31
    go_wp2_with fail
    go_ret
    exact ⟨ret_i64 (by rw [HR.out]; rfl), rfl⟩
end Go.Proofs.YtoaeceeookknnaaDoor
