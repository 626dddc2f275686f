/-
  Contract of the reference's Holidays: the same value as the program's areHolidays.
-/
import Derived.Test.YtopngioiboepfaaDoorCWalks3
namespace Go.Proofs.YtopngioiboepfaaDoor
open Go.RowKit Cal

theorem drew2 {w W : World} (h : ∃ q, W = w.drewN q) (n : Nat) : ∃ q, W.drewN n = w.drewN q := by
  obtain ⟨q, rfl⟩ := h; exact ⟨q + n, by simp [World.drewN, Nat.add_assoc]⟩

theorem In_any (d : Int) (w : World) : Calls Tryd.prog 30 #[.int .i64 d] w fun e w' => e = .returned (.bool (isD d)) ∧ w' = w := by
  by_cases h : 0 ≤ d
  · have e : isD d = decide (d ≤ 36524) := by unfold isD; simp [h]
    rw [e]
    go_enter Tryd.func30, Tryd.ntmps30
    go_wp2
    go_ret
    exact ⟨rfl, rfl⟩
  · have e : isD d = false := by unfold isD; simp [h]
    rw [e]
    have e' : decide (0 ≤ d) = false := by simpa using h
    go_enter Tryd.func30, Tryd.ntmps30
    go_wp2
    go_ret
    exact ⟨rfl, rfl⟩

set_option maxHeartbeats 4000000 in
set_option maxRecDepth 100000 in
theorem rHol_any (l : List Int) (p : Option Addr) (b off cap len : Nat) (w : World) (hS : Sl w p b off len l) :
    Calls Tryd.prog 27 #[.slice p len cap] w fun e w' => e = .returned (.bool (hol l)) ∧ ∃ q, w' = w.drewN q := by
  have HS := Lib.hid hS
  have hm := hS.2.2.2.2
  by_cases h64 : 100 < len
  · have e : hol l = false := hol_not (by have := hS.1; omega)
    rw [e]
    have hz : (100 : Int) < (len : Int) := by omega
    clear hS e
    go_enter Tryd.func27, Tryd.ntmps27
    go_wp2
    go_ret
    exact ⟨rfl, 0, rfl⟩
  · have hz : ¬ (100 : Int) < (len : Int) := by omega
    have h64' : len ≤ 100 := by omega
    clear hS
    go_enter Tryd.func27, Tryd.ntmps27
    go_wp2
    go_loopg [3] len (fun g s wr => ∃ (k : Nat) (z : Int), s = .int .i64 k ∧ k ≤ len ∧ len - k ≤ g ∧ Hid (∃ q, wr = w.drewN q) ∧ Hid (Hp l k z ∧ (0 < k → ∃ h : k - 1 < l.length, z = l[k - 1])))
    case atStart => exact ⟨0, -1, rfl, by omega, by omega, ⟨0, rfl⟩, ⟨Hp.zero l, fun h => by omega⟩⟩
    case round =>
      obtain ⟨k, z, rfl, hk, hg, HW, HP⟩ := hrel
      rename World => W
      have HSW : Sl W p b off len l := by
        obtain ⟨q, e⟩ := HW.out
        rw [e]; exact HS.out.drewN q
      by_cases hlt : k < len
      · have hltz : (k : Int) < (len : Int) := by omega
        have hp1 := HS.out.2.1 (by omega)
        have hkl : k < l.length := by rw [HS.out.1]; exact hlt
        have hc := HSW.2.2.1 k hkl
        obtain ⟨x, hx⟩ : ∃ x, x = l[k] := ⟨_, rfl⟩
        rw [← hx] at hc
        subst hp1
        have HSW2 := Lib.hid HSW
        clear HSW
        cases hd : isD x with
        | false =>
          have kd : ∀ w : World, Calls Tryd.prog 30 #[.int .i64 x] w fun e w' => e = .returned (.bool false) ∧ w' = w := fun w => by rw [← hd]; exact In_any x w
          have K := Lib.hid kd
          have E : Hid (hol l = false) := HP.out.1.bad hkl (.inl (by rw [← hx]; exact hd))
          clear kd hd hx
          go_wp2
          go_quiet ((go_at_call 30; exact Calls.quiet_of_same (K.out _)))
          go_wp2
          go_ret
          exact ⟨ret_bool E.out.symm, drew2 HW.out _⟩
        | true =>
          have kd : ∀ w : World, Calls Tryd.prog 30 #[.int .i64 x] w fun e w' => e = .returned (.bool true) ∧ w' = w := fun w => by rw [← hd]; exact In_any x w
          have K := Lib.hid kd
          have hb := (isD_iff x).1 hd
          by_cases hk0 : 0 < k
          · obtain ⟨i, rfl⟩ : ∃ i, k = i + 1 := ⟨k - 1, by omega⟩
            obtain ⟨hi, hz'⟩ := HP.out.2 hk0
            have ez : z = l[i]'(by omega) := hz'
            have hc2 := HSW2.out.2.2.1 i (by omega)
            rw [← ez] at hc2
            have EZ := Lib.hid ez
            have X := Lib.hid hx
            have HD := Lib.hid hd
            have i0 : (0 : Int) ≤ (i : Int) := by omega
            have i1 : (i : Int) < (len : Int) := by omega
            have s1 : IntKind.i64.wrap (((i + 1 : Nat) : Int) - 1) = (i : Int) := by rw [show ((i + 1 : Nat) : Int) - 1 = (i : Int) by omega]; exact IntWalk.i64_in _ (by omega)
            clear kd hd hx ez hz'
            by_cases hs : z < x
            · have HN : Hid (Hp l (i + 1 + 1) x) := by show Hp _ _ _; rw [X.out]; exact HP.out.1.succ hkl (by rw [← X.out]; exact HD.out) (by rw [← X.out]; exact hs)
              have hs2 : decide (x ≤ z) = false := decide_eq_false (by omega)
              go_wp2
              go_quiet ((go_at_call 30; exact Calls.quiet_of_same (K.out _)))
              clear s1
              go_wp2
              go_roundg (len - (i + 1 + 1))
              case measure => omega
              case rel => exact ⟨i + 1 + 1, x, by go_num, by omega, by omega, drew2 HW.out _, ⟨HN.out, fun _ => ⟨by have := HS.out.1; omega, X.out⟩⟩⟩
            · have E : Hid (hol l = false) := HP.out.1.bad hkl (.inr (by rw [← X.out]; omega))
              have hs2 : decide (x ≤ z) = true := decide_eq_true (by omega)
              go_wp2
              go_quiet ((go_at_call 30; exact Calls.quiet_of_same (K.out _)))
              clear s1
              go_wp2
              go_ret
              exact ⟨ret_bool E.out.symm, drew2 HW.out _⟩
          · obtain rfl : k = 0 := by omega
            have hz0 : z = -1 := by
              rcases HP.out.1.2.2.2 with y | y
              · exact y.2
              · simp at y
            have HN : Hid (Hp l (0 + 1) x) := by show Hp _ _ _; rw [hx]; exact HP.out.1.succ hkl (by rw [← hx]; exact hd) (by rw [← hx]; omega)
            have X := Lib.hid hx
            clear kd hd hx hz0
            rw [Nat.add_zero] at hc
            have l0 : 0 < len := hlt
            have l1 : (0 : Int) < (len : Int) := by omega
            go_wp2
            go_quiet ((go_at_call 30; exact Calls.quiet_of_same (K.out _)))
            go_wp2
            go_roundg (len - (0 + 1))
            case measure => omega
            case rel => exact ⟨0 + 1, x, by go_num, by omega, by omega, drew2 HW.out _, ⟨HN.out, fun _ => ⟨by have := HS.out.1; omega, X.out⟩⟩⟩
      · have hltz : ¬ (k : Int) < (len : Int) := by omega
        have E : Hid (hol l = true) := HP.out.1.all (by have := HS.out.1; omega) (by have := HS.out.1; omega)
        go_wp2
        go_ret
        exact ⟨ret_bool E.out.symm, HW.out⟩
end Go.Proofs.YtopngioiboepfaaDoor
