/-
  Contracts of Valid, the program's and the reference's.
-/
import Derived.Test.YtmjdolgcgbiajaaPChecked
import Derived.Test.YtmjdolgcgbiajaaPRefA
namespace Go.Proofs.Ytmjdolgcgbiajaa
open Go.RowKit Pw

/-- As far as here the pieces are as a function needs them. -/
def UpR (l : List RP) (k : Nat) : Prop := ∀ (j : Nat) (h : j < l.length), j < k → (∀ h0 : 0 < j, (l[j - 1]'(by omega)).f < l[j].f) ∧ l[j].f ≤ 100000 ∧ wl l[j] = true
/-- A function in raw numbers. -/
def VR (l : List RP) : Prop := 1 ≤ l.length ∧ l.length ≤ 64 ∧ (∀ h : 0 < l.length, l[0].f = 0) ∧ UpR l l.length
open Classical in
/-- Is it a function? -/
noncomputable def vR (l : List RP) : Bool := decide (VR l)
open Classical in
theorem vR_iff {l : List RP} : vR l = true ↔ VR l := by unfold vR; exact decide_eq_true_iff
open Classical in
theorem vR_no {l : List RP} (h : ¬ VR l) : vR l = false := by unfold vR; exact decide_eq_false h
theorem UpR.succ {l : List RP} {k : Nat} (h : UpR l k) (hk : k < l.length) (h1 : ∀ h0 : 0 < k, (l[k - 1]'(by omega)).f < l[k].f) (h2 : l[k].f ≤ 100000) (h3 : wl l[k] = true) : UpR l (k + 1) := fun j hj hjk => by
  by_cases e : j = k
  · subst e; exact ⟨h1, h2, h3⟩
  · exact h j hj (by omega)


set_option maxRecDepth 100000 in
set_option maxHeartbeats 4000000 in
theorem valid_sl (l : List RP) (p : Option Addr) (b off cap len : Nat) (w : World) (hS : SlP w p b off len l) : Calls Try.prog 14 #[.slice p len cap] w fun e w' => e = .returned (.bool (vR l)) ∧ RowKit.Below w.heap.size w w' := by
  have HS := Lib.hid hS
  have hm := hS.max
  have HL := Lib.hid hS.ln
  by_cases h1 : len < 1
  · have h1z : (len : Int) < 1 := by omega
    have E := Lib.hid (vR_no (l := l) fun h => by have := h.1; have := hS.ln; omega)
    clear hS
    go_enter Try.func14, Try.ntmps14
    go_wp2
    go_ret
    exact ⟨ret_bool E.out.symm, Below.refl _ _⟩
  have h1z : ¬ (len : Int) < 1 := by omega
  by_cases h64 : 64 < len
  · have h64z : (64 : Int) < (len : Int) := by omega
    have E := Lib.hid (vR_no (l := l) fun h => by have := h.2.1; have := hS.ln; omega)
    clear hS
    go_enter Try.func14, Try.ntmps14
    go_wp2
    go_ret
    exact ⟨ret_bool E.out.symm, Below.refl _ _⟩
  have h64z : ¬ (64 : Int) < (len : Int) := by omega
  have hp1 := hS.ptr (by omega)
  subst hp1
  have hl0 : 0 < l.length := by have := hS.ln; omega
  have z0 := (hS.cells 0 hl0).1
  rw [Nat.zero_mul, Nat.add_zero] at z0
  have hz0 : (0 : Int) < (len : Int) := by omega
  obtain ⟨f0, hf0⟩ : ∃ f0, f0 = l[0].f := ⟨_, rfl⟩
  rw [← hf0] at z0
  by_cases hh : f0 = 0
  case neg =>
    have E := Lib.hid (vR_no (l := l) fun h => hh (by rw [hf0]; exact h.2.2.1 hl0))
    have hn : (f0 != 0) = true := by simpa using hh
    clear hS hf0 hh
    go_enter Try.func14, Try.ntmps14
    go_wp2
    go_ret
    exact ⟨ret_bool E.out.symm, Below.refl _ _⟩
  case pos =>
    have HF0 : Hid (∀ h : 0 < l.length, l[0].f = 0) := fun _ => by rw [← hf0]; exact hh
    subst hh
    clear hS hf0
    go_enter Try.func14, Try.ntmps14
    go_wp2_with fail
    go_loopg [22] len (fun q s22 wr => ∃ k : Nat, s22 = .int .i64 k ∧ k ≤ len ∧ len - k ≤ q ∧ Hid (RowKit.Below w.heap.size w wr) ∧ Hid (UpR l k))
    case atStart => exact ⟨0, rfl, by omega, by omega, Below.refl _ _, fun j h hj => by omega⟩
    case round =>
      obtain ⟨k, rfl, hk, hkq, HB, HU⟩ := hrel
      clear z0
      by_cases hlt : k < len
      case neg =>
        obtain rfl : k = len := by omega
        have hltz : ¬ (k : Int) < (k : Int) := by omega
        have E := Lib.hid (vR_iff.2 (show VR l from ⟨by have := HL.out; omega, by have := HL.out; omega, HF0.out, by rw [HL.out]; exact HU.out⟩))
        go_wp2
        go_ret
        exact ⟨ret_bool E.out.symm, HB.out⟩
      case pos =>
        have hltz : (k : Int) < (len : Int) := by omega
        have hkl : k < l.length := by rw [HL.out]; exact hlt
        have HS1 := Lib.hid (HS.out.below HB.out)
        have hbr := HS1.out.lt (by omega)
        obtain ⟨x0, x1, x2, x3, x4⟩ := HS1.out.cells k hkl
        obtain ⟨X, hX⟩ : ∃ X, X = l[k] := ⟨_, rfl⟩
        rw [← hX] at x0 x1 x2 x3 x4
        have HIN : X.In := by rw [hX]; exact HS1.out.in64 hkl
        have HX := Lib.hid hX
        obtain ⟨c, hc⟩ : ∃ c, c = wl X := ⟨_, rfl⟩
        have K := Lib.hid (fun w => within_any X w HIN)
        rw [← hc] at K
        have HC := Lib.hid hc
        unfold RP.V at K
        clear hc hX HIN
        obtain ⟨a0, ha0⟩ : ∃ a0, a0 = X.f := ⟨_, rfl⟩
        have HA := Lib.hid ha0
        rw [← ha0] at x0 K
        clear ha0
        generalize X.vn = a1 at *
        generalize X.vd = a2 at *
        generalize X.sn = a3 at *
        generalize X.sd = a4 at *

        by_cases hk0 : 0 < k
        case neg =>
          have hk0z : decide ((0 : Int) < (k : Int)) = false := decide_eq_false (by omega)
          by_cases hbig : 100000 < a0
          case pos =>
            have E := Lib.hid (vR_no (l := l) fun h => by have := (h.2.2.2 k hkl (by omega)).2.1; rw [← HX.out, ← HA.out] at this; omega)
            obtain ⟨WA, hWA⟩ : ∃ WA, WA = wr.alloc (.cells #[.int .i64 a0, .int .i64 a1, .int .i64 a2, .int .i64 a3, .int .i64 a4] 51) := ⟨_, rfl⟩
            obtain ⟨q0, q1, q2, q3, q4, _, _, _, _, _⟩ : At5 WA wr.heap.size (.int .i64 a0) (.int .i64 a1) (.int .i64 a2) (.int .i64 a3) (.int .i64 a4) := by rw [hWA]; exact At5.new wr _ _ _ _ _ _
            have hzA : wr.heap.size < WA.heap.size := by rw [hWA]; simp
            have l0 := cell_bw hzA q0
            have l1 := cell_bw hzA q1
            have l2 := cell_bw hzA q2
            have l3 := cell_bw hzA q3
            have l4 := cell_bw hzA q4
            have HBA : Hid (RowKit.Below w.heap.size w WA) := by show RowKit.Below _ _ _; rw [hWA]; exact HB.out.alloc HB.out.size _
            clear q0 q1 q2 q3 q4
            go_wp2_with fail
            rw [← hWA]
            clear hWA
            refine wp_region_bw mixed (by kernel_rfl) ?_
            repeat (go_big_quiet_step ((with_reducible refine Calls.bw_of (K.out _))))
            refine wpQuiet_nil ?_
            intro W HW
            replace HW := bw_out HW
            go_wp2
            go_ret
            exact ⟨ret_bool E.out.symm, HBA.out.trans (HW.mono HBA.out.size)⟩
          case neg =>
            have hbz : decide (100000 < a0) = false := decide_eq_false hbig
            cases c with
            | false =>
              have E := Lib.hid (vR_no (l := l) fun h => by have := (h.2.2.2 k hkl (by omega)).2.2; rw [← HX.out, ← HC.out] at this; cases this)
              obtain ⟨WA, hWA⟩ : ∃ WA, WA = wr.alloc (.cells #[.int .i64 a0, .int .i64 a1, .int .i64 a2, .int .i64 a3, .int .i64 a4] 51) := ⟨_, rfl⟩
              obtain ⟨q0, q1, q2, q3, q4, _, _, _, _, _⟩ : At5 WA wr.heap.size (.int .i64 a0) (.int .i64 a1) (.int .i64 a2) (.int .i64 a3) (.int .i64 a4) := by rw [hWA]; exact At5.new wr _ _ _ _ _ _
              have hzA : wr.heap.size < WA.heap.size := by rw [hWA]; simp
              have l0 := cell_bw hzA q0
              have l1 := cell_bw hzA q1
              have l2 := cell_bw hzA q2
              have l3 := cell_bw hzA q3
              have l4 := cell_bw hzA q4
              have HBA : Hid (RowKit.Below w.heap.size w WA) := by show RowKit.Below _ _ _; rw [hWA]; exact HB.out.alloc HB.out.size _
              clear q0 q1 q2 q3 q4
              go_wp2_with fail
              rw [← hWA]
              clear hWA
              refine wp_region_bw mixed (by kernel_rfl) ?_
              repeat (go_big_quiet_step ((with_reducible refine Calls.bw_of (K.out _))))
              refine wpQuiet_nil ?_
              intro W HW
              replace HW := bw_out HW
              go_wp2
              go_ret
              exact ⟨ret_bool E.out.symm, HBA.out.trans (HW.mono HBA.out.size)⟩
            | true =>
              have HU2 := Lib.hid (HU.out.succ hkl (fun h0 => by omega) (by rw [← HX.out, ← HA.out]; omega) (by rw [← HX.out]; exact HC.out.symm))
              obtain ⟨WA, hWA⟩ : ∃ WA, WA = wr.alloc (.cells #[.int .i64 a0, .int .i64 a1, .int .i64 a2, .int .i64 a3, .int .i64 a4] 51) := ⟨_, rfl⟩
              obtain ⟨q0, q1, q2, q3, q4, _, _, _, _, _⟩ : At5 WA wr.heap.size (.int .i64 a0) (.int .i64 a1) (.int .i64 a2) (.int .i64 a3) (.int .i64 a4) := by rw [hWA]; exact At5.new wr _ _ _ _ _ _
              have hzA : wr.heap.size < WA.heap.size := by rw [hWA]; simp
              have l0 := cell_bw hzA q0
              have l1 := cell_bw hzA q1
              have l2 := cell_bw hzA q2
              have l3 := cell_bw hzA q3
              have l4 := cell_bw hzA q4
              have HBA : Hid (RowKit.Below w.heap.size w WA) := by show RowKit.Below _ _ _; rw [hWA]; exact HB.out.alloc HB.out.size _
              clear q0 q1 q2 q3 q4
              go_wp2_with fail
              rw [← hWA]
              clear hWA
              refine wp_region_bw mixed (by kernel_rfl) ?_
              repeat (go_big_quiet_step ((with_reducible refine Calls.bw_of (K.out _))))
              refine wpQuiet_nil ?_
              intro W HW
              replace HW := bw_out HW
              go_wp2
              go_roundg (len - (k + 1))
              case measure => omega
              case rel => exact ⟨k + 1, by go_num, by omega, by omega, HBA.out.trans (HW.mono HBA.out.size), HU2.out⟩
        case pos =>
          have hk0z : (0 : Int) < (k : Int) := by omega
          have hk1 : k - 1 < l.length := by omega
          have y0 := (HS1.out.cells (k - 1) hk1).1
          obtain ⟨y, hy⟩ : ∃ y, y = l[k - 1].f := ⟨_, rfl⟩
          rw [← hy] at y0
          have HY := Lib.hid hy
          clear hy
          by_cases hle : a0 ≤ y
          case pos =>
            have E := Lib.hid (vR_no (l := l) fun h => by have := (h.2.2.2 k hkl (by omega)).1 (by omega); rw [← HX.out, ← HA.out, ← HY.out] at this; omega)
            obtain ⟨WA, hWA⟩ : ∃ WA, WA = wr.alloc (.cells #[.int .i64 a0, .int .i64 a1, .int .i64 a2, .int .i64 a3, .int .i64 a4] 51) := ⟨_, rfl⟩
            obtain ⟨q0, q1, q2, q3, q4, _, _, _, _, _⟩ : At5 WA wr.heap.size (.int .i64 a0) (.int .i64 a1) (.int .i64 a2) (.int .i64 a3) (.int .i64 a4) := by rw [hWA]; exact At5.new wr _ _ _ _ _ _
            have hzA : wr.heap.size < WA.heap.size := by rw [hWA]; simp
            have l0 := cell_bw hzA q0
            have l1 := cell_bw hzA q1
            have l2 := cell_bw hzA q2
            have l3 := cell_bw hzA q3
            have l4 := cell_bw hzA q4
            have ly := cell_bw (w := WA) (by show b < _; omega) (show WA.cell? ⟨b, off + (k - 1) * 5, none⟩ = some (.int .i64 y) from by rw [hWA]; exact ((Below.refl wr.heap.size wr).alloc (Nat.le_refl _) _).cell (p := ⟨b, off + (k - 1) * 5, none⟩) hbr |>.trans y0)
            have HBA : Hid (RowKit.Below w.heap.size w WA) := by show RowKit.Below _ _ _; rw [hWA]; exact HB.out.alloc HB.out.size _
            clear q0 q1 q2 q3 q4
            go_wp2_with fail
            rw [← hWA]
            clear hWA
            refine wp_region_bw mixed (by kernel_rfl) ?_
            repeat (go_big_quiet_step ((with_reducible refine Calls.bw_of (K.out _))))
            refine wpQuiet_nil ?_
            intro W HW
            replace HW := bw_out HW
            go_wp2
            go_ret
            exact ⟨ret_bool E.out.symm, HBA.out.trans (HW.mono HBA.out.size)⟩
          case neg =>
            have hlz : decide (a0 ≤ y) = false := decide_eq_false hle
            by_cases hbig : 100000 < a0
            case pos =>
              have E := Lib.hid (vR_no (l := l) fun h => by have := (h.2.2.2 k hkl (by omega)).2.1; rw [← HX.out, ← HA.out] at this; omega)
              obtain ⟨WA, hWA⟩ : ∃ WA, WA = wr.alloc (.cells #[.int .i64 a0, .int .i64 a1, .int .i64 a2, .int .i64 a3, .int .i64 a4] 51) := ⟨_, rfl⟩
              obtain ⟨q0, q1, q2, q3, q4, _, _, _, _, _⟩ : At5 WA wr.heap.size (.int .i64 a0) (.int .i64 a1) (.int .i64 a2) (.int .i64 a3) (.int .i64 a4) := by rw [hWA]; exact At5.new wr _ _ _ _ _ _
              have hzA : wr.heap.size < WA.heap.size := by rw [hWA]; simp
              have l0 := cell_bw hzA q0
              have l1 := cell_bw hzA q1
              have l2 := cell_bw hzA q2
              have l3 := cell_bw hzA q3
              have l4 := cell_bw hzA q4
              have ly := cell_bw (w := WA) (by show b < _; omega) (show WA.cell? ⟨b, off + (k - 1) * 5, none⟩ = some (.int .i64 y) from by rw [hWA]; exact ((Below.refl wr.heap.size wr).alloc (Nat.le_refl _) _).cell (p := ⟨b, off + (k - 1) * 5, none⟩) hbr |>.trans y0)
              have HBA : Hid (RowKit.Below w.heap.size w WA) := by show RowKit.Below _ _ _; rw [hWA]; exact HB.out.alloc HB.out.size _
              clear q0 q1 q2 q3 q4
              go_wp2_with fail
              rw [← hWA]
              clear hWA
              refine wp_region_bw mixed (by kernel_rfl) ?_
              repeat (go_big_quiet_step ((with_reducible refine Calls.bw_of (K.out _))))
              refine wpQuiet_nil ?_
              intro W HW
              replace HW := bw_out HW
              go_wp2
              go_ret
              exact ⟨ret_bool E.out.symm, HBA.out.trans (HW.mono HBA.out.size)⟩
            case neg =>
              have hbz : decide (100000 < a0) = false := decide_eq_false hbig
              cases c with
              | false =>
                have E := Lib.hid (vR_no (l := l) fun h => by have := (h.2.2.2 k hkl (by omega)).2.2; rw [← HX.out, ← HC.out] at this; cases this)
                obtain ⟨WA, hWA⟩ : ∃ WA, WA = wr.alloc (.cells #[.int .i64 a0, .int .i64 a1, .int .i64 a2, .int .i64 a3, .int .i64 a4] 51) := ⟨_, rfl⟩
                obtain ⟨q0, q1, q2, q3, q4, _, _, _, _, _⟩ : At5 WA wr.heap.size (.int .i64 a0) (.int .i64 a1) (.int .i64 a2) (.int .i64 a3) (.int .i64 a4) := by rw [hWA]; exact At5.new wr _ _ _ _ _ _
                have hzA : wr.heap.size < WA.heap.size := by rw [hWA]; simp
                have l0 := cell_bw hzA q0
                have l1 := cell_bw hzA q1
                have l2 := cell_bw hzA q2
                have l3 := cell_bw hzA q3
                have l4 := cell_bw hzA q4
                have ly := cell_bw (w := WA) (by show b < _; omega) (show WA.cell? ⟨b, off + (k - 1) * 5, none⟩ = some (.int .i64 y) from by rw [hWA]; exact ((Below.refl wr.heap.size wr).alloc (Nat.le_refl _) _).cell (p := ⟨b, off + (k - 1) * 5, none⟩) hbr |>.trans y0)
                have HBA : Hid (RowKit.Below w.heap.size w WA) := by show RowKit.Below _ _ _; rw [hWA]; exact HB.out.alloc HB.out.size _
                clear q0 q1 q2 q3 q4
                go_wp2_with fail
                rw [← hWA]
                clear hWA
                refine wp_region_bw mixed (by kernel_rfl) ?_
                repeat (go_big_quiet_step ((with_reducible refine Calls.bw_of (K.out _))))
                refine wpQuiet_nil ?_
                intro W HW
                replace HW := bw_out HW
                go_wp2
                go_ret
                exact ⟨ret_bool E.out.symm, HBA.out.trans (HW.mono HBA.out.size)⟩
              | true =>
                have HU2 := Lib.hid (HU.out.succ hkl (fun h0 => by rw [← HX.out, ← HA.out, ← HY.out]; omega) (by rw [← HX.out, ← HA.out]; omega) (by rw [← HX.out]; exact HC.out.symm))
                obtain ⟨WA, hWA⟩ : ∃ WA, WA = wr.alloc (.cells #[.int .i64 a0, .int .i64 a1, .int .i64 a2, .int .i64 a3, .int .i64 a4] 51) := ⟨_, rfl⟩
                obtain ⟨q0, q1, q2, q3, q4, _, _, _, _, _⟩ : At5 WA wr.heap.size (.int .i64 a0) (.int .i64 a1) (.int .i64 a2) (.int .i64 a3) (.int .i64 a4) := by rw [hWA]; exact At5.new wr _ _ _ _ _ _
                have hzA : wr.heap.size < WA.heap.size := by rw [hWA]; simp
                have l0 := cell_bw hzA q0
                have l1 := cell_bw hzA q1
                have l2 := cell_bw hzA q2
                have l3 := cell_bw hzA q3
                have l4 := cell_bw hzA q4
                have ly := cell_bw (w := WA) (by show b < _; omega) (show WA.cell? ⟨b, off + (k - 1) * 5, none⟩ = some (.int .i64 y) from by rw [hWA]; exact ((Below.refl wr.heap.size wr).alloc (Nat.le_refl _) _).cell (p := ⟨b, off + (k - 1) * 5, none⟩) hbr |>.trans y0)
                have HBA : Hid (RowKit.Below w.heap.size w WA) := by show RowKit.Below _ _ _; rw [hWA]; exact HB.out.alloc HB.out.size _
                clear q0 q1 q2 q3 q4
                go_wp2_with fail
                rw [← hWA]
                clear hWA
                refine wp_region_bw mixed (by kernel_rfl) ?_
                repeat (go_big_quiet_step ((with_reducible refine Calls.bw_of (K.out _))))
                refine wpQuiet_nil ?_
                intro W HW
                replace HW := bw_out HW
                go_wp2
                go_roundg (len - (k + 1))
                case measure => omega
                case rel => exact ⟨k + 1, by go_num, by omega, by omega, HBA.out.trans (HW.mono HBA.out.size), HU2.out⟩
end Go.Proofs.Ytmjdolgcgbiajaa
