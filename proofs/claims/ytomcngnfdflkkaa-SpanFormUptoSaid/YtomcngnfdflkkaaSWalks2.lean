/-
  Contracts of Valid and of the reference's Valid.
-/
import Derived.Test.YtomcngnfdflkkaaSWalks1
namespace Go.Proofs.Ytomcngnfdflkkaa
open Go.RowKit Spn Go.Sort

set_option maxHeartbeats 400000 in
set_option maxRecDepth 100000 in
theorem valid_any (l : List (Int × Int)) (p : Option Addr) (b off cap len : Nat) (w : World) (hS : Sl w p b off len l) :
    Calls Try.prog 10 #[.slice p len cap] w fun e w' => e = .returned (.bool (vl l)) ∧ Below w.heap.size w w' := by
  have HS := Lib.hid hS
  have hm := hS.2.2.2.2.1
  have hl := hS.1
  by_cases h64 : 1000 < len
  · have e : vl l = false := vl_long (by omega)
    rw [e]
    have hz : (1000 : Int) < (len : Int) := by omega
    clear hS e
    go_enter Try.func10, Try.ntmps10
    go_wp2
    go_ret
    exact ⟨rfl, Below.refl _ _⟩
  · have hz : ¬ (1000 : Int) < (len : Int) := by omega
    have h64' : len ≤ 1000 := by omega
    have HL := Lib.hid hl
    clear hS hl
    go_enter Try.func10, Try.ntmps10
    go_wp2_with fail
    go_loopg [9] len (fun g s9 wr => ∃ k : Nat, s9 = .int .i64 k ∧ k ≤ len ∧ len - k ≤ g ∧ Hid (Up l k) ∧ Hid (RowKit.Below w.heap.size w wr))
    case atStart => exact ⟨0, rfl, by omega, by omega, Up.zero l, Below.refl _ _⟩
    case round =>
      obtain ⟨k, rfl, hk, hkg, HU, HB⟩ := hrel
      by_cases hlt : k < len
      · have hltz : (k : Int) < (len : Int) := by omega
        have hp1 := HS.out.2.1 (by omega)
        have hkl : k < l.length := by rw [HL.out]; exact hlt
        have HS1 := Lib.hid (HS.out.below HB.out)
        obtain ⟨x, hx⟩ : ∃ x, x = l[k].1 := ⟨_, rfl⟩
        obtain ⟨y, hy⟩ : ∃ x, x = l[k].2 := ⟨_, rfl⟩
        have c1 := (HS1.out.2.2.1 k hkl).1
        have c2 := (HS1.out.2.2.1 k hkl).2
        have hbs := HS1.out.2.2.2.1 (by omega)
        rw [← hx] at c1
        rw [← hy] at c2
        have l1 := cell_grown hbs c1
        have l2 := cell_grown hbs c2
        subst hp1
        have hm := mixed
        cases hst : st (x, y) with
        | false =>
          have kst : ∀ w, Calls Try.prog 28 #[.agg #[.int .i64 x, .int .i64 y]] w fun e w' => e = .returned (.bool false) ∧ ∃ q os', w' = grow (w.drewN q) os' := fun w => by rw [← hst]; exact stretch_any x y w
          have E : Hid (vl l = false) := vl_bad1 hkl (by rw [show l[k] = (x, y) from Prod.ext hx.symm hy.symm]; exact hst)
          have KST := Lib.hid kst
          clear kst hst hx hy c1 c2
          go_wp2_with fail
          refine wp_region_quiet_grown hm (by kernel_rfl) ?_
          repeat (go_big_quiet_step ((go_at_call 28; refine Calls.grown_of (KST.out _))))
          refine wpQuiet_nil ?_
          intro _ hw'
          obtain ⟨⟨nq, osq⟩, hw''⟩ := hw'
          subst hw''
          go_wp2
          go_ret
          exact ⟨ret_bool E.out.symm, below_grown HB.out HB.out.size _ _⟩
        | true =>
          have kst : ∀ w, Calls Try.prog 28 #[.agg #[.int .i64 x, .int .i64 y]] w fun e w' => e = .returned (.bool true) ∧ ∃ q os', w' = grow (w.drewN q) os' := fun w => by rw [← hst]; exact stretch_any x y w
          have KST := Lib.hid kst
          have hst' : st l[k] = true := by rw [show l[k] = (x, y) from Prod.ext hx.symm hy.symm]; exact hst
          by_cases hk0 : 0 < k
          · have hk0z : (0 : Int) < (k : Int) := by omega
            obtain ⟨z, hz'⟩ : ∃ x, x = (l[k - 1]'(by omega)).2 := ⟨_, rfl⟩
            have c3 := (HS1.out.2.2.1 (k - 1) (by omega)).2
            rw [← hz'] at c3
            have l3 := cell_grown hbs c3
            by_cases hxz : x ≤ z
            · have E : Hid (vl l = false) := vl_bad2 hkl hk0 (by rw [← hx, ← hz']; exact hxz)
              clear kst hst hst' hx hy hz' c1 c2 c3
              go_wp2_with fail
              refine wp_region_quiet_grown hm (by kernel_rfl) ?_
              repeat (go_big_quiet_step ((go_at_call 28; refine Calls.grown_of (KST.out _))))
              refine wpQuiet_nil ?_
              intro _ hw'
              obtain ⟨⟨nq, osq⟩, hw''⟩ := hw'
              subst hw''
              go_wp2
              go_ret
              exact ⟨ret_bool E.out.symm, below_grown HB.out HB.out.size _ _⟩
            · have HUn : Hid (Up l (k + 1)) := HU.out.succ hkl hst' fun _ => by rw [← hx, ← hz']; omega
              have hxz' : decide (x ≤ z) = false := decide_eq_false hxz
              clear kst hst hst' hx hy hz' c1 c2 c3
              go_wp2_with fail
              refine wp_region_quiet_grown hm (by kernel_rfl) ?_
              repeat (go_big_quiet_step ((go_at_call 28; refine Calls.grown_of (KST.out _))))
              refine wpQuiet_nil ?_
              intro _ hw'
              obtain ⟨⟨nq, osq⟩, hw''⟩ := hw'
              subst hw''
              go_wp2
              go_roundg (len - (k + 1))
              case measure => omega
              case rel => exact ⟨k + 1, by go_num, by omega, by omega, HUn, below_grown HB.out HB.out.size _ _⟩
          · have hk0z : decide ((0 : Int) < (k : Int)) = false := decide_eq_false (by omega)
            have HUn : Hid (Up l (k + 1)) := HU.out.succ hkl hst' fun h => absurd h hk0
            clear kst hst hst' hx hy c1 c2
            go_wp2_with fail
            refine wp_region_quiet_grown hm (by kernel_rfl) ?_
            repeat (go_big_quiet_step ((go_at_call 28; refine Calls.grown_of (KST.out _))))
            refine wpQuiet_nil ?_
            intro _ hw'
            obtain ⟨⟨nq, osq⟩, hw''⟩ := hw'
            subst hw''
            go_wp2
            go_roundg (len - (k + 1))
            case measure => omega
            case rel => exact ⟨k + 1, by go_num, by omega, by omega, HUn, below_grown HB.out HB.out.size _ _⟩
      · have hltz : ¬ (k : Int) < (len : Int) := by omega
        have E : Hid (vl l = true) := HU.out.all (by have := HL.out; omega) (by have := HL.out; omega)
        go_wp2
        go_ret
        exact ⟨ret_bool E.out.symm, HB.out⟩
theorem rStretch_b (x y : Int) (c : Bool) (h : st (x, y) = c) (w : World) : Calls Try.prog 29 #[.agg #[.int .i64 x, .int .i64 y]] w fun e w' => e = .returned (.bool c) ∧ RowKit.Below w.heap.size w w' := by
  rw [← h]; refine (rStretch_any x y w).mono ?_; rintro e w' ⟨he, q, os, rfl⟩; exact ⟨he, below_grown (Below.refl _ _) (Nat.le_refl _) q os⟩
theorem stretch_b (x y : Int) (c : Bool) (h : st (x, y) = c) (w : World) : Calls Try.prog 28 #[.agg #[.int .i64 x, .int .i64 y]] w fun e w' => e = .returned (.bool c) ∧ RowKit.Below w.heap.size w w' := by
  rw [← h]; refine (stretch_any x y w).mono ?_; rintro e w' ⟨he, q, os, rfl⟩; exact ⟨he, below_grown (Below.refl _ _) (Nat.le_refl _) q os⟩

set_option maxHeartbeats 1000000 in
set_option maxRecDepth 100000 in
theorem rValid_any (l : List (Int × Int)) (p : Option Addr) (b off cap len : Nat) (w : World) (hS : Sl w p b off len l) :
    Calls Try.prog 11 #[.slice p len cap] w fun e w' => e = .returned (.bool (vl l)) ∧ Below w.heap.size w w' := by
  have HS := Lib.hid hS
  have hm := hS.2.2.2.2.1
  have HL := Lib.hid hS.1
  clear hS
  go_enter Try.func11, Try.ntmps11
  go_wp2_with fail
  go_loopg [3] len (fun g s3 wr => ∃ k : Nat, s3 = .int .i64 k ∧ k ≤ len ∧ len - k ≤ g ∧ Hid (Up l k) ∧ Hid (RowKit.Below w.heap.size w wr))
  case atStart => exact ⟨0, rfl, by omega, by omega, Up.zero l, Below.refl _ _⟩
  case round =>
    obtain ⟨k, rfl, hk, hkg, HU, HB⟩ := hrel
    by_cases hlt : k < len
    · have hltz : (k : Int) < (len : Int) := by omega
      have hp1 := HS.out.2.1 (by omega)
      have hkl : k < l.length := by rw [HL.out]; exact hlt
      have HS1 := Lib.hid (HS.out.below HB.out)
      obtain ⟨x, hx⟩ : ∃ x, x = l[k].1 := ⟨_, rfl⟩
      obtain ⟨y, hy⟩ : ∃ x, x = l[k].2 := ⟨_, rfl⟩
      have c1 := (HS1.out.2.2.1 k hkl).1
      have c2 := (HS1.out.2.2.1 k hkl).2
      rw [← hx] at c1
      rw [← hy] at c2
      have HX := Lib.hid hx
      have hk2 : l[k] = (x, y) := Prod.ext hx.symm hy.symm
      clear hx hy
      subst hp1
      cases hst : st (x, y) with
      | false =>
        have E : Hid (vl l = false) := vl_bad1 hkl (by rw [hk2]; exact hst)
        have KST := Lib.hid (rStretch_b x y false hst)
        clear hst hk2
        go_wp2_with fail
        refine (KST.out _).mono ?_
        rintro _ w1 ⟨rfl, hb⟩
        have HB2 := Lib.hid (HB.out.trans (hb.mono HB.out.size))
        have HS2 := Lib.hid (HS1.out.below hb)
        clear hb HB HS1
        have c1 := (HS2.out.2.2.1 k hkl).1
        rw [← HX.out] at c1
        clear c1 c2
        go_wp2_with fail
        go_quiet (fail)
        go_wp2
        go_ret
        exact ⟨ret_bool E.out.symm, below_drewN HB2.out _⟩
      | true =>
        have KST := Lib.hid (rStretch_b x y true hst)
        have hst' : st l[k] = true := by rw [hk2]; exact hst
        have HK2 := Lib.hid hk2
        clear hst hk2
        by_cases hk0 : 0 < k
        · have hk0z : (0 : Int) < (k : Int) := by omega
          obtain ⟨z, hz'⟩ : ∃ x, x = (l[k - 1]'(by omega)).2 := ⟨_, rfl⟩
          have HZ := Lib.hid hz'
          clear hz'
          by_cases hxz : x ≤ z
          · have E : Hid (vl l = false) := vl_bad2 hkl hk0 (by rw [HK2.out, ← HZ.out]; exact hxz)
            go_wp2_with fail
            refine (KST.out _).mono ?_
            rintro _ w1 ⟨rfl, hb⟩
            have HB2 := Lib.hid (HB.out.trans (hb.mono HB.out.size))
            have HS2 := Lib.hid (HS1.out.below hb)
            clear hb HB HS1
            have c1 := (HS2.out.2.2.1 k hkl).1
            rw [← HX.out] at c1
            have c3 := (HS2.out.2.2.1 (k - 1) (by omega)).2
            rw [← HZ.out] at c3
            clear c2
            go_wp2_with fail
            go_quiet (fail)
            go_wp2
            go_ret
            exact ⟨ret_bool E.out.symm, below_drewN HB2.out _⟩
          · have HUn : Hid (Up l (k + 1)) := HU.out.succ hkl hst' fun _ => by rw [HK2.out, ← HZ.out]; show z < x; omega
            have hxz' : decide (x ≤ z) = false := decide_eq_false hxz
            go_wp2_with fail
            refine (KST.out _).mono ?_
            rintro _ w1 ⟨rfl, hb⟩
            have HB2 := Lib.hid (HB.out.trans (hb.mono HB.out.size))
            have HS2 := Lib.hid (HS1.out.below hb)
            clear hb HB HS1
            have c1 := (HS2.out.2.2.1 k hkl).1
            rw [← HX.out] at c1
            have c3 := (HS2.out.2.2.1 (k - 1) (by omega)).2
            rw [← HZ.out] at c3
            clear c2
            go_wp2_with fail
            go_quiet (fail)
            go_wp2
            go_roundg (len - (k + 1))
            case measure => omega
            case rel => exact ⟨k + 1, by go_num, by omega, by omega, HUn, below_drewN HB2.out _⟩
        · have hk0z : decide ((0 : Int) < (k : Int)) = false := decide_eq_false (by omega)
          have HUn : Hid (Up l (k + 1)) := HU.out.succ hkl hst' fun h => absurd h hk0
          go_wp2_with fail
          refine (KST.out _).mono ?_
          rintro _ w1 ⟨rfl, hb⟩
          have HB2 := Lib.hid (HB.out.trans (hb.mono HB.out.size))
          have HS2 := Lib.hid (HS1.out.below hb)
          clear hb HB HS1
          have c1 := (HS2.out.2.2.1 k hkl).1
          clear c1 c2
          go_wp2_with fail
          go_quiet (fail)
          go_wp2
          go_roundg (len - (k + 1))
          case measure => omega
          case rel => exact ⟨k + 1, by go_num, by omega, by omega, HUn, below_drewN HB2.out _⟩
    · have hltz : ¬ (k : Int) < (len : Int) := by omega
      by_cases h1 : len ≤ 1000
      · have E : Hid (vl l = true) := HU.out.all (by have := HL.out; omega) (by have := HL.out; omega)
        have hz : (len : Int) ≤ 1000 := by omega
        go_wp2
        go_ret
        exact ⟨ret_bool E.out.symm, HB.out⟩
      · have E : Hid (vl l = false) := vl_long (by have := HL.out; omega)
        have hz : ¬ (len : Int) ≤ 1000 := by omega
        go_wp2
        go_ret
        exact ⟨ret_bool E.out.symm, HB.out⟩
end Go.Proofs.Ytomcngnfdflkkaa
