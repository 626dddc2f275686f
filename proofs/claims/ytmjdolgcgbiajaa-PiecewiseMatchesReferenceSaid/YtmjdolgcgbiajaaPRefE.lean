/-
  Contracts of the reference implementation of layer 5: Value, Same, Reduced.
-/
import Derived.Test.YtmjdolgcgbiajaaPRefD
import Derived.Test.YtmjdolgcgbiajaaPStr
namespace Go.Proofs.Ytmjdolgcgbiajaa
open Go.RowKit Pw

set_option maxRecDepth 100000 in
set_option maxHeartbeats 1000000 in
theorem rvalue_raw (p : Option Addr) (len cap : Nat) (x f vn vd sn sd y z : Int) (w : World)
    (K : Hid (∀ W', RowKit.Below w.heap.size w W' → Calls Try.prog 44 #[.slice p len cap, .int .i64 x] W' fun e w' => e = .returned (.agg #[.int .i64 f, .int .i64 vn, .int .i64 vd, .int .i64 sn, .int .i64 sd]) ∧ RowKit.Below W'.heap.size W' w'))
    (KL : Hid (∀ w, Calls Try.prog 45 #[.agg #[.int .i64 f, .int .i64 vn, .int .i64 vd, .int .i64 sn, .int .i64 sd], .int .i64 x] w fun e w' => e = .returned (.agg #[.int .i64 y, .int .i64 z]) ∧ RowKit.Below w.heap.size w w')) :
    Calls Try.prog 27 #[.slice p len cap, .int .i64 x] w fun e w' => e = .returned (.agg #[.int .i64 y, .int .i64 z]) ∧ RowKit.Below w.heap.size w w' := by
  go_enter Try.func27, Try.ntmps27
  go_wp2_with fail
  refine (K.out _ ((Below.refl _ w).alloc (Nat.le_refl _) _)).mono ?_
  rintro _ w1 ⟨rfl, hb⟩
  have HB := Lib.hid (((Below.refl _ w).alloc (Nat.le_refl _) (.cells #[.int .i64 0, .int .i64 0] 24)).trans (hb.mono (by simp)))
  have hA := (At2.new w (.int .i64 0) (.int .i64 0) 24).below hb (by simp)
  have hz1 : w.heap.size < w1.heap.size := by have := hb.size; simp at this; omega
  have HA := Lib.hid hA
  clear hb hA
  go_wp2_with fail
  refine (KL.out _).mono ?_
  rintro _ w2 ⟨rfl, hb⟩
  have HB2 := Lib.hid (HB.out.trans (hb.mono HB.out.size))
  obtain ⟨c0, c1, f0, f1⟩ := HA.out.below hb hz1
  clear hb
  go_wp2
  exact bodyPost_ret (v := .agg #[.int .i64 y, .int .i64 z]) (by simp [results, Try.results27, go_sem, c0, c1]) rfl ⟨rfl, (by repeat' (first | (with_reducible exact HB2.out) | (with_reducible refine Below.setCell ?_ ?_ _) | (with_reducible refine Below.alloc ?_ ?_ _) | (with_reducible refine Below.drew ?_) | (with_reducible refine below_drewN ?_ _) | (with_reducible exact Below.refl _ _) | omega | (simp; done) | (simp; omega)))⟩
theorem rvalue_any (l : List RP) (p : Option Addr) (b off cap len : Nat) (x : Int) (w : World) (hS : SlP w p b off len l) (hv : VR l) (h0 : 0 ≤ x) (h1 : x ≤ 100000) :
    Calls Try.prog 27 #[.slice p len cap, .int .i64 x] w fun e w' => e = .returned (RV (vl (AA l) x)) ∧ RowKit.Below w.heap.size w w' := by
  have hn : 0 < l.length := hv.1
  have hm := hv.wl (pcX_mem (x := x) hn)
  have e : (toAP (pcX l x)).at x = vl (AA l) x := by unfold vl AA; rw [pcX_AA hn]
  rw [← e]
  refine rvalue_raw p len cap x _ _ _ _ _ _ _ w (fun W' h => rpiece_any l p b off cap len x W' (hS.below h) (by have := hS.ln; omega)) (fun w => ?_)
  exact rline_any _ x w (liok_wl hm.1 (by omega))

/-! ### Same -/
def D5 (a b : RP) : Prop := (¬ a.f = b.f) ∨ (a.f = b.f ∧ ¬ a.vn = b.vn) ∨ (a.f = b.f ∧ a.vn = b.vn ∧ ¬ a.vd = b.vd) ∨ (a.f = b.f ∧ a.vn = b.vn ∧ a.vd = b.vd ∧ ¬ a.sn = b.sn) ∨ (a.f = b.f ∧ a.vn = b.vn ∧ a.vd = b.vd ∧ a.sn = b.sn ∧ ¬ a.sd = b.sd)
theorem d5 {a b : RP} (h : a ≠ b) : D5 a b := by
  obtain ⟨f, vn, vd, sn, sd⟩ := a
  obtain ⟨f', vn', vd', sn', sd'⟩ := b
  simp only [ne_eq, RP.mk.injEq] at h
  unfold D5
  simp only
  by_cases h1 : f = f' <;> by_cases h2 : vn = vn' <;> by_cases h3 : vd = vd' <;> by_cases h4 : sn = sn' <;> simp_all
theorem eq5 {a b : RP} (h : a = b) : a.f = b.f ∧ a.vn = b.vn ∧ a.vd = b.vd ∧ a.sn = b.sn ∧ a.sd = b.sd := by subst h; simp
def smR (f g : List RP) : Bool := decide (f = g)

set_option maxRecDepth 100000 in
set_option maxHeartbeats 2000000 in
theorem rsame_any (f g : List RP) (pf pg : Option Addr) (bf of cf lf bg og cg lg : Nat) (w : World) (hS : SlP w pf bf of lf f) (hS' : SlP w pg bg og lg g) :
    Calls Try.prog 18 #[.slice pf lf cf, .slice pg lg cg] w fun e w' => e = .returned (.bool (smR f g)) ∧ RowKit.Below w.heap.size w w' := by
  have HS := Lib.hid hS
  have HS' := Lib.hid hS'
  have hm := hS.max
  have hm' := hS'.max
  have HL := Lib.hid hS.ln
  have HL' := Lib.hid hS'.ln
  obtain ⟨c, hc⟩ : ∃ c, c = smR f g := ⟨_, rfl⟩
  rw [← hc]
  have HC := Lib.hid hc
  clear hc
  by_cases hne : lf = lg
  case neg =>
    have hnz : ¬ (lf : Int) = (lg : Int) := by omega
    have E : Hid (c = false) := by
      show _ = _
      rw [HC.out]
      exact decide_eq_false fun h => hne (by rw [← HL.out, ← HL'.out, h])
    clear hS hS' hne
    go_enter Try.func18, Try.ntmps18
    go_wp2
    go_ret
    exact ⟨ret_bool E.out.symm, Below.refl _ _⟩
  subst hne
  by_cases h0 : lf = 0
  · subst h0
    have E : Hid (c = true) := by
      show _ = _
      rw [HC.out]
      exact decide_eq_true (by rw [List.eq_nil_of_length_eq_zero HL.out, List.eq_nil_of_length_eq_zero HL'.out])
    clear hS hS'
    go_enter Try.func18, Try.ntmps18
    go_wp2_with fail
    go_loopg [5] 0 (fun q s5 wr => s5 = .int .i64 0 ∧ wr = w)
    case atStart => exact ⟨rfl, rfl⟩
    case round =>
      obtain ⟨rfl, rfl⟩ := hrel
      go_wp2
      go_ret
      exact ⟨ret_bool E.out.symm, Below.refl _ _⟩
  have hp := hS.ptr (by omega)
  have hp' := hS'.ptr (by omega)
  subst hp
  subst hp'
  clear hS hS'
  go_enter Try.func18, Try.ntmps18
  go_wp2_with fail
  go_loopg [5] lf (fun q s5 wr => ∃ k : Nat, s5 = .int .i64 k ∧ k ≤ lf ∧ lf - k ≤ q ∧ Hid (RowKit.Below w.heap.size w wr) ∧ Hid (∀ (j : Nat) (h : j < f.length) (h' : j < g.length), j < k → f[j] = g[j]))
  case atStart => exact ⟨0, rfl, by omega, by omega, Below.refl _ _, fun j _ _ h => by omega⟩
  case round =>
    obtain ⟨k, rfl, hk, hkq, HB, HE⟩ := hrel
    by_cases hlt : k < lf
    case neg =>
      obtain rfl : k = lf := by omega
      have hltz : ¬ (k : Int) < (k : Int) := by omega
      have E : Hid (c = true) := by
        show _ = _
        rw [HC.out]
        exact decide_eq_true (List.ext_getElem (by rw [HL.out, HL'.out]) fun j h h' => HE.out j h h' (by rw [HL.out] at h; exact h))
      go_wp2
      go_ret
      exact ⟨ret_bool E.out.symm, HB.out⟩
    case pos =>
      have hltz : (k : Int) < (lf : Int) := by omega
      have hkf : k < f.length := by rw [HL.out]; exact hlt
      have hkg : k < g.length := by rw [HL'.out]; exact hlt
      obtain ⟨x0, x1, x2, x3, x4⟩ := (HS.out.below HB.out).cells k hkf
      obtain ⟨y0, y1, y2, y3, y4⟩ := (HS'.out.below HB.out).cells k hkg
      obtain ⟨X, hX⟩ : ∃ X, X = f[k] := ⟨_, rfl⟩
      obtain ⟨Y, hY⟩ : ∃ Y, Y = g[k] := ⟨_, rfl⟩
      rw [← hX] at x0 x1 x2 x3 x4
      rw [← hY] at y0 y1 y2 y3 y4
      have HXY := Lib.hid (And.intro hX hY)
      clear hX hY
      by_cases hxy : X = Y
      · obtain ⟨e0, e1, e2, e3, e4⟩ := eq5 hxy
        have HQ := Lib.hid hxy
        clear hxy
        rw [← e0] at y0
        rw [← e1] at y1
        rw [← e2] at y2
        rw [← e3] at y3
        rw [← e4] at y4
        clear e0 e1 e2 e3 e4
        go_wp2_with fail
        go_quiet (fail)
        go_wp2_with fail
        go_roundg (lf - (k + 1))
        case measure => omega
        case rel =>
          refine ⟨k + 1, by go_num, by omega, by omega, below_drewN HB.out _, fun j h h' hj => ?_⟩
          by_cases ej : j = k
          · subst ej; rw [← HXY.out.1, ← HXY.out.2]; exact HQ.out
          · exact HE.out j h h' (by omega)
      · have E : Hid (c = false) := by
          show _ = _
          rw [HC.out]
          refine decide_eq_false fun h => hxy ?_
          rw [HXY.out.1, HXY.out.2]
          subst h
          rfl
        have hd := d5 hxy
        clear hxy HE
        unfold D5 at hd
        generalize X.f = a0 at *
        generalize X.vn = a1 at *
        generalize X.vd = a2 at *
        generalize X.sn = a3 at *
        generalize X.sd = a4 at *
        generalize Y.f = b0 at *
        generalize Y.vn = b1 at *
        generalize Y.vd = b2 at *
        generalize Y.sn = b3 at *
        generalize Y.sd = b4 at *
        obtain hd | ⟨rfl, hd⟩ | ⟨rfl, rfl, hd⟩ | ⟨rfl, rfl, rfl, hd⟩ | ⟨rfl, rfl, rfl, rfl, hd⟩ := hd
        all_goals
          go_wp2_with fail
          go_quiet (fail)
          go_wp2
          go_ret
          exact ⟨ret_bool E.out.symm, below_drewN HB.out _⟩

/-! ### Reduced -/
/-- Whether no piece continues the one before, as the machine decides it. -/
def rdR (l : List RP) : Bool := decide (∀ k, k < l.length → ∀ _ : 0 < k, cW (l[k - 1]!) (l[k]!) = false)
set_option maxRecDepth 100000 in
set_option maxHeartbeats 2000000 in
theorem rreduced_any (l : List RP) (p : Option Addr) (b off cap len : Nat) (w : World) (hS : SlP w p b off len l) (hd : ∀ q, q ∈ l → 1 ≤ liD q) :
    Calls Try.prog 31 #[.slice p len cap] w fun e w' => e = .returned (.bool (rdR l)) ∧ RowKit.Below w.heap.size w w' := by
  have HS := Lib.hid hS
  have HD := Lib.hid hd
  have hm := hS.max
  have HL := Lib.hid hS.ln
  obtain ⟨c, hc⟩ : ∃ c, c = rdR l := ⟨_, rfl⟩
  rw [← hc]
  have HC := Lib.hid hc
  clear hc hd
  have hpp := hS.ptr
  clear hS
  go_enter Try.func31, Try.ntmps31
  go_wp2_with fail
  go_loopg [3] len (fun q s3 wr => ∃ k : Nat, s3 = .int .i64 k ∧ 1 ≤ k ∧ k ≤ len + 1 ∧ len + 1 - k ≤ q ∧ Hid (RowKit.Below w.heap.size w wr) ∧ Hid (∀ j, j < l.length → j < k → ∀ _ : 0 < j, cW (l[j - 1]!) (l[j]!) = false))
  case atStart => exact ⟨1, rfl, by omega, by omega, by omega, Below.refl _ _, fun j _ h h' => by omega⟩
  case round =>
    obtain ⟨k, rfl, hk1, hk, hkq, HB, HE⟩ := hrel
    by_cases hlt : k < len
    case neg =>
      have hltz : ¬ (k : Int) < (len : Int) := by omega
      have E : Hid (c = true) := by
        show _ = _
        rw [HC.out]
        exact decide_eq_true fun j hj h0 => HE.out j hj (by rw [HL.out] at hj; omega) h0
      go_wp2
      go_ret
      exact ⟨ret_bool E.out.symm, HB.out⟩
    case pos =>
      have hltz : (k : Int) < (len : Int) := by omega
      have hp := hpp (by omega)
      subst hp
      have hkl : k < l.length := by rw [HL.out]; exact hlt
      have hk0 : k - 1 < l.length := by omega
      obtain ⟨x0, x1, x2, x3, x4⟩ := (HS.out.below HB.out).cells k hkl
      obtain ⟨y0, y1, y2, y3, y4⟩ := (HS.out.below HB.out).cells (k - 1) hk0
      have hbr := (HS.out.below HB.out).lt (by omega)
      obtain ⟨X, hX⟩ : ∃ X, X = l[k] := ⟨_, rfl⟩
      obtain ⟨Y, hY⟩ : ∃ Y, Y = l[k - 1] := ⟨_, rfl⟩
      rw [← hX] at x0 x1 x2 x3 x4
      rw [← hY] at y0 y1 y2 y3 y4
      have K := Lib.hid (fun w => rcont_w Y X w (HD.out Y (by rw [hY]; exact List.getElem_mem _)))
      obtain ⟨d, hd⟩ : ∃ d, d = cW Y X := ⟨_, rfl⟩
      rw [← hd] at K
      have HDD : Hid (d = cW (l[k - 1]!) (l[k]!)) := by show _ = _; rw [hd, hX, hY, getElem!_pos l k hkl, getElem!_pos l (k - 1) hk0]
      clear hX hY hd
      unfold RP.V at K
      replace x0 := cell_bw (by show b < _; exact hbr) x0
      replace x1 := cell_bw (by show b < _; exact hbr) x1
      replace x2 := cell_bw (by show b < _; exact hbr) x2
      replace x3 := cell_bw (by show b < _; exact hbr) x3
      replace x4 := cell_bw (by show b < _; exact hbr) x4
      replace y0 := cell_bw (by show b < _; exact hbr) y0
      replace y1 := cell_bw (by show b < _; exact hbr) y1
      replace y2 := cell_bw (by show b < _; exact hbr) y2
      replace y3 := cell_bw (by show b < _; exact hbr) y3
      replace y4 := cell_bw (by show b < _; exact hbr) y4
      generalize X.f = a0 at *
      generalize X.vn = a1 at *
      generalize X.vd = a2 at *
      generalize X.sn = a3 at *
      generalize X.sd = a4 at *
      generalize Y.f = b0 at *
      generalize Y.vn = b1 at *
      generalize Y.vd = b2 at *
      generalize Y.sn = b3 at *
      generalize Y.sd = b4 at *
      cases d with
      | true =>
        have E : Hid (c = false) := by
          show _ = _
          rw [HC.out]
          exact decide_eq_false fun h => by have := h k hkl (by omega); rw [← HDD.out] at this; cases this
        go_wp2_with fail
        refine wp_region_bw mixed (by kernel_rfl) ?_
        repeat (go_big_quiet_step ((with_reducible refine Calls.bw_of (K.out _))))
        refine wpQuiet_nil ?_
        intro W HW
        replace HW := bw_out HW
        go_wp2
        go_ret
        exact ⟨ret_bool E.out.symm, HB.out.trans (HW.mono HB.out.size)⟩
      | false =>
        go_wp2_with fail
        refine wp_region_bw mixed (by kernel_rfl) ?_
        repeat (go_big_quiet_step ((with_reducible refine Calls.bw_of (K.out _))))
        refine wpQuiet_nil ?_
        intro W HW
        replace HW := bw_out HW
        go_wp2_with fail
        go_roundg (len + 1 - (k + 1))
        case measure => omega
        case rel =>
          refine ⟨k + 1, by go_num, by omega, by omega, by omega, HB.out.trans (HW.mono HB.out.size), fun j hj hjk h0 => ?_⟩
          by_cases ej : j = k
          · subst ej; exact HDD.out.symm
          · exact HE.out j hj (by omega) h0
end Go.Proofs.Ytmjdolgcgbiajaa
