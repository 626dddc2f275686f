/-
  Contract of At.
-/
import Derived.Test.YtmjdolgcgbiajaaPAdd
namespace Go.Proofs.Ytmjdolgcgbiajaa
open Go.RowKit Go.Shelf Pw

attribute [local go_sem] Oper.semAt_some

open Classical in
noncomputable def atR (f : List RP) (x : Int) : Int × Int × Int := if VR f ∧ 0 ≤ x ∧ x ≤ 100000 then (mkN (vl (AA f) x), mkD (vl (AA f) x), mkE (vl (AA f) x)) else (0, 0, 1)

set_option maxRecDepth 100000 in
set_option maxHeartbeats 1000000 in
theorem at_bad (f : List RP) (pf : Option Addr) (bf of cf lf : Nat) (x : Int) (w : World) (hS : SlP w pf bf of lf f) (b : Bool) (hv : vR f = b) (hx : b = false ∨ b = true ∧ x < 0 ∨ b = true ∧ ¬ x < 0 ∧ 100000 < x) : Calls Try.prog 12 #[.slice pf lf cf, .int .i64 x] w fun e w' =>
    e = .returned (.tuple #[.agg #[.int .i64 0, .int .i64 0], .int .i64 1]) ∧ RowKit.Below w.heap.size w w' := by
  have K := Lib.hid (fun w' (h : RowKit.Below w.heap.size w w') => valid_sl f pf bf of cf lf w' (hS.below h))
  rw [hv] at K
  clear hS hv
  rcases hx with rfl | ⟨rfl, hx⟩ | ⟨rfl, hx, hx'⟩
  all_goals
    go_enter Try.func12, Try.ntmps12
    go_wp2_with fail
    refine (K.out _ ((Below.refl _ w).alloc (Nat.le_refl _) _)).mono ?_
    rintro _ w1 ⟨rfl, hb⟩
    have HB := Lib.hid (((Below.refl _ w).alloc (Nat.le_refl _) (.cells #[.int .i64 0, .int .i64 0] 24)).trans (hb.mono (by simp)))
    obtain ⟨c0, c1, f0, f1⟩ := (At2.new w (.int .i64 0) (.int .i64 0) 24).below hb (by simp)
    clear hb
    go_wp2
    exact bodyPost_ret (v := .tuple #[.agg #[.int .i64 0, .int .i64 0], .int .i64 1]) (by simp [results, Try.results12, go_sem, c0, c1]) rfl ⟨rfl, (by repeat' (first | (with_reducible exact HB.out) | (with_reducible refine Below.setCell ?_ ?_ _) | (with_reducible refine Below.alloc ?_ ?_ _) | (with_reducible refine Below.drew ?_) | (with_reducible refine below_drewN ?_ _) | (with_reducible exact Below.refl _ _) | omega | (simp; done) | (simp; omega)))⟩

theorem lineof_wl {p : RP} (h : wl p = true ∧ 0 ≤ p.f ∧ p.f ≤ 100000) (w : World) : Calls Try.prog 34 #[.agg #[.int .i64 p.f, .int .i64 p.vn, .int .i64 p.vd, .int .i64 p.sn, .int .i64 p.sd]] w fun e w' => e = .returned (.agg #[.int .i64 (lnOf p).b, .int .i64 (lnOf p).r, .int .i64 (lnOf p).d]) ∧ RowKit.Below w.heap.size w w' := by
  have := line_in p h.1 h.2.1 h.2.2 0 w
  exact callsIn_wide.1 this

set_option maxRecDepth 100000 in
set_option maxHeartbeats 2000000 in
theorem at_raw (i lf of bf cf : Nat) (pf : Option Addr) (f vn vd sn sd b r d a1 a2 a3 r1 r2 r3 x : Int) (w : World) (hx : ¬ x < 0) (hx' : ¬ 100000 < x) (hp : pf = some ⟨bf, of, none⟩) (hi : i < lf) (hlt : bf < w.heap.size)
    (c0 : w.cell? ⟨bf, of + i * 5, none⟩ = some (.int .i64 f)) (c1 : w.cell? ⟨bf, of + i * 5 + 1, none⟩ = some (.int .i64 vn)) (c2 : w.cell? ⟨bf, of + i * 5 + 2, none⟩ = some (.int .i64 vd)) (c3 : w.cell? ⟨bf, of + i * 5 + 3, none⟩ = some (.int .i64 sn)) (c4 : w.cell? ⟨bf, of + i * 5 + 4, none⟩ = some (.int .i64 sd))
    (K : Hid (∀ W', RowKit.Below w.heap.size w W' → Calls Try.prog 14 #[.slice pf lf cf] W' fun e w' => e = .returned (.bool true) ∧ RowKit.Below W'.heap.size W' w'))
    (KI : Hid (∀ W', RowKit.Below w.heap.size w W' → Calls Try.prog 35 #[.slice pf lf cf, .int .i64 x] W' fun e w' => e = .returned (.int .i64 i) ∧ RowKit.Below W'.heap.size W' w'))
    (KL : Hid (∀ W', Calls Try.prog 34 #[.agg #[.int .i64 f, .int .i64 vn, .int .i64 vd, .int .i64 sn, .int .i64 sd]] W' fun e w' => e = .returned (.agg #[.int .i64 b, .int .i64 r, .int .i64 d]) ∧ RowKit.Below W'.heap.size W' w'))
    (KA : Hid (∀ W', Calls Try.prog 36 #[.agg #[.int .i64 b, .int .i64 r, .int .i64 d], .int .i64 x] W' fun e w' => e = .returned (.agg #[.int .i64 a1, .int .i64 a2, .int .i64 a3]) ∧ RowKit.Below W'.heap.size W' w'))
    (KN : Hid (∀ W', Calls Try.prog 37 #[.agg #[.int .i64 a1, .int .i64 a2, .int .i64 a3]] W' fun e w' => e = .returned (.tuple #[.agg #[.int .i64 r1, .int .i64 r2], .int .i64 r3]) ∧ RowKit.Below W'.heap.size W' w')) :
    Calls Try.prog 12 #[.slice pf lf cf, .int .i64 x] w fun e w' => e = .returned (.tuple #[.agg #[.int .i64 r1, .int .i64 r2], .int .i64 r3]) ∧ RowKit.Below w.heap.size w w' := by
  subst hp
  go_enter Try.func12, Try.ntmps12
  go_wp2_with fail
  refine (K.out _ ((Below.refl _ w).alloc (Nat.le_refl _) _)).mono ?_
  rintro _ w1 ⟨rfl, hb⟩
  have HB := Lib.hid (((Below.refl _ w).alloc (Nat.le_refl _) (.cells #[.int .i64 0, .int .i64 0] 24)).trans (hb.mono (by simp)))
  have hA1 := (At2.new w (.int .i64 0) (.int .i64 0) 24).below hb (by simp)
  have hz1 : w.heap.size < w1.heap.size := by have := hb.size; simp at this; omega
  clear hb
  go_wp2_with fail
  refine (KI.out _ HB.out).mono ?_
  rintro _ w2 ⟨rfl, hb⟩
  have HB2 := Lib.hid (HB.out.trans (hb.mono HB.out.size))
  have hA2 := hA1.below hb hz1
  have hz2 := Nat.lt_of_lt_of_le hz1 hb.size
  clear hb hA1 hz1 HB
  replace c0 := (HB2.out.cell (p := ⟨bf, of + i * 5, none⟩) hlt).trans c0
  replace c1 := (HB2.out.cell (p := ⟨bf, of + i * 5 + 1, none⟩) hlt).trans c1
  replace c2 := (HB2.out.cell (p := ⟨bf, of + i * 5 + 2, none⟩) hlt).trans c2
  replace c3 := (HB2.out.cell (p := ⟨bf, of + i * 5 + 3, none⟩) hlt).trans c3
  replace c4 := (HB2.out.cell (p := ⟨bf, of + i * 5 + 4, none⟩) hlt).trans c4
  have hiz : (i : Int) < (lf : Int) := by omega
  go_wp2_with fail
  refine (KL.out _).mono ?_
  rintro _ w3 ⟨rfl, hb⟩
  have HB3 := Lib.hid (HB2.out.trans (hb.mono HB2.out.size))
  have hA3 := hA2.below hb hz2
  have hz3 := Nat.lt_of_lt_of_le hz2 hb.size
  clear hb hA2 hz2 HB2 c0 c1 c2 c3 c4
  go_wp2_with fail
  refine (KA.out _).mono ?_
  rintro _ w4 ⟨rfl, hb⟩
  have HB4 := Lib.hid (HB3.out.trans (hb.mono HB3.out.size))
  have hA4 := hA3.below hb hz3
  have hz4 := Nat.lt_of_lt_of_le hz3 hb.size
  clear hb hA3 hz3 HB3
  go_wp2_with fail
  refine (KN.out _).mono ?_
  rintro _ w5 ⟨rfl, hb⟩
  have HB5 := Lib.hid (HB4.out.trans (hb.mono HB4.out.size))
  obtain ⟨c0, c1, f0, f1⟩ := hA4.below hb hz4
  clear hb hA4 hz4 HB4
  go_wp2
  exact bodyPost_ret (v := .tuple #[.agg #[.int .i64 r1, .int .i64 r2], .int .i64 r3]) (by simp [results, Try.results12, go_sem, c0, c1]) rfl ⟨rfl, (by repeat' (first | (with_reducible exact HB5.out) | (with_reducible refine Below.setCell ?_ ?_ _) | (with_reducible refine Below.alloc ?_ ?_ _) | (with_reducible refine Below.drew ?_) | (with_reducible refine below_drewN ?_ _) | (with_reducible exact Below.refl _ _) | omega | (simp; done) | (simp; omega)))⟩
theorem ix_cells {l : List RP} {w : World} {b off i : Nat} (h : AtP w b off l) (hi : i < l.length) : w.cell? ⟨b, off + i * 5, none⟩ = some (.int .i64 l[i].f) ∧ w.cell? ⟨b, off + i * 5 + 1, none⟩ = some (.int .i64 l[i].vn) ∧ w.cell? ⟨b, off + i * 5 + 2, none⟩ = some (.int .i64 l[i].vd) ∧ w.cell? ⟨b, off + i * 5 + 3, none⟩ = some (.int .i64 l[i].sn) ∧ w.cell? ⟨b, off + i * 5 + 4, none⟩ = some (.int .i64 l[i].sd) := h i hi
theorem atv_any (f : List RP) (pf : Option Addr) (bf of cf lf : Nat) (x : Int) (w : World) (hS : SlP w pf bf of lf f) : Calls Try.prog 12 #[.slice pf lf cf, .int .i64 x] w fun e w' => e = .returned (.tuple #[.agg #[.int .i64 (atR f x).1, .int .i64 (atR f x).2.1], .int .i64 (atR f x).2.2]) ∧ RowKit.Below w.heap.size w w' := by
  by_cases h : VR f ∧ 0 ≤ x ∧ x ≤ 100000
  · obtain ⟨hv, h0, h1⟩ := h
    rw [show atR f x = (mkN (vl (AA f) x), mkD (vl (AA f) x), mkE (vl (AA f) x)) from if_pos ⟨hv, h0, h1⟩]
    have hI := ixO_is hv h0
    have hn := hS.ln
    have h64 := hv.2.1
    have hm := pR_mem hv h0
    have hl := hv.wl hm
    have hok := lnOf_ok hl.1 hl.2.1 hl.2.2
    have eP := pR_get hI rfl
    obtain ⟨c0, c1, c2, c3, c4⟩ := ix_cells hS.cells hI.1
    rw [← eP] at c0 c1 c2 c3 c4
    have eV : fr ((lnOf (pR f x)).b + (lnOf (pR f x)).r * x) (lnOf (pR f x)).d = vl (AA f) x := by
      have := (lnOf_at hl.1 x).1
      unfold vl
      rw [pA_AA hv h0, ← this]
      rfl
    rw [← eV]
    have hmm := hok.mul h0 (show x ≤ 100001 by omega)
    have hb := hok.b
    have hd0 := hok.d0
    have hd1 := hok.d1
    have hi1 := hI.1
    exact at_raw (ixO f x) lf of bf cf pf _ _ _ _ _ _ _ _ _ _ _ _ _ _ x w (by omega) (by omega) (hS.ptr (by omega)) (by omega) (hS.lt (by omega)) c0 c1 c2 c3 c4
      (fun W' h => by have := valid_sl f pf bf of cf lf W' (hS.below h); rwa [vR_iff.2 hv] at this)
      (fun W' h => indexat_any f pf bf of cf lf _ x W' (hS.below h) hI (by omega))
      (fun W' => lineof_wl hl W')
      (fun W' => LN.call hok h0 (by omega) W')
      (fun W' => number_any _ _ W' hd0 (by omega) (by omega) (by omega))
  · rw [show atR f x = (0, 0, 1) from if_neg h]
    refine at_bad f pf bf of cf lf x w hS (vR f) rfl ?_
    by_cases hv : vR f = true
    · have hv' := vR_iff.1 hv
      by_cases hx : x < 0
      · exact .inr (.inl ⟨hv, hx⟩)
      · exact .inr (.inr ⟨hv, hx, by
          have : ¬ (0 ≤ x ∧ x ≤ 100000) := fun hh => h ⟨hv', hh⟩
          omega⟩)
    · exact .inl (by simpa using hv)
end Go.Proofs.Ytmjdolgcgbiajaa
