/-
  Contract of the reference's At.
-/
import Derived.Test.YtmjdolgcgbiajaaPLaw
namespace Go.Proofs.Ytmjdolgcgbiajaa
open Go.RowKit Go.Shelf Pw

theorem vld_okR (x : Rat) : vld x.num x.den = okR x := by
  cases h : okR x with
  | true => exact (vld_iff _ _).2 (okR_val.1 h)
  | false =>
    cases k : vld x.num x.den with
    | false => rfl
    | true => have := okR_val.2 ((vld_iff _ _).1 k); rw [h] at this; cases this
theorem atR_is {f : List RP} (hf : VR f) {x : Int} (h0 : 0 ≤ x) (h1 : x ≤ 100000) : atR f x = if okR (vl (AA f) x) = true then ((vl (AA f) x).num, ((vl (AA f) x).den : Int), 0) else (0, 0, 3) := by
  rw [show atR f x = _ from if_pos ⟨hf, h0, h1⟩]
  unfold mkN mkD mkE
  split <;> rfl
set_option maxRecDepth 100000 in
set_option maxHeartbeats 1000000 in
theorem rat_bad (f : List RP) (pf : Option Addr) (bf of cf lf : Nat) (x : Int) (w : World) (hS : SlP w pf bf of lf f) (b : Bool) (hv : vR f = b) (hx : b = false ∨ b = true ∧ x < 0 ∨ b = true ∧ ¬ x < 0 ∧ 100000 < x) : Calls Try.prog 13 #[.slice pf lf cf, .int .i64 x] w fun e w' =>
    e = .returned (.tuple #[.agg #[.int .i64 0, .int .i64 0], .int .i64 1]) ∧ RowKit.Below w.heap.size w w' := by
  have K := Lib.hid (fun w' (h : RowKit.Below w.heap.size w w') => rvalid_b f b hv pf bf of cf lf w' (hS.below h))
  clear hS hv
  rcases hx with rfl | ⟨rfl, hx⟩ | ⟨rfl, hx, hx'⟩
  all_goals
    go_enter Try.func13, Try.ntmps13
    go_wp2_with fail
    refine (K.out _ ((Below.refl _ w).alloc (Nat.le_refl _) _)).mono ?_
    rintro _ w1 ⟨rfl, hb⟩
    have HB := Lib.hid (((Below.refl _ w).alloc (Nat.le_refl _) (.cells #[.int .i64 0, .int .i64 0] 24)).trans (hb.mono (by simp)))
    obtain ⟨c0, c1, f0, f1⟩ := (At2.new w (.int .i64 0) (.int .i64 0) 24).below hb (by simp)
    clear hb
    go_wp2
    exact bodyPost_ret (v := .tuple #[.agg #[.int .i64 0, .int .i64 0], .int .i64 1]) (by simp [results, Try.results13, go_sem, c0, c1]) rfl ⟨rfl, (by repeat' (first | (with_reducible exact HB.out) | (with_reducible refine Below.setCell ?_ ?_ _) | (with_reducible refine Below.alloc ?_ ?_ _) | (with_reducible refine Below.drew ?_) | (with_reducible refine below_drewN ?_ _) | (with_reducible exact Below.refl _ _) | omega | (simp; done) | (simp; omega)))⟩
set_option maxRecDepth 100000 in
set_option maxHeartbeats 2000000 in
theorem rat_raw (l : List RP) (pf : Option Addr) (bf of cf lf : Nat) (x n d : Int) (c : Bool) (w : World) (hS : SlP w pf bf of lf l) (hv : VR l) (h0 : 0 ≤ x) (h1 : x ≤ 100000) (hn : n = (vl (AA l) x).num) (hd : d = (vl (AA l) x).den) (hc : okR (vl (AA l) x) = c) :
    Calls Try.prog 13 #[.slice pf lf cf, .int .i64 x] w fun e w' => e = .returned (if c = true then .tuple #[.agg #[.int .i64 n, .int .i64 d], .int .i64 0] else .tuple #[.agg #[.int .i64 0, .int .i64 0], .int .i64 3]) ∧ RowKit.Below w.heap.size w w' := by
  have K := Lib.hid (fun w' (h : RowKit.Below w.heap.size w w') => rvalid_b l true (vR_iff.2 hv) pf bf of cf lf w' (hS.below h))
  have KV := Lib.hid (fun w' (h : RowKit.Below w.heap.size w w') => val_n hv hn hd h0 h1 pf bf of cf lf w' (hS.below h))
  have bd := vl_bd hv h0 h1
  have p1 := den_pos (vl (AA l) x)
  have KR := fun w => rvalid_any n d w (by rw [hn]; omega) (by rw [hn]; omega) (by rw [hd]; omega) (by rw [hd]; omega)
  rw [show vld n d = c by rw [hn, hd, vld_okR, hc]] at KR
  replace KR := Lib.hid KR
  have hx : ¬ x < 0 := by omega
  have hx' : ¬ 100000 < x := by omega
  clear hS hv hn hd hc bd p1 h0 h1
  cases c with
  | true =>
    rw [if_pos rfl]
    go_enter Try.func13, Try.ntmps13
    go_wp2_with fail
    refine (K.out _ ((Below.refl _ w).alloc (Nat.le_refl _) _)).mono ?_
    rintro _ w1 ⟨rfl, hb⟩
    have HB := Lib.hid (((Below.refl _ w).alloc (Nat.le_refl _) (.cells #[.int .i64 0, .int .i64 0] 24)).trans (hb.mono (by simp)))
    have HA := Lib.hid ((At2.new w (.int .i64 0) (.int .i64 0) 24).below hb (by simp))
    have hz1 : w.heap.size < w1.heap.size := by have := hb.size; simp at this; omega
    clear hb
    go_wp2_with fail
    refine (KV.out _ HB.out).mono ?_
    rintro _ w2 ⟨rfl, hb⟩
    have HB2 := Lib.hid (HB.out.trans (hb.mono HB.out.size))
    have HA2 := Lib.hid (HA.out.below hb hz1)
    have hz2 := Nat.lt_of_lt_of_le hz1 hb.size
    clear hb HA HB
    go_wp2_with fail
    obtain ⟨w3, h3⟩ : ∃ w3, w3 = w2.alloc (.cells #[.int .i64 n, .int .i64 d] 24) := ⟨_, rfl⟩
    have hN : NmB w3 w2.heap.size n d := by rw [h3]; exact NmB.new w2 n d
    have hb3 : RowKit.Below w2.heap.size w2 w3 := by rw [h3]; exact (Below.refl _ _).alloc (Nat.le_refl _) _
    rw [← h3]
    clear h3
    refine (KR.out _).mono ?_
    rintro _ w4 ⟨rfl, hb⟩
    have hb4 := hb3.trans (hb.mono hb3.size)
    obtain ⟨m0, m1⟩ := (hN.below hb).all
    obtain ⟨c0, c1, f0, f1⟩ := HA2.out.below hb4 hz2
    have HB4 := Lib.hid (HB2.out.trans (hb4.mono HB2.out.size))
    clear hb hb3 hb4 hN
    go_wp2
    exact bodyPost_ret (v := .tuple #[.agg #[.int .i64 n, .int .i64 d], .int .i64 0]) (by simp [results, Try.results13, go_sem, c0, c1]) rfl ⟨rfl, (by repeat' (first | (with_reducible exact HB4.out) | (with_reducible refine Below.setCell ?_ ?_ _) | (with_reducible refine Below.alloc ?_ ?_ _) | (with_reducible refine Below.drew ?_) | (with_reducible refine below_drewN ?_ _) | (with_reducible exact Below.refl _ _) | omega | (simp; done) | (simp; omega)))⟩
  | false =>
    rw [if_neg (by simp)]
    go_enter Try.func13, Try.ntmps13
    go_wp2_with fail
    refine (K.out _ ((Below.refl _ w).alloc (Nat.le_refl _) _)).mono ?_
    rintro _ w1 ⟨rfl, hb⟩
    have HB := Lib.hid (((Below.refl _ w).alloc (Nat.le_refl _) (.cells #[.int .i64 0, .int .i64 0] 24)).trans (hb.mono (by simp)))
    have HA := Lib.hid ((At2.new w (.int .i64 0) (.int .i64 0) 24).below hb (by simp))
    have hz1 : w.heap.size < w1.heap.size := by have := hb.size; simp at this; omega
    clear hb
    go_wp2_with fail
    refine (KV.out _ HB.out).mono ?_
    rintro _ w2 ⟨rfl, hb⟩
    have HB2 := Lib.hid (HB.out.trans (hb.mono HB.out.size))
    have HA2 := Lib.hid (HA.out.below hb hz1)
    have hz2 := Nat.lt_of_lt_of_le hz1 hb.size
    clear hb HA HB
    go_wp2_with fail
    obtain ⟨w3, h3⟩ : ∃ w3, w3 = w2.alloc (.cells #[.int .i64 n, .int .i64 d] 24) := ⟨_, rfl⟩
    have hN : NmB w3 w2.heap.size n d := by rw [h3]; exact NmB.new w2 n d
    have hb3 : RowKit.Below w2.heap.size w2 w3 := by rw [h3]; exact (Below.refl _ _).alloc (Nat.le_refl _) _
    rw [← h3]
    clear h3
    refine (KR.out _).mono ?_
    rintro _ w4 ⟨rfl, hb⟩
    have hb4 := hb3.trans (hb.mono hb3.size)
    obtain ⟨m0, m1⟩ := (hN.below hb).all
    obtain ⟨c0, c1, f0, f1⟩ := HA2.out.below hb4 hz2
    have HB4 := Lib.hid (HB2.out.trans (hb4.mono HB2.out.size))
    clear hb hb3 hb4 hN
    go_wp2
    exact bodyPost_ret (v := .tuple #[.agg #[.int .i64 0, .int .i64 0], .int .i64 3]) (by simp [results, Try.results13, go_sem, c0, c1]) rfl ⟨rfl, (by repeat' (first | (with_reducible exact HB4.out) | (with_reducible refine Below.setCell ?_ ?_ _) | (with_reducible refine Below.alloc ?_ ?_ _) | (with_reducible refine Below.drew ?_) | (with_reducible refine below_drewN ?_ _) | (with_reducible exact Below.refl _ _) | omega | (simp; done) | (simp; omega)))⟩
theorem rat_any (f : List RP) (pf : Option Addr) (bf of cf lf : Nat) (x : Int) (w : World) (hS : SlP w pf bf of lf f) : Calls Try.prog 13 #[.slice pf lf cf, .int .i64 x] w fun e w' => e = .returned (.tuple #[.agg #[.int .i64 (atR f x).1, .int .i64 (atR f x).2.1], .int .i64 (atR f x).2.2]) ∧ RowKit.Below w.heap.size w w' := by
  by_cases h : VR f ∧ 0 ≤ x ∧ x ≤ 100000
  · have := rat_raw f pf bf of cf lf x _ _ _ w hS h.1 h.2.1 h.2.2 rfl rfl rfl
    rw [atR_is h.1 h.2.1 h.2.2]
    by_cases hc : okR (vl (AA f) x) = true
    · rw [if_pos hc] at this ⊢; exact this
    · rw [if_neg hc] at this ⊢; exact this
  · rw [show atR f x = _ from if_neg h]
    refine rat_bad f pf bf of cf lf x w hS (vR f) rfl ?_
    by_cases hf : VR f
    · have := vR_iff.2 hf
      by_cases h0 : x < 0
      · exact .inr (.inl ⟨this, h0⟩)
      · exact .inr (.inr ⟨this, h0, by have : ¬ (0 ≤ x ∧ x ≤ 100000) := fun k => h ⟨hf, k⟩; omega⟩)
    · exact .inl (vR_no hf)
end Go.Proofs.Ytmjdolgcgbiajaa
