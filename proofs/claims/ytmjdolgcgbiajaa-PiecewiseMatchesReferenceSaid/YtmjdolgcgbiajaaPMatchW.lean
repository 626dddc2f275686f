/-
  The walk of the law that compares with the reference.
-/
import Derived.Test.YtmjdolgcgbiajaaPRBelow
import Derived.Test.YtmjdolgcgbiajaaPRScale
import Derived.Test.YtmjdolgcgbiajaaPRAt
import Derived.Test.YtmjdolgcgbiajaaPScalesW
namespace Go.Proofs.Ytmjdolgcgbiajaa
open Go.RowKit Go.Shelf Pw

/-- A range in its box. -/
def RgB (W : World) (b : Nat) (lo hi : Int) : Prop := W.heap[b]? = some (.cells #[.int .i64 lo, .int .i64 hi] 26 (0, 0))
theorem RgB.all {W : World} {b : Nat} {lo hi : Int} (h : RgB W b lo hi) : W.cell? ⟨b, 0, none⟩ = some (.int .i64 lo) ∧ W.cell? ⟨b, 1, none⟩ = some (.int .i64 hi) := by
  unfold RgB at h
  refine ⟨?_, ?_⟩ <;> simp [World.cell?, h]
theorem RgB.below {W W' : World} {b : Nat} {lo hi : Int} (h : RgB W b lo hi) (k : RowKit.Below W.heap.size W W') : RgB W' b lo hi := (k.block b (Array.getElem?_eq_some_iff.1 h).1).trans h
theorem RgB.new (W : World) (lo hi : Int) : RgB (W.alloc (.cells #[.int .i64 lo, .int .i64 hi] 26)) W.heap.size lo hi := World.alloc_heap_new W _
theorem smR_self (l : List RP) : smR l l = true := decide_eq_true rfl
set_option maxRecDepth 100000 in
set_option maxHeartbeats 4000000 in
theorem match_law (f g : List RP) (pf pg : Option Addr) (bf of cf lf bg og cg lg : Nat) (rn rd x lo hi : Int) (w : World) (hS : SlP w pf bf of lf f) (hS' : SlP w pg bg og lg g) (hcap : lf ≤ cf) (i1 : In64 rn) (i2 : In64 rd) :
    Calls Try.prog 3 #[.slice pf lf cf, .slice pg lg cg, .agg #[.int .i64 rn, .int .i64 rd], .int .i64 x, .agg #[.int .i64 lo, .int .i64 hi]] w fun e w' => e = .returned (.bool true) ∧ RowKit.Below w.heap.size w w' := by
  have HB0 : Hid (RowKit.Below w.heap.size w w) := Below.refl _ _
  have F1 := Lib.hid (few_any pf lf cf)
  have F2 := Lib.hid (few_any pg lg cg)
  have KA := Lib.hid (fun w' (h : RowKit.Below w.heap.size w w') => atv_any f pf bf of cf lf x w' (hS.below h))
  have KA2 := Lib.hid (fun w' (h : RowKit.Below w.heap.size w w') => rat_any f pf bf of cf lf x w' (hS.below h))
  have KV := Lib.hid (fun w' (h : RowKit.Below w.heap.size w w') => valid_sl f pf bf of cf lf w' (hS.below h))
  have KV2 := Lib.hid (fun w' (h : RowKit.Below w.heap.size w w') => rvalid_sl f pf bf of cf lf w' (hS.below h))
  have KP := Lib.hid (fun w' (h : RowKit.Below w.heap.size w w') => add_any f g pf pg bf of cf lf bg og cg lg w' (hS.below h) (hS'.below h))
  have KP2 := Lib.hid (fun w' (h : RowKit.Below w.heap.size w w') => radd_any f g pf pg bf of cf lf bg og cg lg w' (hS.below h) (hS'.below h))
  have KS := Lib.hid (fun w' (h : RowKit.Below w.heap.size w w') => scale_any f pf bf of cf lf rn rd w' (hS.below h) hcap i1 i2)
  have KS2 := Lib.hid (fun w' (h : RowKit.Below w.heap.size w w') => rscale_any f pf bf of cf lf rn rd w' (hS.below h) i1 i2)
  have KL := Lib.hid (fun w' (h : RowKit.Below w.heap.size w w') => least_any f g pf pg bf of cf lf bg og cg lg w' (hS.below h) (hS'.below h))
  have KL2 := Lib.hid (fun w' (h : RowKit.Below w.heap.size w w') => rleast_any f g pf pg bf of cf lf bg og cg lg w' (hS.below h) (hS'.below h))
  have KW := Lib.hid (fun w' (h : RowKit.Below w.heap.size w w') => below_any f g pf pg bf of cf lf bg og cg lg lo hi w' (hS.below h) (hS'.below h))
  have KW2 := Lib.hid (fun w' (h : RowKit.Below w.heap.size w w') => rbelow_any f g pf pg bf of cf lf bg og cg lg lo hi w' (hS.below h) (hS'.below h))
  generalize atR f x = q at KA KA2
  obtain ⟨a1, a2, a3⟩ := q
  generalize vR f = v at KV KV2
  generalize opR f g (addR f g) = q at KP KP2
  obtain ⟨l1, e1⟩ := q
  generalize scaV f rn rd = q at KS KS2
  obtain ⟨l2, e2⟩ := q
  generalize opR f g (leastR f g) = q at KL KL2
  obtain ⟨l3, e3⟩ := q
  generalize belV f g lo hi = q at KW KW2
  obtain ⟨c1, c2, c3⟩ := q
  clear hS hS' hcap i1 i2
  by_cases h1 : lf ≤ 70
  · rw [show decide (lf ≤ 70) = true from decide_eq_true h1] at F1
    by_cases h2 : lg ≤ 70
    · rw [show decide (lg ≤ 70) = true from decide_eq_true h2] at F2
      clear h1 h2
      go_enter Try.func3, Try.ntmps3
      go_wp2_with fail
      obtain ⟨hb, hbx⟩ : RowKit.Below w.heap.size w ((w.alloc (.cells #[.int .i64 rn, .int .i64 rd] 24)).alloc (.cells #[.int .i64 lo, .int .i64 hi] 26)) ∧ NmB ((w.alloc (.cells #[.int .i64 rn, .int .i64 rd] 24)).alloc (.cells #[.int .i64 lo, .int .i64 hi] 26)) (w.heap.size) rn rd ∧ RgB ((w.alloc (.cells #[.int .i64 rn, .int .i64 rd] 24)).alloc (.cells #[.int .i64 lo, .int .i64 hi] 26)) (w.heap.size + 1) lo hi := by
        refine ⟨(by repeat' (first | (with_reducible refine Below.setCell ?_ ?_ _) | (with_reducible refine Below.alloc ?_ ?_ _) | (with_reducible refine Below.drew ?_) | (with_reducible refine below_drewN ?_ _) | (with_reducible exact Below.refl _ _) | omega | (simp; done) | (simp; omega))), ?_, ?_⟩
        · have h := NmB.new w rn rd
          exact (h.below ((Below.refl _ _).alloc (Nat.le_refl _) _))
        · have h := RgB.new (w.alloc (.cells #[.int .i64 rn, .int .i64 rd] 24)) lo hi
          simp only [World.size_alloc] at h
          exact h
      obtain ⟨w1, hw1⟩ : ∃ w1, w1 = ((w.alloc (.cells #[.int .i64 rn, .int .i64 rd] 24)).alloc (.cells #[.int .i64 lo, .int .i64 hi] 26)) := ⟨_, rfl⟩
      rw [← hw1] at hb hbx ⊢
      clear hw1
      obtain ⟨kHR, kHG⟩ := hbx
      have HB1 := Lib.hid (HB0.out.trans (hb.mono HB0.out.size))
      clear hb HB0
      have HR := Lib.hid kHR
      clear kHR
      have HG := Lib.hid kHG
      clear kHG
      refine (head_any _).mono ?_
      rintro _ w2 ⟨rfl, hb⟩
      have HB2 := Lib.hid (HB1.out.trans (hb.mono HB1.out.size))
      replace HR := Lib.hid (HR.out.below hb)
      replace HG := Lib.hid (HG.out.below hb)
      clear hb HB1
      go_wp2_with fail
      refine (F1.out _).mono ?_
      rintro _ w3 ⟨rfl, hb⟩
      have HB3 := Lib.hid (HB2.out.trans (hb.mono HB2.out.size))
      replace HR := Lib.hid (HR.out.below hb)
      replace HG := Lib.hid (HG.out.below hb)
      clear hb HB2
      go_wp2_with fail
      refine (F2.out _).mono ?_
      rintro _ w4 ⟨rfl, hb⟩
      have HB4 := Lib.hid (HB3.out.trans (hb.mono HB3.out.size))
      replace HR := Lib.hid (HR.out.below hb)
      replace HG := Lib.hid (HG.out.below hb)
      clear hb HB3
      go_wp2_with fail
      refine (KA.out _ HB4.out).mono ?_
      rintro _ w5 ⟨rfl, hb⟩
      have HB5 := Lib.hid (HB4.out.trans (hb.mono HB4.out.size))
      replace HR := Lib.hid (HR.out.below hb)
      replace HG := Lib.hid (HG.out.below hb)
      clear hb HB4
      go_wp2_with fail
      obtain ⟨hb, hbx⟩ : RowKit.Below w5.heap.size w5 (w5.alloc (.cells #[.int .i64 a1, .int .i64 a2] 24)) ∧ NmB (w5.alloc (.cells #[.int .i64 a1, .int .i64 a2] 24)) (w5.heap.size) a1 a2 := by
        refine ⟨(by repeat' (first | (with_reducible refine Below.setCell ?_ ?_ _) | (with_reducible refine Below.alloc ?_ ?_ _) | (with_reducible refine Below.drew ?_) | (with_reducible refine below_drewN ?_ _) | (with_reducible exact Below.refl _ _) | omega | (simp; done) | (simp; omega))), ?_⟩
        · have h := NmB.new w5 a1 a2
          exact h
      obtain ⟨w6, hw6⟩ : ∃ w6, w6 = (w5.alloc (.cells #[.int .i64 a1, .int .i64 a2] 24)) := ⟨_, rfl⟩
      rw [← hw6] at hb hbx ⊢
      clear hw6
      have kHA := hbx
      have HB6 := Lib.hid (HB5.out.trans (hb.mono HB5.out.size))
      replace HR := Lib.hid (HR.out.below hb)
      replace HG := Lib.hid (HG.out.below hb)
      clear hb HB5
      have HA := Lib.hid kHA
      clear kHA
      refine (KA2.out _ HB6.out).mono ?_
      rintro _ w7 ⟨rfl, hb⟩
      have HB7 := Lib.hid (HB6.out.trans (hb.mono HB6.out.size))
      replace HR := Lib.hid (HR.out.below hb)
      replace HG := Lib.hid (HG.out.below hb)
      replace HA := Lib.hid (HA.out.below hb)
      clear hb HB6
      go_wp2_with fail
      obtain ⟨hb, hbx⟩ : RowKit.Below w7.heap.size w7 (w7.alloc (.cells #[.int .i64 a1, .int .i64 a2] 24)) ∧ NmB (w7.alloc (.cells #[.int .i64 a1, .int .i64 a2] 24)) (w7.heap.size) a1 a2 := by
        refine ⟨(by repeat' (first | (with_reducible refine Below.setCell ?_ ?_ _) | (with_reducible refine Below.alloc ?_ ?_ _) | (with_reducible refine Below.drew ?_) | (with_reducible refine below_drewN ?_ _) | (with_reducible exact Below.refl _ _) | omega | (simp; done) | (simp; omega))), ?_⟩
        · have h := NmB.new w7 a1 a2
          exact h
      obtain ⟨w8, hw8⟩ : ∃ w8, w8 = (w7.alloc (.cells #[.int .i64 a1, .int .i64 a2] 24)) := ⟨_, rfl⟩
      rw [← hw8] at hb hbx ⊢
      clear hw8
      have kHB := hbx
      have HB8 := Lib.hid (HB7.out.trans (hb.mono HB7.out.size))
      replace HR := Lib.hid (HR.out.below hb)
      replace HG := Lib.hid (HG.out.below hb)
      replace HA := Lib.hid (HA.out.below hb)
      clear hb HB7
      have HB := Lib.hid kHB
      clear kHB
      refine (KV.out _ HB8.out).mono ?_
      rintro _ w9 ⟨rfl, hb⟩
      have HB9 := Lib.hid (HB8.out.trans (hb.mono HB8.out.size))
      replace HR := Lib.hid (HR.out.below hb)
      replace HG := Lib.hid (HG.out.below hb)
      replace HA := Lib.hid (HA.out.below hb)
      replace HB := Lib.hid (HB.out.below hb)
      clear hb HB8
      go_wp2_with fail
      refine (KV2.out _ HB9.out).mono ?_
      rintro _ w10 ⟨rfl, hb⟩
      have HB10 := Lib.hid (HB9.out.trans (hb.mono HB9.out.size))
      replace HR := Lib.hid (HR.out.below hb)
      replace HG := Lib.hid (HG.out.below hb)
      replace HA := Lib.hid (HA.out.below hb)
      replace HB := Lib.hid (HB.out.below hb)
      clear hb HB9
      obtain ⟨m0, m1⟩ := HA.out.all
      obtain ⟨m2, m3⟩ := HB.out.all
      go_wp2_with fail
      refine (KP.out _ HB10.out).mono ?_
      rintro _ w11 ⟨p_HX, b_HX, o_HX, n_HX, c_HX, rfl, hs, hb⟩
      have HB11 := Lib.hid (HB10.out.trans (hb.mono HB10.out.size))
      replace HR := Lib.hid (HR.out.below hb)
      replace HG := Lib.hid (HG.out.below hb)
      clear hb HB10
      have HX := Lib.hid hs
      clear hs
      go_wp2_with fail
      refine (KP2.out _ HB11.out).mono ?_
      rintro _ w12 ⟨p_HY, b_HY, o_HY, n_HY, c_HY, rfl, hs, hb⟩
      have HB12 := Lib.hid (HB11.out.trans (hb.mono HB11.out.size))
      replace HR := Lib.hid (HR.out.below hb)
      replace HG := Lib.hid (HG.out.below hb)
      replace HX := Lib.hid (HX.out.below hb)
      clear hb HB11
      have HY := Lib.hid hs
      clear hs
      go_wp2_with fail
      refine (same_b _ _ true (smR_self _) _ _ _ _ c_HX _ _ _ c_HY _ _ HX.out HY.out).mono ?_
      rintro _ w13 ⟨rfl, hb⟩
      have HB13 := Lib.hid (HB12.out.trans (hb.mono HB12.out.size))
      replace HR := Lib.hid (HR.out.below hb)
      replace HG := Lib.hid (HG.out.below hb)
      replace HX := Lib.hid (HX.out.below hb)
      replace HY := Lib.hid (HY.out.below hb)
      clear hb HB12
      clear HX HY
      try clear m0 m1 m2 m3 HA HB
      obtain ⟨m0, m1⟩ := HR.out.all
      go_wp2_with fail
      refine (KS.out _ HB13.out).mono ?_
      rintro _ w14 ⟨p_HX, b_HX, o_HX, n_HX, c_HX, rfl, hs, hb⟩
      have HB14 := Lib.hid (HB13.out.trans (hb.mono HB13.out.size))
      replace HR := Lib.hid (HR.out.below hb)
      replace HG := Lib.hid (HG.out.below hb)
      clear hb HB13
      have HX := Lib.hid hs
      clear hs
      clear m0 m1
      obtain ⟨m0, m1⟩ := HR.out.all
      go_wp2_with fail
      refine (KS2.out _ HB14.out).mono ?_
      rintro _ w15 ⟨p_HY, b_HY, o_HY, n_HY, c_HY, rfl, hs, hb⟩
      have HB15 := Lib.hid (HB14.out.trans (hb.mono HB14.out.size))
      replace HR := Lib.hid (HR.out.below hb)
      replace HG := Lib.hid (HG.out.below hb)
      replace HX := Lib.hid (HX.out.below hb)
      clear hb HB14
      have HY := Lib.hid hs
      clear hs
      clear m0 m1
      go_wp2_with fail
      refine (same_b _ _ true (smR_self _) _ _ _ _ c_HX _ _ _ c_HY _ _ HX.out HY.out).mono ?_
      rintro _ w16 ⟨rfl, hb⟩
      have HB16 := Lib.hid (HB15.out.trans (hb.mono HB15.out.size))
      replace HR := Lib.hid (HR.out.below hb)
      replace HG := Lib.hid (HG.out.below hb)
      replace HX := Lib.hid (HX.out.below hb)
      replace HY := Lib.hid (HY.out.below hb)
      clear hb HB15
      clear HX HY
      go_wp2_with fail
      refine (KL.out _ HB16.out).mono ?_
      rintro _ w17 ⟨p_HX, b_HX, o_HX, n_HX, c_HX, rfl, hs, hb⟩
      have HB17 := Lib.hid (HB16.out.trans (hb.mono HB16.out.size))
      replace HR := Lib.hid (HR.out.below hb)
      replace HG := Lib.hid (HG.out.below hb)
      clear hb HB16
      have HX := Lib.hid hs
      clear hs
      go_wp2_with fail
      refine (KL2.out _ HB17.out).mono ?_
      rintro _ w18 ⟨p_HY, b_HY, o_HY, n_HY, c_HY, rfl, hs, hb⟩
      have HB18 := Lib.hid (HB17.out.trans (hb.mono HB17.out.size))
      replace HR := Lib.hid (HR.out.below hb)
      replace HG := Lib.hid (HG.out.below hb)
      replace HX := Lib.hid (HX.out.below hb)
      clear hb HB17
      have HY := Lib.hid hs
      clear hs
      go_wp2_with fail
      refine (same_b _ _ true (smR_self _) _ _ _ _ c_HX _ _ _ c_HY _ _ HX.out HY.out).mono ?_
      rintro _ w19 ⟨rfl, hb⟩
      have HB19 := Lib.hid (HB18.out.trans (hb.mono HB18.out.size))
      replace HR := Lib.hid (HR.out.below hb)
      replace HG := Lib.hid (HG.out.below hb)
      replace HX := Lib.hid (HX.out.below hb)
      replace HY := Lib.hid (HY.out.below hb)
      clear hb HB18
      clear HX HY
      obtain ⟨m0, m1⟩ := HG.out.all
      go_wp2_with fail
      refine (KW.out _ HB19.out).mono ?_
      rintro _ w20 ⟨rfl, hb⟩
      have HB20 := Lib.hid (HB19.out.trans (hb.mono HB19.out.size))
      replace HR := Lib.hid (HR.out.below hb)
      replace HG := Lib.hid (HG.out.below hb)
      clear hb HB19
      clear m0 m1
      obtain ⟨m0, m1⟩ := HG.out.all
      go_wp2_with fail
      refine (KW2.out _ HB20.out).mono ?_
      rintro _ w21 ⟨rfl, hb⟩
      have HB21 := Lib.hid (HB20.out.trans (hb.mono HB20.out.size))
      replace HR := Lib.hid (HR.out.below hb)
      replace HG := Lib.hid (HG.out.below hb)
      clear hb HB20
      go_wp2
      go_ret
      exact ⟨by first | rfl | (simp; done) | (simp; omega), HB21.out⟩
    · rw [show decide (lg ≤ 70) = false from decide_eq_false h2] at F2
      clear h1 h2
      go_enter Try.func3, Try.ntmps3
      go_wp2_with fail
      obtain ⟨hb, hbx⟩ : RowKit.Below w.heap.size w ((w.alloc (.cells #[.int .i64 rn, .int .i64 rd] 24)).alloc (.cells #[.int .i64 lo, .int .i64 hi] 26)) ∧ NmB ((w.alloc (.cells #[.int .i64 rn, .int .i64 rd] 24)).alloc (.cells #[.int .i64 lo, .int .i64 hi] 26)) (w.heap.size) rn rd ∧ RgB ((w.alloc (.cells #[.int .i64 rn, .int .i64 rd] 24)).alloc (.cells #[.int .i64 lo, .int .i64 hi] 26)) (w.heap.size + 1) lo hi := by
        refine ⟨(by repeat' (first | (with_reducible refine Below.setCell ?_ ?_ _) | (with_reducible refine Below.alloc ?_ ?_ _) | (with_reducible refine Below.drew ?_) | (with_reducible refine below_drewN ?_ _) | (with_reducible exact Below.refl _ _) | omega | (simp; done) | (simp; omega))), ?_, ?_⟩
        · have h := NmB.new w rn rd
          exact (h.below ((Below.refl _ _).alloc (Nat.le_refl _) _))
        · have h := RgB.new (w.alloc (.cells #[.int .i64 rn, .int .i64 rd] 24)) lo hi
          simp only [World.size_alloc] at h
          exact h
      obtain ⟨w1, hw1⟩ : ∃ w1, w1 = ((w.alloc (.cells #[.int .i64 rn, .int .i64 rd] 24)).alloc (.cells #[.int .i64 lo, .int .i64 hi] 26)) := ⟨_, rfl⟩
      rw [← hw1] at hb hbx ⊢
      clear hw1
      obtain ⟨kHR, kHG⟩ := hbx
      have HB1 := Lib.hid (HB0.out.trans (hb.mono HB0.out.size))
      clear hb HB0
      have HR := Lib.hid kHR
      clear kHR
      have HG := Lib.hid kHG
      clear kHG
      refine (head_any _).mono ?_
      rintro _ w2 ⟨rfl, hb⟩
      have HB2 := Lib.hid (HB1.out.trans (hb.mono HB1.out.size))
      replace HR := Lib.hid (HR.out.below hb)
      replace HG := Lib.hid (HG.out.below hb)
      clear hb HB1
      go_wp2_with fail
      refine (F1.out _).mono ?_
      rintro _ w3 ⟨rfl, hb⟩
      have HB3 := Lib.hid (HB2.out.trans (hb.mono HB2.out.size))
      replace HR := Lib.hid (HR.out.below hb)
      replace HG := Lib.hid (HG.out.below hb)
      clear hb HB2
      go_wp2_with fail
      refine (F2.out _).mono ?_
      rintro _ w4 ⟨rfl, hb⟩
      have HB4 := Lib.hid (HB3.out.trans (hb.mono HB3.out.size))
      replace HR := Lib.hid (HR.out.below hb)
      replace HG := Lib.hid (HG.out.below hb)
      clear hb HB3
      go_wp2
      go_ret
      exact ⟨by first | rfl | (simp; done) | (simp; omega), HB4.out⟩
  · rw [show decide (lf ≤ 70) = false from decide_eq_false h1] at F1
    clear h1
    go_enter Try.func3, Try.ntmps3
    go_wp2_with fail
    obtain ⟨hb, hbx⟩ : RowKit.Below w.heap.size w ((w.alloc (.cells #[.int .i64 rn, .int .i64 rd] 24)).alloc (.cells #[.int .i64 lo, .int .i64 hi] 26)) ∧ NmB ((w.alloc (.cells #[.int .i64 rn, .int .i64 rd] 24)).alloc (.cells #[.int .i64 lo, .int .i64 hi] 26)) (w.heap.size) rn rd ∧ RgB ((w.alloc (.cells #[.int .i64 rn, .int .i64 rd] 24)).alloc (.cells #[.int .i64 lo, .int .i64 hi] 26)) (w.heap.size + 1) lo hi := by
      refine ⟨(by repeat' (first | (with_reducible refine Below.setCell ?_ ?_ _) | (with_reducible refine Below.alloc ?_ ?_ _) | (with_reducible refine Below.drew ?_) | (with_reducible refine below_drewN ?_ _) | (with_reducible exact Below.refl _ _) | omega | (simp; done) | (simp; omega))), ?_, ?_⟩
      · have h := NmB.new w rn rd
        exact (h.below ((Below.refl _ _).alloc (Nat.le_refl _) _))
      · have h := RgB.new (w.alloc (.cells #[.int .i64 rn, .int .i64 rd] 24)) lo hi
        simp only [World.size_alloc] at h
        exact h
    obtain ⟨w1, hw1⟩ : ∃ w1, w1 = ((w.alloc (.cells #[.int .i64 rn, .int .i64 rd] 24)).alloc (.cells #[.int .i64 lo, .int .i64 hi] 26)) := ⟨_, rfl⟩
    rw [← hw1] at hb hbx ⊢
    clear hw1
    obtain ⟨kHR, kHG⟩ := hbx
    have HB1 := Lib.hid (HB0.out.trans (hb.mono HB0.out.size))
    clear hb HB0
    have HR := Lib.hid kHR
    clear kHR
    have HG := Lib.hid kHG
    clear kHG
    refine (head_any _).mono ?_
    rintro _ w2 ⟨rfl, hb⟩
    have HB2 := Lib.hid (HB1.out.trans (hb.mono HB1.out.size))
    replace HR := Lib.hid (HR.out.below hb)
    replace HG := Lib.hid (HG.out.below hb)
    clear hb HB1
    go_wp2_with fail
    refine (F1.out _).mono ?_
    rintro _ w3 ⟨rfl, hb⟩
    have HB3 := Lib.hid (HB2.out.trans (hb.mono HB2.out.size))
    replace HR := Lib.hid (HR.out.below hb)
    replace HG := Lib.hid (HG.out.below hb)
    clear hb HB2
    go_wp2
    go_ret
    exact ⟨by first | rfl | (simp; done) | (simp; omega), HB3.out⟩
end Go.Proofs.Ytmjdolgcgbiajaa
