/-
  The walk of the law on months.
-/
import Derived.Test.YtopngioiboepfaaDoorCSuccWalk
namespace Go.Proofs.YtopngioiboepfaaDoor
open Go.RowKit Cal

/-- Two cells of a block, which can be read and written. -/
structure At2 (w : World) (b : Nat) (x y : Value) : Prop where
  c0 : w.cell? ⟨b, 0, none⟩ = some x
  c1 : w.cell? ⟨b, 1, none⟩ = some y
  f0 : w.frozen? ⟨b, 0, none⟩ = false
  f1 : w.frozen? ⟨b, 1, none⟩ = false
theorem At2.new (w : World) (x y : Value) (T : Nat) : At2 (w.alloc (.cells #[x, y] T)) w.heap.size x y := ⟨by simp, by simp, by simp, by simp⟩
theorem At2.below {w w1 : World} {b B : Nat} {x y : Value} (h : At2 w b x y) (hB : Below B w w1) (hb : b < B) : At2 w1 b x y :=
  ⟨(hB.cell (p := ⟨b, 0, none⟩) hb).trans h.c0, (hB.cell (p := ⟨b, 1, none⟩) hb).trans h.c1, (hB.frozen (p := ⟨b, 0, none⟩) hb).trans h.f0, (hB.frozen (p := ⟨b, 1, none⟩) hb).trans h.f1⟩
theorem At2.alloc {w : World} {b : Nat} {x y : Value} (h : At2 w b x y) (hb : b < w.heap.size) (o : Obj) : At2 (w.alloc o) b x y := h.below (B := w.heap.size) ((Below.refl _ _).alloc (Nat.le_refl _) _) hb

theorem days_is (m f u e : Int) (h : dsF m = f ∧ dsU m = u ∧ dsE m = e) (w : World) (hT : Tab w) : Calls Tryd.prog 21 #[.int .i64 m] w fun e' w' => e' = .returned (.tuple #[.agg #[.int .i64 f, .int .i64 u], .int .i64 e]) ∧ Below w.heap.size w w' := by
  obtain ⟨rfl, rfl, rfl⟩ := h; exact Days_any m w hT
theorem month_is (d n e : Int) (h : moV d = n ∧ dtE d = e) (w : World) (hT : Tab w) : Calls Tryd.prog 19 #[.int .i64 d] w fun e' w' => e' = .returned (.tuple #[.int .i64 n, .int .i64 e]) ∧ w = w' := by
  obtain ⟨rfl, rfl⟩ := h; exact Month_any d w hT

/-- What Month says of a day, by cases. -/
theorem month_cases {m d f u : Int} (h0 : 0 ≤ m) (h1 : m ≤ 1199) (hf : f = MS m) (hu : u = MS m + ML m) : ∃ n e : Int, (moV d = n ∧ dtE d = e) ∧ ((f ≤ d ∧ d < u ∧ n = m ∧ e = 0) ∨ (d < f ∧ e = 0 ∧ (n == m) = false) ∨ (f ≤ d ∧ u ≤ d ∧ e = 0 ∧ (n == m) = false) ∨ (d < f ∧ e = 3) ∨ (f ≤ d ∧ u ≤ d ∧ e = 3)) := by
  refine ⟨_, _, ⟨rfl, rfl⟩, ?_⟩
  have k := months_of (d := d) h0 h1
  subst hf hu
  have e : dtE d = 0 ∨ dtE d = 3 := by unfold dtE; split <;> simp
  rcases e with e | e
  · by_cases z : moV d = m
    · left; have := k.2 ⟨e, z⟩; exact ⟨this.1, this.2, z, e⟩
    · have y : ¬ (MS m ≤ d ∧ d < MS m + ML m) := fun x => z (k.1 x).2
      have zz : (moV d == m) = false := by simpa using z
      right
      rcases (show d < MS m ∨ (MS m ≤ d ∧ MS m + ML m ≤ d) by omega) with q | q
      · left; exact ⟨q, e, zz⟩
      · right; left; exact ⟨q.1, q.2, e, zz⟩
  · have y : ¬ (MS m ≤ d ∧ d < MS m + ML m) := fun x => by have := (k.1 x).1; omega
    right; right; right
    rcases (show d < MS m ∨ (MS m ≤ d ∧ MS m + ML m ≤ d) by omega) with q | q
    · left; exact ⟨q, e⟩
    · right; exact ⟨q.1, q.2, e⟩

set_option maxRecDepth 100000 in
set_option maxHeartbeats 8000000 in
theorem months_law (m d : Int) (w : World) (hE : Tab w) (m0 : -9223372036854775808 ≤ m) (m1 : m ≤ 9223372036854775807) (_d0 : -9223372036854775808 ≤ d) (_d1 : d ≤ 9223372036854775807) :
    Calls Tryd.prog 6 #[.int .i64 m, .int .i64 d] w fun e w' => e = .returned (.bool true) ∧ Below w.heap.size w w' := by
  have KH := Lib.hid (head_any w hE)
  have HE := Lib.hid hE
  clear hE
  by_cases hm : 0 ≤ m ∧ m ≤ 1199
  · obtain ⟨h0, h1⟩ := hm
    obtain ⟨e1, e2, e3⟩ := months_ok h0 h1
    obtain ⟨f, hf⟩ : ∃ f, f = MS m := ⟨_, rfl⟩
    obtain ⟨u, hu⟩ : ∃ u, u = MS m + ML m := ⟨_, rfl⟩
    have hb := ML_bd m
    have f0 := MS_nonneg m
    have f1 := MS_le (show m ≤ 1200 by omega)
    rw [← hf] at e1 f0 f1
    rw [← hu] at e2
    have b0 : 28 ≤ u - f := by omega
    have b1 : u - f ≤ 31 := by omega
    have k1 : ∀ w, Tab w → _ := fun w hT => days_is m f u 0 ⟨e1, e2, e3⟩ w hT
    obtain ⟨n, e, hn, hc⟩ := month_cases (d := d) h0 h1 hf hu
    have k4 : ∀ w, Tab w → _ := fun w hT => month_is d n e hn w hT
    have K1 := Lib.hid k1
    have K4 := Lib.hid k4
    have HF := Lib.hid hf
    have HU := Lib.hid hu
    have HC := Lib.hid hc
    clear k1 k4 e1 e2 e3 hn hf hu hb hc
    by_cases hz : 0 < m
    · obtain ⟨g1, g2⟩ := months_before hz h1
      obtain ⟨a, ha⟩ : ∃ a, a = dsF (m - 1) := ⟨_, rfl⟩
      have k2 : ∀ w, Tab w → _ := fun w hT => days_is (m - 1) a f 0 ⟨ha.symm, by rw [HF.out]; exact g1, g2⟩ w hT
      have K2 := Lib.hid k2
      clear k2 g1 g2 ha
      by_cases h11 : 11 ≤ m
      · obtain ⟨g1, g2⟩ := months_year h11 h1
        obtain ⟨b, hb⟩ : ∃ b, b = dsF (m - 11) := ⟨_, rfl⟩
        obtain ⟨c, hc'⟩ : ∃ c, c = dsU (m - 11) := ⟨_, rfl⟩
        rw [← hb, ← HU.out] at g2
        have k3 : ∀ w, Tab w → _ := fun w hT => days_is (m - 11) b c 0 ⟨hb.symm, hc'.symm, g1⟩ w hT
        have K3 := Lib.hid k3
        have bn : 0 ≤ b := by
          have := MS_nonneg (m - 11)
          have := (months_ok (show 0 ≤ m - 11 by omega) (show m - 11 ≤ 1199 by omega)).1
          omega
        clear k3 g1 hb hc'
        have g3 : (u - b == 365) = true ∨ ((u - b == 365) = false ∧ (u - b == 366) = true) := by
          rcases g2 with g | g
          · left; rw [g]; rfl
          · right; rw [g]; exact ⟨rfl, rfl⟩
        have b2 : u - b ≤ 366 := by omega
        have b3 : 365 ≤ u - b := by omega
        have G3 := Lib.hid g3
        clear g2 g3
        go_enter Tryd.func6, Tryd.ntmps6
        go_wp2_with fail
        refine KH.out.mono ?_
        rintro _ w1 ⟨rfl, hb1⟩
        have HB1 := Lib.hid hb1
        have HE1 := Lib.hid (HE.out.below hb1)
        clear hb1
        go_wp2_with fail
        refine (K1.out _ HE1.out).mono ?_
        rintro _ w2 ⟨rfl, hb2⟩
        have HB2 := Lib.hid (HB1.out.trans (hb2.mono HB1.out.size))
        have HE2 := Lib.hid (HE1.out.below hb2)
        clear hb2 HB1 HE1
        have S2 := Lib.hid (At2.new w2 (.int .i64 f) (.int .i64 u) 32)
        go_wp2_with fail
        refine (K2.out _ (HE2.out.below ((Below.refl _ _).alloc (Nat.le_refl _) _))).mono ?_
        rintro _ w3 ⟨rfl, hb3⟩
        have S3 := S2.out.below hb3 (by simp)
        have hl3 : w2.heap.size < w3.heap.size := by have := hb3.size; simp at this; omega
        have HB3 := Lib.hid ((HB2.out.alloc HB2.out.size (.cells #[.int .i64 f, .int .i64 u] 32)).trans (hb3.mono (by have := HB2.out.size; simp; omega)))
        have HE3 := Lib.hid ((HE2.out.below ((Below.refl _ _).alloc (Nat.le_refl _) _)).below hb3)
        clear hb3 HB2 HE2 S2
        obtain ⟨s0, s1, s2, s3⟩ := S3
        go_wp2_with fail
        refine (K3.out _ (HE3.out.below ((Below.refl _ _).alloc (Nat.le_refl _) _))).mono ?_
        rintro _ w4 ⟨rfl, hb4⟩
        have S4 := ((At2.mk s0 s1 s2 s3).alloc hl3 (.cells #[.int .i64 a, .int .i64 f] 32)).below hb4 (by simp; omega)
        have hl4 : w2.heap.size < w4.heap.size := by have := hb4.size; simp at this; omega
        have HB4 := Lib.hid ((HB3.out.alloc HB3.out.size (.cells #[.int .i64 a, .int .i64 f] 32)).trans (hb4.mono (by have := HB3.out.size; simp; omega)))
        have HE4 := Lib.hid ((HE3.out.below ((Below.refl _ _).alloc (Nat.le_refl _) _)).below hb4)
        clear hb4 HB3 HE3 s0 s1 s2 s3
        obtain ⟨s0, s1, s2, s3⟩ := S4
        rcases G3.out with g | ⟨g, g'⟩
        all_goals
          go_wp2_with fail
          refine (K4.out _ (HE4.out.below ((Below.refl _ _).alloc (Nat.le_refl _) _))).mono ?_
          rintro _ w' ⟨rfl, rfl⟩
          rcases HC.out with ⟨q1, q2, rfl, rfl⟩ | ⟨q1, rfl, q2⟩ | ⟨q1, q2, rfl, q3⟩ | ⟨q1, rfl⟩ | ⟨q1, q2, rfl⟩
          all_goals
            go_wp2
            go_ret
            exact ⟨by first | (simp; done) | (simp; omega), HB4.out.alloc HB4.out.size _⟩
      · skip
        go_enter Tryd.func6, Tryd.ntmps6
        go_wp2_with fail
        refine KH.out.mono ?_
        rintro _ w1 ⟨rfl, hb1⟩
        have HB1 := Lib.hid hb1
        have HE1 := Lib.hid (HE.out.below hb1)
        clear hb1
        go_wp2_with fail
        refine (K1.out _ HE1.out).mono ?_
        rintro _ w2 ⟨rfl, hb2⟩
        have HB2 := Lib.hid (HB1.out.trans (hb2.mono HB1.out.size))
        have HE2 := Lib.hid (HE1.out.below hb2)
        clear hb2 HB1 HE1
        have S2 := Lib.hid (At2.new w2 (.int .i64 f) (.int .i64 u) 32)
        go_wp2_with fail
        refine (K2.out _ (HE2.out.below ((Below.refl _ _).alloc (Nat.le_refl _) _))).mono ?_
        rintro _ w3 ⟨rfl, hb3⟩
        have S3 := S2.out.below hb3 (by simp)
        have hl3 : w2.heap.size < w3.heap.size := by have := hb3.size; simp at this; omega
        have HB3 := Lib.hid ((HB2.out.alloc HB2.out.size (.cells #[.int .i64 f, .int .i64 u] 32)).trans (hb3.mono (by have := HB2.out.size; simp; omega)))
        have HE3 := Lib.hid ((HE2.out.below ((Below.refl _ _).alloc (Nat.le_refl _) _)).below hb3)
        clear hb3 HB2 HE2 S2
        obtain ⟨s0, s1, s2, s3⟩ := S3
        go_wp2_with fail
        refine (K4.out _ (HE3.out.below ((Below.refl _ _).alloc (Nat.le_refl _) _))).mono ?_
        rintro _ w' ⟨rfl, rfl⟩
        rcases HC.out with ⟨q1, q2, rfl, rfl⟩ | ⟨q1, rfl, q2⟩ | ⟨q1, q2, rfl, q3⟩ | ⟨q1, rfl⟩ | ⟨q1, q2, rfl⟩
        all_goals
          go_wp2
          go_ret
          exact ⟨by first | (simp; done) | (simp; omega), HB3.out.alloc HB3.out.size _⟩
    · skip
      go_enter Tryd.func6, Tryd.ntmps6
      go_wp2_with fail
      refine KH.out.mono ?_
      rintro _ w1 ⟨rfl, hb1⟩
      have HB1 := Lib.hid hb1
      have HE1 := Lib.hid (HE.out.below hb1)
      clear hb1
      go_wp2_with fail
      refine (K1.out _ HE1.out).mono ?_
      rintro _ w2 ⟨rfl, hb2⟩
      have HB2 := Lib.hid (HB1.out.trans (hb2.mono HB1.out.size))
      have HE2 := Lib.hid (HE1.out.below hb2)
      clear hb2 HB1 HE1
      go_wp2_with fail
      refine (K4.out _ (HE2.out.below ((Below.refl _ _).alloc (Nat.le_refl _) _))).mono ?_
      rintro _ w' ⟨rfl, rfl⟩
      rcases HC.out with ⟨q1, q2, rfl, rfl⟩ | ⟨q1, rfl, q2⟩ | ⟨q1, q2, rfl, q3⟩ | ⟨q1, rfl⟩ | ⟨q1, q2, rfl⟩
      all_goals
        go_wp2
        go_ret
        exact ⟨by first | (simp; done) | (simp; omega), HB2.out.alloc HB2.out.size _⟩
  · obtain ⟨e1, e2, e3⟩ := ds_bad hm
    have k1 : ∀ w, Tab w → _ := fun w hT => days_is m 0 0 3 ⟨e1, e2, e3⟩ w hT
    have K1 := Lib.hid k1
    clear k1 e1 e2 e3
    have hd2 : m < 0 ∨ (0 ≤ m ∧ 1199 < m) := by omega
    clear hm
    rcases hd2 with h2 | ⟨h2, h3⟩
    all_goals
      go_enter Tryd.func6, Tryd.ntmps6
      go_wp2_with fail
      refine KH.out.mono ?_
      rintro _ w1 ⟨rfl, hb1⟩
      have HB1 := Lib.hid hb1
      have HE1 := Lib.hid (HE.out.below hb1)
      clear hb1
      go_wp2_with fail
      refine (K1.out _ HE1.out).mono ?_
      rintro _ w2 ⟨rfl, hb2⟩
      have HB2 := Lib.hid (HB1.out.trans (hb2.mono HB1.out.size))
      have HE2 := Lib.hid (HE1.out.below hb2)
      clear hb2 HB1 HE1
      go_wp2
      go_ret
      exact ⟨by simp, HB2.out.alloc HB2.out.size _⟩
end Go.Proofs.YtopngioiboepfaaDoor
