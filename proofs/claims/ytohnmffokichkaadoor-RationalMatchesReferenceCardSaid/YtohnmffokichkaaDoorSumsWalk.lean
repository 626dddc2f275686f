/-
  The walk of the law on sums.
-/
import Derived.Test.YtohnmffokichkaaDoorFloorWalk
namespace Go.Proofs.YtohnmffokichkaaDoor
open Go.RowKit

set_option maxRecDepth 100000 in
set_option maxHeartbeats 1000000 in
theorem sums_law_no (a b c d g h : Int) (w : World) (hE : Env w) (hv : (vld a b && vld c d && vld g h) = false)
    (a0 : -9223372036854775808 ≤ a) (a1 : a ≤ 9223372036854775807) (b0 : -9223372036854775808 ≤ b) (b1 : b ≤ 9223372036854775807)
    (c0 : -9223372036854775808 ≤ c) (c1 : c ≤ 9223372036854775807) (d0 : -9223372036854775808 ≤ d) (d1 : d ≤ 9223372036854775807)
    (g0 : -9223372036854775808 ≤ g) (g1 : g ≤ 9223372036854775807) (h0 : -9223372036854775808 ≤ h) (h1 : h ≤ 9223372036854775807) :
    Calls Tryd.prog 5 #[.agg #[.int .i64 a, .int .i64 b], .agg #[.int .i64 c, .int .i64 d], .agg #[.int .i64 g, .int .i64 h]] w fun e w' =>
      e = .returned (.bool true) ∧ Below w.heap.size w w' := by
  have HE := Lib.hid hE
  have HV := Lib.hid hv
  clear hE hv
  go_enter Tryd.func5, Tryd.ntmps5
  go_wp2_with fail
  refine (head_any _ (((HE.out.below ((Below.refl _ _).alloc (Nat.le_refl _) _)).below ((Below.refl _ _).alloc (Nat.le_refl _) _)).below ((Below.refl _ _).alloc (Nat.le_refl _) _))).mono ?_
  rintro e w1 ⟨rfl, hb1⟩
  have hz1 := hb1.size
  simp only [World.size_alloc] at hz1
  have T0x : At2 w1 (w.heap.size) (.int .i64 a) (.int .i64 b) := by
    have := (((At2.new w (.int .i64 a) (.int .i64 b) 23).alloc (by first | (simp; done) | (simp; omega)) (.cells #[.int .i64 c, .int .i64 d] 23)).alloc (by first | (simp; done) | (simp; omega)) (.cells #[.int .i64 g, .int .i64 h] 23)).below hb1 (by first | (simp; done) | (simp; omega))
    simpa using this
  have T1x : At2 w1 (w.heap.size + 1) (.int .i64 c) (.int .i64 d) := by
    have := ((At2.new (w.alloc (.cells #[.int .i64 a, .int .i64 b] 23)) (.int .i64 c) (.int .i64 d) 23).alloc (by first | (simp; done) | (simp; omega)) (.cells #[.int .i64 g, .int .i64 h] 23)).below hb1 (by first | (simp; done) | (simp; omega))
    simpa using this
  have T2x : At2 w1 (w.heap.size + 1 + 1) (.int .i64 g) (.int .i64 h) := by
    have := (At2.new ((w.alloc (.cells #[.int .i64 a, .int .i64 b] 23)).alloc (.cells #[.int .i64 c, .int .i64 d] 23)) (.int .i64 g) (.int .i64 h) 23).below hb1 (by first | (simp; done) | (simp; omega))
    simpa using this
  have HB1 : Below w.heap.size w w1 := ((((Below.refl _ _).alloc (by first | (exact Nat.le_refl _) | (simp; done) | (simp; omega)) _).alloc (by first | (exact Nat.le_refl _) | (simp; done) | (simp; omega)) _).alloc (by first | (exact Nat.le_refl _) | (simp; done) | (simp; omega)) _).trans (hb1.mono (by simp; omega))
  have hq1 := HB1.size
  clear hb1
  obtain ⟨p0a, p0b, p0c, p0d⟩ := T0x
  have p0l : w.heap.size < w1.heap.size := World.block_lt_of_cell? _ _ p0a
  obtain ⟨p1a, p1b, p1c, p1d⟩ := T1x
  have p1l : w.heap.size + 1 < w1.heap.size := World.block_lt_of_cell? _ _ p1a
  obtain ⟨p2a, p2b, p2c, p2d⟩ := T2x
  have p2l : w.heap.size + 1 + 1 < w1.heap.size := World.block_lt_of_cell? _ _ p2a
  go_wp2_with fail
  refine (numbers3 a b c d g h false _ HV.out a0 a1 b0 b1 c0 c1 d0 d1 g0 g1 h0 h1 _).mono ?_
  rintro e w2 ⟨rfl, hb2⟩
  have hz2 := hb2.size
  have p0t := (At2.mk p0a p0b p0c p0d).below hb2 (by omega)
  have p1t := (At2.mk p1a p1b p1c p1d).below hb2 (by omega)
  have p2t := (At2.mk p2a p2b p2c p2d).below hb2 (by omega)
  have HB2 : Below w.heap.size w w2 := HB1.trans (hb2.mono hq1)
  have hq2 := HB2.size
  clear hb2 HB1 p0a p0b p0c p0d p0l p1a p1b p1c p1d p1l p2a p2b p2c p2d p2l
  obtain ⟨p0a, p0b, p0c, p0d⟩ := p0t
  have p0l : w.heap.size < w2.heap.size := World.block_lt_of_cell? _ _ p0a
  obtain ⟨p1a, p1b, p1c, p1d⟩ := p1t
  have p1l : w.heap.size + 1 < w2.heap.size := World.block_lt_of_cell? _ _ p1a
  obtain ⟨p2a, p2b, p2c, p2d⟩ := p2t
  have p2l : w.heap.size + 1 + 1 < w2.heap.size := World.block_lt_of_cell? _ _ p2a
  go_wp2
  go_ret
  exact ⟨rfl, (by repeat' (first | exact HB2 | refine Below.setCell ?_ (by first | omega | (simp; done) | (simp; omega)) _ | refine below_drewN ?_ _ | refine Below.alloc ?_ (by first | omega | (simp; done) | (simp; omega)) _))⟩

set_option maxRecDepth 100000 in
set_option maxHeartbeats 1000000 in
theorem sums_law_err (a b c d g h : Int) (w : World) (hE : Env w) (hv : (vld a b && vld c d && vld g h) = true)
    (a0 : -9223372036854775808 ≤ a) (a1 : a ≤ 9223372036854775807) (b0 : -9223372036854775808 ≤ b) (b1 : b ≤ 9223372036854775807)
    (c0 : -9223372036854775808 ≤ c) (c1 : c ≤ 9223372036854775807) (d0 : -9223372036854775808 ≤ d) (d1 : d ≤ 9223372036854775807)
    (g0 : -9223372036854775808 ≤ g) (g1 : g ≤ 9223372036854775807) (h0 : -9223372036854775808 ≤ h) (h1 : h ≤ 9223372036854775807)
    (k1 : Gives 14 #[.agg #[.int .i64 a, .int .i64 b], .agg #[.int .i64 c, .int .i64 d]] (.tuple #[.agg #[.int .i64 0, .int .i64 0], .int .i64 3]))
    (k2 : Gives 14 #[.agg #[.int .i64 c, .int .i64 d], .agg #[.int .i64 a, .int .i64 b]] (.tuple #[.agg #[.int .i64 0, .int .i64 0], .int .i64 3])) :
    Calls Tryd.prog 5 #[.agg #[.int .i64 a, .int .i64 b], .agg #[.int .i64 c, .int .i64 d], .agg #[.int .i64 g, .int .i64 h]] w fun e w' =>
      e = .returned (.bool true) ∧ Below w.heap.size w w' := by
  have HE := Lib.hid hE
  have HV := Lib.hid hv
  have K1 := Lib.hid k1
  have K2 := Lib.hid k2
  clear hE hv k1 k2
  go_enter Tryd.func5, Tryd.ntmps5
  go_wp2_with fail
  refine (head_any _ (((HE.out.below ((Below.refl _ _).alloc (Nat.le_refl _) _)).below ((Below.refl _ _).alloc (Nat.le_refl _) _)).below ((Below.refl _ _).alloc (Nat.le_refl _) _))).mono ?_
  rintro e w1 ⟨rfl, hb1⟩
  have hz1 := hb1.size
  simp only [World.size_alloc] at hz1
  have T0x : At2 w1 (w.heap.size) (.int .i64 a) (.int .i64 b) := by
    have := (((At2.new w (.int .i64 a) (.int .i64 b) 23).alloc (by first | (simp; done) | (simp; omega)) (.cells #[.int .i64 c, .int .i64 d] 23)).alloc (by first | (simp; done) | (simp; omega)) (.cells #[.int .i64 g, .int .i64 h] 23)).below hb1 (by first | (simp; done) | (simp; omega))
    simpa using this
  have T1x : At2 w1 (w.heap.size + 1) (.int .i64 c) (.int .i64 d) := by
    have := ((At2.new (w.alloc (.cells #[.int .i64 a, .int .i64 b] 23)) (.int .i64 c) (.int .i64 d) 23).alloc (by first | (simp; done) | (simp; omega)) (.cells #[.int .i64 g, .int .i64 h] 23)).below hb1 (by first | (simp; done) | (simp; omega))
    simpa using this
  have T2x : At2 w1 (w.heap.size + 1 + 1) (.int .i64 g) (.int .i64 h) := by
    have := (At2.new ((w.alloc (.cells #[.int .i64 a, .int .i64 b] 23)).alloc (.cells #[.int .i64 c, .int .i64 d] 23)) (.int .i64 g) (.int .i64 h) 23).below hb1 (by first | (simp; done) | (simp; omega))
    simpa using this
  have HB1 : Below w.heap.size w w1 := ((((Below.refl _ _).alloc (by first | (exact Nat.le_refl _) | (simp; done) | (simp; omega)) _).alloc (by first | (exact Nat.le_refl _) | (simp; done) | (simp; omega)) _).alloc (by first | (exact Nat.le_refl _) | (simp; done) | (simp; omega)) _).trans (hb1.mono (by simp; omega))
  have hq1 := HB1.size
  clear hb1
  obtain ⟨p0a, p0b, p0c, p0d⟩ := T0x
  have p0l : w.heap.size < w1.heap.size := World.block_lt_of_cell? _ _ p0a
  obtain ⟨p1a, p1b, p1c, p1d⟩ := T1x
  have p1l : w.heap.size + 1 < w1.heap.size := World.block_lt_of_cell? _ _ p1a
  obtain ⟨p2a, p2b, p2c, p2d⟩ := T2x
  have p2l : w.heap.size + 1 + 1 < w1.heap.size := World.block_lt_of_cell? _ _ p2a
  go_wp2_with fail
  refine (numbers3 a b c d g h true _ HV.out a0 a1 b0 b1 c0 c1 d0 d1 g0 g1 h0 h1 _).mono ?_
  rintro e w2 ⟨rfl, hb2⟩
  have hz2 := hb2.size
  have p0t := (At2.mk p0a p0b p0c p0d).below hb2 (by omega)
  have p1t := (At2.mk p1a p1b p1c p1d).below hb2 (by omega)
  have p2t := (At2.mk p2a p2b p2c p2d).below hb2 (by omega)
  have HB2 : Below w.heap.size w w2 := HB1.trans (hb2.mono hq1)
  have hq2 := HB2.size
  clear hb2 HB1 p0a p0b p0c p0d p0l p1a p1b p1c p1d p1l p2a p2b p2c p2d p2l
  obtain ⟨p0a, p0b, p0c, p0d⟩ := p0t
  have p0l : w.heap.size < w2.heap.size := World.block_lt_of_cell? _ _ p0a
  obtain ⟨p1a, p1b, p1c, p1d⟩ := p1t
  have p1l : w.heap.size + 1 < w2.heap.size := World.block_lt_of_cell? _ _ p1a
  obtain ⟨p2a, p2b, p2c, p2d⟩ := p2t
  have p2l : w.heap.size + 1 + 1 < w2.heap.size := World.block_lt_of_cell? _ _ p2a
  go_wp2_with fail
  refine (K1.out _).mono ?_
  rintro e w3 ⟨rfl, hb3⟩
  have hz3 := hb3.size
  have p0t := (At2.mk p0a p0b p0c p0d).below hb3 (by omega)
  have p1t := (At2.mk p1a p1b p1c p1d).below hb3 (by omega)
  have p2t := (At2.mk p2a p2b p2c p2d).below hb3 (by omega)
  have HB3 : Below w.heap.size w w3 := HB2.trans (hb3.mono hq2)
  have hq3 := HB3.size
  clear hb3 HB2 p0a p0b p0c p0d p0l p1a p1b p1c p1d p1l p2a p2b p2c p2d p2l
  obtain ⟨p0a, p0b, p0c, p0d⟩ := p0t
  have p0l : w.heap.size < w3.heap.size := World.block_lt_of_cell? _ _ p0a
  obtain ⟨p1a, p1b, p1c, p1d⟩ := p1t
  have p1l : w.heap.size + 1 < w3.heap.size := World.block_lt_of_cell? _ _ p1a
  obtain ⟨p2a, p2b, p2c, p2d⟩ := p2t
  have p2l : w.heap.size + 1 + 1 < w3.heap.size := World.block_lt_of_cell? _ _ p2a
  go_wp2_with fail
  refine (K2.out _).mono ?_
  rintro e w4 ⟨rfl, hb4⟩
  have hz4 := hb4.size
  simp only [World.size_alloc] at hz4
  have p0t := ((At2.mk p0a p0b p0c p0d).alloc (by omega) _).below hb4 (by simp; omega)
  have p1t := ((At2.mk p1a p1b p1c p1d).alloc (by omega) _).below hb4 (by simp; omega)
  have p2t := ((At2.mk p2a p2b p2c p2d).alloc (by omega) _).below hb4 (by simp; omega)
  have pt := (At2.new w3 (.int .i64 0) (.int .i64 0) 23).below hb4 (by simp)
  have HB4 : Below w.heap.size w w4 := (HB3.alloc hq3 _).trans (hb4.mono (by simp; omega))
  have hq4 := HB4.size
  clear hb4 HB3 p0a p0b p0c p0d p0l p1a p1b p1c p1d p1l p2a p2b p2c p2d p2l
  obtain ⟨p0a, p0b, p0c, p0d⟩ := p0t
  have p0l : w.heap.size < w4.heap.size := World.block_lt_of_cell? _ _ p0a
  obtain ⟨p1a, p1b, p1c, p1d⟩ := p1t
  have p1l : w.heap.size + 1 < w4.heap.size := World.block_lt_of_cell? _ _ p1a
  obtain ⟨p2a, p2b, p2c, p2d⟩ := p2t
  have p2l : w.heap.size + 1 + 1 < w4.heap.size := World.block_lt_of_cell? _ _ p2a
  obtain ⟨pa, pb, pc, pd⟩ := pt
  have pl : w3.heap.size < w4.heap.size := World.block_lt_of_cell? _ _ pa
  go_wp2
  go_ret
  exact ⟨rfl, (by repeat' (first | exact HB4 | refine Below.setCell ?_ (by first | omega | (simp; done) | (simp; omega)) _ | refine below_drewN ?_ _ | refine Below.alloc ?_ (by first | omega | (simp; done) | (simp; omega)) _))⟩

set_option maxRecDepth 100000 in
set_option maxHeartbeats 1000000 in
theorem sums_law_r (a b c d g h p1 p2 r1 r2 re u1 u2 ue v1 v2 ve : Int) (w : World) (hE : Env w) (hv : (vld a b && vld c d && vld g h) = true)
    (a0 : -9223372036854775808 ≤ a) (a1 : a ≤ 9223372036854775807) (b0 : -9223372036854775808 ≤ b) (b1 : b ≤ 9223372036854775807)
    (c0 : -9223372036854775808 ≤ c) (c1 : c ≤ 9223372036854775807) (d0 : -9223372036854775808 ≤ d) (d1 : d ≤ 9223372036854775807)
    (g0 : -9223372036854775808 ≤ g) (g1 : g ≤ 9223372036854775807) (h0 : -9223372036854775808 ≤ h) (h1 : h ≤ 9223372036854775807)
    (k1 : Gives 14 #[.agg #[.int .i64 a, .int .i64 b], .agg #[.int .i64 c, .int .i64 d]] (.tuple #[.agg #[.int .i64 p1, .int .i64 p2], .int .i64 0]))
    (k2 : Gives 14 #[.agg #[.int .i64 c, .int .i64 d], .agg #[.int .i64 a, .int .i64 b]] (.tuple #[.agg #[.int .i64 p1, .int .i64 p2], .int .i64 0]))
    (k3 : Gives 16 #[.agg #[.int .i64 p1, .int .i64 p2], .agg #[.int .i64 c, .int .i64 d]] (.tuple #[.agg #[.int .i64 a, .int .i64 b], .int .i64 0]))
    (k4 : Gives 14 #[.agg #[.int .i64 c, .int .i64 d], .agg #[.int .i64 g, .int .i64 h]] (.tuple #[.agg #[.int .i64 r1, .int .i64 r2], .int .i64 re]))
    (k5 : Gives 14 #[.agg #[.int .i64 p1, .int .i64 p2], .agg #[.int .i64 g, .int .i64 h]] (.tuple #[.agg #[.int .i64 u1, .int .i64 u2], .int .i64 ue]))
    (k6 : Gives 14 #[.agg #[.int .i64 a, .int .i64 b], .agg #[.int .i64 r1, .int .i64 r2]] (.tuple #[.agg #[.int .i64 v1, .int .i64 v2], .int .i64 ve]))
    (hr : ¬ re = 0) :
    Calls Tryd.prog 5 #[.agg #[.int .i64 a, .int .i64 b], .agg #[.int .i64 c, .int .i64 d], .agg #[.int .i64 g, .int .i64 h]] w fun e w' =>
      e = .returned (.bool true) ∧ Below w.heap.size w w' := by
  have HE := Lib.hid hE
  have HV := Lib.hid hv
  have K1 := Lib.hid k1
  have K2 := Lib.hid k2
  have K3 := Lib.hid k3
  have K4 := Lib.hid k4
  have K5 := Lib.hid k5
  have K6 := Lib.hid k6
  clear hE hv k1 k2 k3 k4 k5 k6
  have f1 : (re != 0) = true := by simp; exact hr
  go_enter Tryd.func5, Tryd.ntmps5
  go_wp2_with fail
  refine (head_any _ (((HE.out.below ((Below.refl _ _).alloc (Nat.le_refl _) _)).below ((Below.refl _ _).alloc (Nat.le_refl _) _)).below ((Below.refl _ _).alloc (Nat.le_refl _) _))).mono ?_
  rintro e w1 ⟨rfl, hb1⟩
  have hz1 := hb1.size
  simp only [World.size_alloc] at hz1
  have T0x : At2 w1 (w.heap.size) (.int .i64 a) (.int .i64 b) := by
    have := (((At2.new w (.int .i64 a) (.int .i64 b) 23).alloc (by first | (simp; done) | (simp; omega)) (.cells #[.int .i64 c, .int .i64 d] 23)).alloc (by first | (simp; done) | (simp; omega)) (.cells #[.int .i64 g, .int .i64 h] 23)).below hb1 (by first | (simp; done) | (simp; omega))
    simpa using this
  have T1x : At2 w1 (w.heap.size + 1) (.int .i64 c) (.int .i64 d) := by
    have := ((At2.new (w.alloc (.cells #[.int .i64 a, .int .i64 b] 23)) (.int .i64 c) (.int .i64 d) 23).alloc (by first | (simp; done) | (simp; omega)) (.cells #[.int .i64 g, .int .i64 h] 23)).below hb1 (by first | (simp; done) | (simp; omega))
    simpa using this
  have T2x : At2 w1 (w.heap.size + 1 + 1) (.int .i64 g) (.int .i64 h) := by
    have := (At2.new ((w.alloc (.cells #[.int .i64 a, .int .i64 b] 23)).alloc (.cells #[.int .i64 c, .int .i64 d] 23)) (.int .i64 g) (.int .i64 h) 23).below hb1 (by first | (simp; done) | (simp; omega))
    simpa using this
  have HB1 : Below w.heap.size w w1 := ((((Below.refl _ _).alloc (by first | (exact Nat.le_refl _) | (simp; done) | (simp; omega)) _).alloc (by first | (exact Nat.le_refl _) | (simp; done) | (simp; omega)) _).alloc (by first | (exact Nat.le_refl _) | (simp; done) | (simp; omega)) _).trans (hb1.mono (by simp; omega))
  have hq1 := HB1.size
  clear hb1
  obtain ⟨p0a, p0b, p0c, p0d⟩ := T0x
  have p0l : w.heap.size < w1.heap.size := World.block_lt_of_cell? _ _ p0a
  obtain ⟨p1a, p1b, p1c, p1d⟩ := T1x
  have p1l : w.heap.size + 1 < w1.heap.size := World.block_lt_of_cell? _ _ p1a
  obtain ⟨p2a, p2b, p2c, p2d⟩ := T2x
  have p2l : w.heap.size + 1 + 1 < w1.heap.size := World.block_lt_of_cell? _ _ p2a
  go_wp2_with fail
  refine (numbers3 a b c d g h true _ HV.out a0 a1 b0 b1 c0 c1 d0 d1 g0 g1 h0 h1 _).mono ?_
  rintro e w2 ⟨rfl, hb2⟩
  have hz2 := hb2.size
  have p0t := (At2.mk p0a p0b p0c p0d).below hb2 (by omega)
  have p1t := (At2.mk p1a p1b p1c p1d).below hb2 (by omega)
  have p2t := (At2.mk p2a p2b p2c p2d).below hb2 (by omega)
  have HB2 : Below w.heap.size w w2 := HB1.trans (hb2.mono hq1)
  have hq2 := HB2.size
  clear hb2 HB1 p0a p0b p0c p0d p0l p1a p1b p1c p1d p1l p2a p2b p2c p2d p2l
  obtain ⟨p0a, p0b, p0c, p0d⟩ := p0t
  have p0l : w.heap.size < w2.heap.size := World.block_lt_of_cell? _ _ p0a
  obtain ⟨p1a, p1b, p1c, p1d⟩ := p1t
  have p1l : w.heap.size + 1 < w2.heap.size := World.block_lt_of_cell? _ _ p1a
  obtain ⟨p2a, p2b, p2c, p2d⟩ := p2t
  have p2l : w.heap.size + 1 + 1 < w2.heap.size := World.block_lt_of_cell? _ _ p2a
  go_wp2_with fail
  refine (K1.out _).mono ?_
  rintro e w3 ⟨rfl, hb3⟩
  have hz3 := hb3.size
  have p0t := (At2.mk p0a p0b p0c p0d).below hb3 (by omega)
  have p1t := (At2.mk p1a p1b p1c p1d).below hb3 (by omega)
  have p2t := (At2.mk p2a p2b p2c p2d).below hb3 (by omega)
  have HB3 : Below w.heap.size w w3 := HB2.trans (hb3.mono hq2)
  have hq3 := HB3.size
  clear hb3 HB2 p0a p0b p0c p0d p0l p1a p1b p1c p1d p1l p2a p2b p2c p2d p2l
  obtain ⟨p0a, p0b, p0c, p0d⟩ := p0t
  have p0l : w.heap.size < w3.heap.size := World.block_lt_of_cell? _ _ p0a
  obtain ⟨p1a, p1b, p1c, p1d⟩ := p1t
  have p1l : w.heap.size + 1 < w3.heap.size := World.block_lt_of_cell? _ _ p1a
  obtain ⟨p2a, p2b, p2c, p2d⟩ := p2t
  have p2l : w.heap.size + 1 + 1 < w3.heap.size := World.block_lt_of_cell? _ _ p2a
  go_wp2_with fail
  refine (K2.out _).mono ?_
  rintro e w4 ⟨rfl, hb4⟩
  have hz4 := hb4.size
  simp only [World.size_alloc] at hz4
  have p0t := ((At2.mk p0a p0b p0c p0d).alloc (by omega) _).below hb4 (by simp; omega)
  have p1t := ((At2.mk p1a p1b p1c p1d).alloc (by omega) _).below hb4 (by simp; omega)
  have p2t := ((At2.mk p2a p2b p2c p2d).alloc (by omega) _).below hb4 (by simp; omega)
  have pt := (At2.new w3 (.int .i64 p1) (.int .i64 p2) 23).below hb4 (by simp)
  have HB4 : Below w.heap.size w w4 := (HB3.alloc hq3 _).trans (hb4.mono (by simp; omega))
  have hq4 := HB4.size
  clear hb4 HB3 p0a p0b p0c p0d p0l p1a p1b p1c p1d p1l p2a p2b p2c p2d p2l
  obtain ⟨p0a, p0b, p0c, p0d⟩ := p0t
  have p0l : w.heap.size < w4.heap.size := World.block_lt_of_cell? _ _ p0a
  obtain ⟨p1a, p1b, p1c, p1d⟩ := p1t
  have p1l : w.heap.size + 1 < w4.heap.size := World.block_lt_of_cell? _ _ p1a
  obtain ⟨p2a, p2b, p2c, p2d⟩ := p2t
  have p2l : w.heap.size + 1 + 1 < w4.heap.size := World.block_lt_of_cell? _ _ p2a
  obtain ⟨pa, pb, pc, pd⟩ := pt
  have pl : w3.heap.size < w4.heap.size := World.block_lt_of_cell? _ _ pa
  go_wp2_with fail
  refine (K3.out _).mono ?_
  rintro e w5 ⟨rfl, hb5⟩
  have hz5 := hb5.size
  simp only [World.size_alloc] at hz5
  have p0t := ((At2.mk p0a p0b p0c p0d).alloc (by omega) _).below hb5 (by simp; omega)
  have p1t := ((At2.mk p1a p1b p1c p1d).alloc (by omega) _).below hb5 (by simp; omega)
  have p2t := ((At2.mk p2a p2b p2c p2d).alloc (by omega) _).below hb5 (by simp; omega)
  have pt := ((At2.mk pa pb pc pd).alloc (by omega) _).below hb5 (by simp; omega)
  have qt := (At2.new w4 (.int .i64 p1) (.int .i64 p2) 23).below hb5 (by simp)
  have HB5 : Below w.heap.size w w5 := (HB4.alloc hq4 _).trans (hb5.mono (by simp; omega))
  have hq5 := HB5.size
  clear hb5 HB4 p0a p0b p0c p0d p0l p1a p1b p1c p1d p1l p2a p2b p2c p2d p2l pa pb pc pd pl
  obtain ⟨p0a, p0b, p0c, p0d⟩ := p0t
  have p0l : w.heap.size < w5.heap.size := World.block_lt_of_cell? _ _ p0a
  obtain ⟨p1a, p1b, p1c, p1d⟩ := p1t
  have p1l : w.heap.size + 1 < w5.heap.size := World.block_lt_of_cell? _ _ p1a
  obtain ⟨p2a, p2b, p2c, p2d⟩ := p2t
  have p2l : w.heap.size + 1 + 1 < w5.heap.size := World.block_lt_of_cell? _ _ p2a
  obtain ⟨pa, pb, pc, pd⟩ := pt
  have pl : w3.heap.size < w5.heap.size := World.block_lt_of_cell? _ _ pa
  obtain ⟨qa, qb, qc, qd⟩ := qt
  have ql : w4.heap.size < w5.heap.size := World.block_lt_of_cell? _ _ qa
  go_wp2_with fail
  refine (K4.out _).mono ?_
  rintro e w6 ⟨rfl, hb6⟩
  have hz6 := hb6.size
  simp only [World.size_alloc] at hz6
  have p0t := ((At2.mk p0a p0b p0c p0d).alloc (by omega) _).below hb6 (by simp; omega)
  have p1t := ((At2.mk p1a p1b p1c p1d).alloc (by omega) _).below hb6 (by simp; omega)
  have p2t := ((At2.mk p2a p2b p2c p2d).alloc (by omega) _).below hb6 (by simp; omega)
  have pt := ((At2.mk pa pb pc pd).alloc (by omega) _).below hb6 (by simp; omega)
  have qt := ((At2.mk qa qb qc qd).alloc (by omega) _).below hb6 (by simp; omega)
  have backt := (At2.new w5 (.int .i64 a) (.int .i64 b) 23).below hb6 (by simp)
  have HB6 : Below w.heap.size w w6 := (HB5.alloc hq5 _).trans (hb6.mono (by simp; omega))
  have hq6 := HB6.size
  clear hb6 HB5 p0a p0b p0c p0d p0l p1a p1b p1c p1d p1l p2a p2b p2c p2d p2l pa pb pc pd pl qa qb qc qd ql
  obtain ⟨p0a, p0b, p0c, p0d⟩ := p0t
  have p0l : w.heap.size < w6.heap.size := World.block_lt_of_cell? _ _ p0a
  obtain ⟨p1a, p1b, p1c, p1d⟩ := p1t
  have p1l : w.heap.size + 1 < w6.heap.size := World.block_lt_of_cell? _ _ p1a
  obtain ⟨p2a, p2b, p2c, p2d⟩ := p2t
  have p2l : w.heap.size + 1 + 1 < w6.heap.size := World.block_lt_of_cell? _ _ p2a
  obtain ⟨pa, pb, pc, pd⟩ := pt
  have pl : w3.heap.size < w6.heap.size := World.block_lt_of_cell? _ _ pa
  obtain ⟨qa, qb, qc, qd⟩ := qt
  have ql : w4.heap.size < w6.heap.size := World.block_lt_of_cell? _ _ qa
  obtain ⟨backa, backb, backc, backd⟩ := backt
  have backl : w5.heap.size < w6.heap.size := World.block_lt_of_cell? _ _ backa
  go_wp2_with fail
  refine (K5.out _).mono ?_
  rintro e w7 ⟨rfl, hb7⟩
  have hz7 := hb7.size
  simp only [World.size_alloc] at hz7
  have p0t := ((At2.mk p0a p0b p0c p0d).alloc (by omega) _).below hb7 (by simp; omega)
  have p1t := ((At2.mk p1a p1b p1c p1d).alloc (by omega) _).below hb7 (by simp; omega)
  have p2t := ((At2.mk p2a p2b p2c p2d).alloc (by omega) _).below hb7 (by simp; omega)
  have pt := ((At2.mk pa pb pc pd).alloc (by omega) _).below hb7 (by simp; omega)
  have qt := ((At2.mk qa qb qc qd).alloc (by omega) _).below hb7 (by simp; omega)
  have backt := ((At2.mk backa backb backc backd).alloc (by omega) _).below hb7 (by simp; omega)
  have rt := (At2.new w6 (.int .i64 r1) (.int .i64 r2) 23).below hb7 (by simp)
  have HB7 : Below w.heap.size w w7 := (HB6.alloc hq6 _).trans (hb7.mono (by simp; omega))
  have hq7 := HB7.size
  clear hb7 HB6 p0a p0b p0c p0d p0l p1a p1b p1c p1d p1l p2a p2b p2c p2d p2l pa pb pc pd pl qa qb qc qd ql backa backb backc backd backl
  obtain ⟨p0a, p0b, p0c, p0d⟩ := p0t
  have p0l : w.heap.size < w7.heap.size := World.block_lt_of_cell? _ _ p0a
  obtain ⟨p1a, p1b, p1c, p1d⟩ := p1t
  have p1l : w.heap.size + 1 < w7.heap.size := World.block_lt_of_cell? _ _ p1a
  obtain ⟨p2a, p2b, p2c, p2d⟩ := p2t
  have p2l : w.heap.size + 1 + 1 < w7.heap.size := World.block_lt_of_cell? _ _ p2a
  obtain ⟨pa, pb, pc, pd⟩ := pt
  have pl : w3.heap.size < w7.heap.size := World.block_lt_of_cell? _ _ pa
  obtain ⟨qa, qb, qc, qd⟩ := qt
  have ql : w4.heap.size < w7.heap.size := World.block_lt_of_cell? _ _ qa
  obtain ⟨backa, backb, backc, backd⟩ := backt
  have backl : w5.heap.size < w7.heap.size := World.block_lt_of_cell? _ _ backa
  obtain ⟨ra, rb, rc, rd⟩ := rt
  have rl : w6.heap.size < w7.heap.size := World.block_lt_of_cell? _ _ ra
  go_wp2_with fail
  refine (K6.out _).mono ?_
  rintro e w8 ⟨rfl, hb8⟩
  have hz8 := hb8.size
  simp only [World.size_alloc] at hz8
  have p0t := ((At2.mk p0a p0b p0c p0d).alloc (by omega) _).below hb8 (by simp; omega)
  have p1t := ((At2.mk p1a p1b p1c p1d).alloc (by omega) _).below hb8 (by simp; omega)
  have p2t := ((At2.mk p2a p2b p2c p2d).alloc (by omega) _).below hb8 (by simp; omega)
  have pt := ((At2.mk pa pb pc pd).alloc (by omega) _).below hb8 (by simp; omega)
  have qt := ((At2.mk qa qb qc qd).alloc (by omega) _).below hb8 (by simp; omega)
  have backt := ((At2.mk backa backb backc backd).alloc (by omega) _).below hb8 (by simp; omega)
  have rt := ((At2.mk ra rb rc rd).alloc (by omega) _).below hb8 (by simp; omega)
  have ut := (At2.new w7 (.int .i64 u1) (.int .i64 u2) 23).below hb8 (by simp)
  have HB8 : Below w.heap.size w w8 := (HB7.alloc hq7 _).trans (hb8.mono (by simp; omega))
  have hq8 := HB8.size
  clear hb8 HB7 p0a p0b p0c p0d p0l p1a p1b p1c p1d p1l p2a p2b p2c p2d p2l pa pb pc pd pl qa qb qc qd ql backa backb backc backd backl ra rb rc rd rl
  obtain ⟨p0a, p0b, p0c, p0d⟩ := p0t
  have p0l : w.heap.size < w8.heap.size := World.block_lt_of_cell? _ _ p0a
  obtain ⟨p1a, p1b, p1c, p1d⟩ := p1t
  have p1l : w.heap.size + 1 < w8.heap.size := World.block_lt_of_cell? _ _ p1a
  obtain ⟨p2a, p2b, p2c, p2d⟩ := p2t
  have p2l : w.heap.size + 1 + 1 < w8.heap.size := World.block_lt_of_cell? _ _ p2a
  obtain ⟨pa, pb, pc, pd⟩ := pt
  have pl : w3.heap.size < w8.heap.size := World.block_lt_of_cell? _ _ pa
  obtain ⟨qa, qb, qc, qd⟩ := qt
  have ql : w4.heap.size < w8.heap.size := World.block_lt_of_cell? _ _ qa
  obtain ⟨backa, backb, backc, backd⟩ := backt
  have backl : w5.heap.size < w8.heap.size := World.block_lt_of_cell? _ _ backa
  obtain ⟨ra, rb, rc, rd⟩ := rt
  have rl : w6.heap.size < w8.heap.size := World.block_lt_of_cell? _ _ ra
  obtain ⟨ua, ub, uc, ud⟩ := ut
  have ul : w7.heap.size < w8.heap.size := World.block_lt_of_cell? _ _ ua
  go_wp2
  go_ret
  exact ⟨rfl, (by repeat' (first | exact HB8 | refine Below.setCell ?_ (by first | omega | (simp; done) | (simp; omega)) _ | refine below_drewN ?_ _ | refine Below.alloc ?_ (by first | omega | (simp; done) | (simp; omega)) _))⟩

set_option maxRecDepth 100000 in
set_option maxHeartbeats 1000000 in
theorem sums_law_u (a b c d g h p1 p2 r1 r2 u1 u2 ue v1 v2 ve : Int) (w : World) (hE : Env w) (hv : (vld a b && vld c d && vld g h) = true)
    (a0 : -9223372036854775808 ≤ a) (a1 : a ≤ 9223372036854775807) (b0 : -9223372036854775808 ≤ b) (b1 : b ≤ 9223372036854775807)
    (c0 : -9223372036854775808 ≤ c) (c1 : c ≤ 9223372036854775807) (d0 : -9223372036854775808 ≤ d) (d1 : d ≤ 9223372036854775807)
    (g0 : -9223372036854775808 ≤ g) (g1 : g ≤ 9223372036854775807) (h0 : -9223372036854775808 ≤ h) (h1 : h ≤ 9223372036854775807)
    (k1 : Gives 14 #[.agg #[.int .i64 a, .int .i64 b], .agg #[.int .i64 c, .int .i64 d]] (.tuple #[.agg #[.int .i64 p1, .int .i64 p2], .int .i64 0]))
    (k2 : Gives 14 #[.agg #[.int .i64 c, .int .i64 d], .agg #[.int .i64 a, .int .i64 b]] (.tuple #[.agg #[.int .i64 p1, .int .i64 p2], .int .i64 0]))
    (k3 : Gives 16 #[.agg #[.int .i64 p1, .int .i64 p2], .agg #[.int .i64 c, .int .i64 d]] (.tuple #[.agg #[.int .i64 a, .int .i64 b], .int .i64 0]))
    (k4 : Gives 14 #[.agg #[.int .i64 c, .int .i64 d], .agg #[.int .i64 g, .int .i64 h]] (.tuple #[.agg #[.int .i64 r1, .int .i64 r2], .int .i64 0]))
    (k5 : Gives 14 #[.agg #[.int .i64 p1, .int .i64 p2], .agg #[.int .i64 g, .int .i64 h]] (.tuple #[.agg #[.int .i64 u1, .int .i64 u2], .int .i64 ue]))
    (k6 : Gives 14 #[.agg #[.int .i64 a, .int .i64 b], .agg #[.int .i64 r1, .int .i64 r2]] (.tuple #[.agg #[.int .i64 v1, .int .i64 v2], .int .i64 ve]))
    (hu : ¬ ue = 0) :
    Calls Tryd.prog 5 #[.agg #[.int .i64 a, .int .i64 b], .agg #[.int .i64 c, .int .i64 d], .agg #[.int .i64 g, .int .i64 h]] w fun e w' =>
      e = .returned (.bool true) ∧ Below w.heap.size w w' := by
  have HE := Lib.hid hE
  have HV := Lib.hid hv
  have K1 := Lib.hid k1
  have K2 := Lib.hid k2
  have K3 := Lib.hid k3
  have K4 := Lib.hid k4
  have K5 := Lib.hid k5
  have K6 := Lib.hid k6
  clear hE hv k1 k2 k3 k4 k5 k6
  have f1 : (ue != 0) = true := by simp; exact hu
  go_enter Tryd.func5, Tryd.ntmps5
  go_wp2_with fail
  refine (head_any _ (((HE.out.below ((Below.refl _ _).alloc (Nat.le_refl _) _)).below ((Below.refl _ _).alloc (Nat.le_refl _) _)).below ((Below.refl _ _).alloc (Nat.le_refl _) _))).mono ?_
  rintro e w1 ⟨rfl, hb1⟩
  have hz1 := hb1.size
  simp only [World.size_alloc] at hz1
  have T0x : At2 w1 (w.heap.size) (.int .i64 a) (.int .i64 b) := by
    have := (((At2.new w (.int .i64 a) (.int .i64 b) 23).alloc (by first | (simp; done) | (simp; omega)) (.cells #[.int .i64 c, .int .i64 d] 23)).alloc (by first | (simp; done) | (simp; omega)) (.cells #[.int .i64 g, .int .i64 h] 23)).below hb1 (by first | (simp; done) | (simp; omega))
    simpa using this
  have T1x : At2 w1 (w.heap.size + 1) (.int .i64 c) (.int .i64 d) := by
    have := ((At2.new (w.alloc (.cells #[.int .i64 a, .int .i64 b] 23)) (.int .i64 c) (.int .i64 d) 23).alloc (by first | (simp; done) | (simp; omega)) (.cells #[.int .i64 g, .int .i64 h] 23)).below hb1 (by first | (simp; done) | (simp; omega))
    simpa using this
  have T2x : At2 w1 (w.heap.size + 1 + 1) (.int .i64 g) (.int .i64 h) := by
    have := (At2.new ((w.alloc (.cells #[.int .i64 a, .int .i64 b] 23)).alloc (.cells #[.int .i64 c, .int .i64 d] 23)) (.int .i64 g) (.int .i64 h) 23).below hb1 (by first | (simp; done) | (simp; omega))
    simpa using this
  have HB1 : Below w.heap.size w w1 := ((((Below.refl _ _).alloc (by first | (exact Nat.le_refl _) | (simp; done) | (simp; omega)) _).alloc (by first | (exact Nat.le_refl _) | (simp; done) | (simp; omega)) _).alloc (by first | (exact Nat.le_refl _) | (simp; done) | (simp; omega)) _).trans (hb1.mono (by simp; omega))
  have hq1 := HB1.size
  clear hb1
  obtain ⟨p0a, p0b, p0c, p0d⟩ := T0x
  have p0l : w.heap.size < w1.heap.size := World.block_lt_of_cell? _ _ p0a
  obtain ⟨p1a, p1b, p1c, p1d⟩ := T1x
  have p1l : w.heap.size + 1 < w1.heap.size := World.block_lt_of_cell? _ _ p1a
  obtain ⟨p2a, p2b, p2c, p2d⟩ := T2x
  have p2l : w.heap.size + 1 + 1 < w1.heap.size := World.block_lt_of_cell? _ _ p2a
  go_wp2_with fail
  refine (numbers3 a b c d g h true _ HV.out a0 a1 b0 b1 c0 c1 d0 d1 g0 g1 h0 h1 _).mono ?_
  rintro e w2 ⟨rfl, hb2⟩
  have hz2 := hb2.size
  have p0t := (At2.mk p0a p0b p0c p0d).below hb2 (by omega)
  have p1t := (At2.mk p1a p1b p1c p1d).below hb2 (by omega)
  have p2t := (At2.mk p2a p2b p2c p2d).below hb2 (by omega)
  have HB2 : Below w.heap.size w w2 := HB1.trans (hb2.mono hq1)
  have hq2 := HB2.size
  clear hb2 HB1 p0a p0b p0c p0d p0l p1a p1b p1c p1d p1l p2a p2b p2c p2d p2l
  obtain ⟨p0a, p0b, p0c, p0d⟩ := p0t
  have p0l : w.heap.size < w2.heap.size := World.block_lt_of_cell? _ _ p0a
  obtain ⟨p1a, p1b, p1c, p1d⟩ := p1t
  have p1l : w.heap.size + 1 < w2.heap.size := World.block_lt_of_cell? _ _ p1a
  obtain ⟨p2a, p2b, p2c, p2d⟩ := p2t
  have p2l : w.heap.size + 1 + 1 < w2.heap.size := World.block_lt_of_cell? _ _ p2a
  go_wp2_with fail
  refine (K1.out _).mono ?_
  rintro e w3 ⟨rfl, hb3⟩
  have hz3 := hb3.size
  have p0t := (At2.mk p0a p0b p0c p0d).below hb3 (by omega)
  have p1t := (At2.mk p1a p1b p1c p1d).below hb3 (by omega)
  have p2t := (At2.mk p2a p2b p2c p2d).below hb3 (by omega)
  have HB3 : Below w.heap.size w w3 := HB2.trans (hb3.mono hq2)
  have hq3 := HB3.size
  clear hb3 HB2 p0a p0b p0c p0d p0l p1a p1b p1c p1d p1l p2a p2b p2c p2d p2l
  obtain ⟨p0a, p0b, p0c, p0d⟩ := p0t
  have p0l : w.heap.size < w3.heap.size := World.block_lt_of_cell? _ _ p0a
  obtain ⟨p1a, p1b, p1c, p1d⟩ := p1t
  have p1l : w.heap.size + 1 < w3.heap.size := World.block_lt_of_cell? _ _ p1a
  obtain ⟨p2a, p2b, p2c, p2d⟩ := p2t
  have p2l : w.heap.size + 1 + 1 < w3.heap.size := World.block_lt_of_cell? _ _ p2a
  go_wp2_with fail
  refine (K2.out _).mono ?_
  rintro e w4 ⟨rfl, hb4⟩
  have hz4 := hb4.size
  simp only [World.size_alloc] at hz4
  have p0t := ((At2.mk p0a p0b p0c p0d).alloc (by omega) _).below hb4 (by simp; omega)
  have p1t := ((At2.mk p1a p1b p1c p1d).alloc (by omega) _).below hb4 (by simp; omega)
  have p2t := ((At2.mk p2a p2b p2c p2d).alloc (by omega) _).below hb4 (by simp; omega)
  have pt := (At2.new w3 (.int .i64 p1) (.int .i64 p2) 23).below hb4 (by simp)
  have HB4 : Below w.heap.size w w4 := (HB3.alloc hq3 _).trans (hb4.mono (by simp; omega))
  have hq4 := HB4.size
  clear hb4 HB3 p0a p0b p0c p0d p0l p1a p1b p1c p1d p1l p2a p2b p2c p2d p2l
  obtain ⟨p0a, p0b, p0c, p0d⟩ := p0t
  have p0l : w.heap.size < w4.heap.size := World.block_lt_of_cell? _ _ p0a
  obtain ⟨p1a, p1b, p1c, p1d⟩ := p1t
  have p1l : w.heap.size + 1 < w4.heap.size := World.block_lt_of_cell? _ _ p1a
  obtain ⟨p2a, p2b, p2c, p2d⟩ := p2t
  have p2l : w.heap.size + 1 + 1 < w4.heap.size := World.block_lt_of_cell? _ _ p2a
  obtain ⟨pa, pb, pc, pd⟩ := pt
  have pl : w3.heap.size < w4.heap.size := World.block_lt_of_cell? _ _ pa
  go_wp2_with fail
  refine (K3.out _).mono ?_
  rintro e w5 ⟨rfl, hb5⟩
  have hz5 := hb5.size
  simp only [World.size_alloc] at hz5
  have p0t := ((At2.mk p0a p0b p0c p0d).alloc (by omega) _).below hb5 (by simp; omega)
  have p1t := ((At2.mk p1a p1b p1c p1d).alloc (by omega) _).below hb5 (by simp; omega)
  have p2t := ((At2.mk p2a p2b p2c p2d).alloc (by omega) _).below hb5 (by simp; omega)
  have pt := ((At2.mk pa pb pc pd).alloc (by omega) _).below hb5 (by simp; omega)
  have qt := (At2.new w4 (.int .i64 p1) (.int .i64 p2) 23).below hb5 (by simp)
  have HB5 : Below w.heap.size w w5 := (HB4.alloc hq4 _).trans (hb5.mono (by simp; omega))
  have hq5 := HB5.size
  clear hb5 HB4 p0a p0b p0c p0d p0l p1a p1b p1c p1d p1l p2a p2b p2c p2d p2l pa pb pc pd pl
  obtain ⟨p0a, p0b, p0c, p0d⟩ := p0t
  have p0l : w.heap.size < w5.heap.size := World.block_lt_of_cell? _ _ p0a
  obtain ⟨p1a, p1b, p1c, p1d⟩ := p1t
  have p1l : w.heap.size + 1 < w5.heap.size := World.block_lt_of_cell? _ _ p1a
  obtain ⟨p2a, p2b, p2c, p2d⟩ := p2t
  have p2l : w.heap.size + 1 + 1 < w5.heap.size := World.block_lt_of_cell? _ _ p2a
  obtain ⟨pa, pb, pc, pd⟩ := pt
  have pl : w3.heap.size < w5.heap.size := World.block_lt_of_cell? _ _ pa
  obtain ⟨qa, qb, qc, qd⟩ := qt
  have ql : w4.heap.size < w5.heap.size := World.block_lt_of_cell? _ _ qa
  go_wp2_with fail
  refine (K4.out _).mono ?_
  rintro e w6 ⟨rfl, hb6⟩
  have hz6 := hb6.size
  simp only [World.size_alloc] at hz6
  have p0t := ((At2.mk p0a p0b p0c p0d).alloc (by omega) _).below hb6 (by simp; omega)
  have p1t := ((At2.mk p1a p1b p1c p1d).alloc (by omega) _).below hb6 (by simp; omega)
  have p2t := ((At2.mk p2a p2b p2c p2d).alloc (by omega) _).below hb6 (by simp; omega)
  have pt := ((At2.mk pa pb pc pd).alloc (by omega) _).below hb6 (by simp; omega)
  have qt := ((At2.mk qa qb qc qd).alloc (by omega) _).below hb6 (by simp; omega)
  have backt := (At2.new w5 (.int .i64 a) (.int .i64 b) 23).below hb6 (by simp)
  have HB6 : Below w.heap.size w w6 := (HB5.alloc hq5 _).trans (hb6.mono (by simp; omega))
  have hq6 := HB6.size
  clear hb6 HB5 p0a p0b p0c p0d p0l p1a p1b p1c p1d p1l p2a p2b p2c p2d p2l pa pb pc pd pl qa qb qc qd ql
  obtain ⟨p0a, p0b, p0c, p0d⟩ := p0t
  have p0l : w.heap.size < w6.heap.size := World.block_lt_of_cell? _ _ p0a
  obtain ⟨p1a, p1b, p1c, p1d⟩ := p1t
  have p1l : w.heap.size + 1 < w6.heap.size := World.block_lt_of_cell? _ _ p1a
  obtain ⟨p2a, p2b, p2c, p2d⟩ := p2t
  have p2l : w.heap.size + 1 + 1 < w6.heap.size := World.block_lt_of_cell? _ _ p2a
  obtain ⟨pa, pb, pc, pd⟩ := pt
  have pl : w3.heap.size < w6.heap.size := World.block_lt_of_cell? _ _ pa
  obtain ⟨qa, qb, qc, qd⟩ := qt
  have ql : w4.heap.size < w6.heap.size := World.block_lt_of_cell? _ _ qa
  obtain ⟨backa, backb, backc, backd⟩ := backt
  have backl : w5.heap.size < w6.heap.size := World.block_lt_of_cell? _ _ backa
  go_wp2_with fail
  refine (K5.out _).mono ?_
  rintro e w7 ⟨rfl, hb7⟩
  have hz7 := hb7.size
  simp only [World.size_alloc] at hz7
  have p0t := ((At2.mk p0a p0b p0c p0d).alloc (by omega) _).below hb7 (by simp; omega)
  have p1t := ((At2.mk p1a p1b p1c p1d).alloc (by omega) _).below hb7 (by simp; omega)
  have p2t := ((At2.mk p2a p2b p2c p2d).alloc (by omega) _).below hb7 (by simp; omega)
  have pt := ((At2.mk pa pb pc pd).alloc (by omega) _).below hb7 (by simp; omega)
  have qt := ((At2.mk qa qb qc qd).alloc (by omega) _).below hb7 (by simp; omega)
  have backt := ((At2.mk backa backb backc backd).alloc (by omega) _).below hb7 (by simp; omega)
  have rt := (At2.new w6 (.int .i64 r1) (.int .i64 r2) 23).below hb7 (by simp)
  have HB7 : Below w.heap.size w w7 := (HB6.alloc hq6 _).trans (hb7.mono (by simp; omega))
  have hq7 := HB7.size
  clear hb7 HB6 p0a p0b p0c p0d p0l p1a p1b p1c p1d p1l p2a p2b p2c p2d p2l pa pb pc pd pl qa qb qc qd ql backa backb backc backd backl
  obtain ⟨p0a, p0b, p0c, p0d⟩ := p0t
  have p0l : w.heap.size < w7.heap.size := World.block_lt_of_cell? _ _ p0a
  obtain ⟨p1a, p1b, p1c, p1d⟩ := p1t
  have p1l : w.heap.size + 1 < w7.heap.size := World.block_lt_of_cell? _ _ p1a
  obtain ⟨p2a, p2b, p2c, p2d⟩ := p2t
  have p2l : w.heap.size + 1 + 1 < w7.heap.size := World.block_lt_of_cell? _ _ p2a
  obtain ⟨pa, pb, pc, pd⟩ := pt
  have pl : w3.heap.size < w7.heap.size := World.block_lt_of_cell? _ _ pa
  obtain ⟨qa, qb, qc, qd⟩ := qt
  have ql : w4.heap.size < w7.heap.size := World.block_lt_of_cell? _ _ qa
  obtain ⟨backa, backb, backc, backd⟩ := backt
  have backl : w5.heap.size < w7.heap.size := World.block_lt_of_cell? _ _ backa
  obtain ⟨ra, rb, rc, rd⟩ := rt
  have rl : w6.heap.size < w7.heap.size := World.block_lt_of_cell? _ _ ra
  go_wp2_with fail
  refine (K6.out _).mono ?_
  rintro e w8 ⟨rfl, hb8⟩
  have hz8 := hb8.size
  simp only [World.size_alloc] at hz8
  have p0t := ((At2.mk p0a p0b p0c p0d).alloc (by omega) _).below hb8 (by simp; omega)
  have p1t := ((At2.mk p1a p1b p1c p1d).alloc (by omega) _).below hb8 (by simp; omega)
  have p2t := ((At2.mk p2a p2b p2c p2d).alloc (by omega) _).below hb8 (by simp; omega)
  have pt := ((At2.mk pa pb pc pd).alloc (by omega) _).below hb8 (by simp; omega)
  have qt := ((At2.mk qa qb qc qd).alloc (by omega) _).below hb8 (by simp; omega)
  have backt := ((At2.mk backa backb backc backd).alloc (by omega) _).below hb8 (by simp; omega)
  have rt := ((At2.mk ra rb rc rd).alloc (by omega) _).below hb8 (by simp; omega)
  have ut := (At2.new w7 (.int .i64 u1) (.int .i64 u2) 23).below hb8 (by simp)
  have HB8 : Below w.heap.size w w8 := (HB7.alloc hq7 _).trans (hb8.mono (by simp; omega))
  have hq8 := HB8.size
  clear hb8 HB7 p0a p0b p0c p0d p0l p1a p1b p1c p1d p1l p2a p2b p2c p2d p2l pa pb pc pd pl qa qb qc qd ql backa backb backc backd backl ra rb rc rd rl
  obtain ⟨p0a, p0b, p0c, p0d⟩ := p0t
  have p0l : w.heap.size < w8.heap.size := World.block_lt_of_cell? _ _ p0a
  obtain ⟨p1a, p1b, p1c, p1d⟩ := p1t
  have p1l : w.heap.size + 1 < w8.heap.size := World.block_lt_of_cell? _ _ p1a
  obtain ⟨p2a, p2b, p2c, p2d⟩ := p2t
  have p2l : w.heap.size + 1 + 1 < w8.heap.size := World.block_lt_of_cell? _ _ p2a
  obtain ⟨pa, pb, pc, pd⟩ := pt
  have pl : w3.heap.size < w8.heap.size := World.block_lt_of_cell? _ _ pa
  obtain ⟨qa, qb, qc, qd⟩ := qt
  have ql : w4.heap.size < w8.heap.size := World.block_lt_of_cell? _ _ qa
  obtain ⟨backa, backb, backc, backd⟩ := backt
  have backl : w5.heap.size < w8.heap.size := World.block_lt_of_cell? _ _ backa
  obtain ⟨ra, rb, rc, rd⟩ := rt
  have rl : w6.heap.size < w8.heap.size := World.block_lt_of_cell? _ _ ra
  obtain ⟨ua, ub, uc, ud⟩ := ut
  have ul : w7.heap.size < w8.heap.size := World.block_lt_of_cell? _ _ ua
  go_wp2
  go_ret
  exact ⟨rfl, (by repeat' (first | exact HB8 | refine Below.setCell ?_ (by first | omega | (simp; done) | (simp; omega)) _ | refine below_drewN ?_ _ | refine Below.alloc ?_ (by first | omega | (simp; done) | (simp; omega)) _))⟩

set_option maxRecDepth 100000 in
set_option maxHeartbeats 1000000 in
theorem sums_law_v (a b c d g h p1 p2 r1 r2 u1 u2 v1 v2 ve : Int) (w : World) (hE : Env w) (hv : (vld a b && vld c d && vld g h) = true)
    (a0 : -9223372036854775808 ≤ a) (a1 : a ≤ 9223372036854775807) (b0 : -9223372036854775808 ≤ b) (b1 : b ≤ 9223372036854775807)
    (c0 : -9223372036854775808 ≤ c) (c1 : c ≤ 9223372036854775807) (d0 : -9223372036854775808 ≤ d) (d1 : d ≤ 9223372036854775807)
    (g0 : -9223372036854775808 ≤ g) (g1 : g ≤ 9223372036854775807) (h0 : -9223372036854775808 ≤ h) (h1 : h ≤ 9223372036854775807)
    (k1 : Gives 14 #[.agg #[.int .i64 a, .int .i64 b], .agg #[.int .i64 c, .int .i64 d]] (.tuple #[.agg #[.int .i64 p1, .int .i64 p2], .int .i64 0]))
    (k2 : Gives 14 #[.agg #[.int .i64 c, .int .i64 d], .agg #[.int .i64 a, .int .i64 b]] (.tuple #[.agg #[.int .i64 p1, .int .i64 p2], .int .i64 0]))
    (k3 : Gives 16 #[.agg #[.int .i64 p1, .int .i64 p2], .agg #[.int .i64 c, .int .i64 d]] (.tuple #[.agg #[.int .i64 a, .int .i64 b], .int .i64 0]))
    (k4 : Gives 14 #[.agg #[.int .i64 c, .int .i64 d], .agg #[.int .i64 g, .int .i64 h]] (.tuple #[.agg #[.int .i64 r1, .int .i64 r2], .int .i64 0]))
    (k5 : Gives 14 #[.agg #[.int .i64 p1, .int .i64 p2], .agg #[.int .i64 g, .int .i64 h]] (.tuple #[.agg #[.int .i64 u1, .int .i64 u2], .int .i64 0]))
    (k6 : Gives 14 #[.agg #[.int .i64 a, .int .i64 b], .agg #[.int .i64 r1, .int .i64 r2]] (.tuple #[.agg #[.int .i64 v1, .int .i64 v2], .int .i64 ve]))
    (hv' : ¬ ve = 0) :
    Calls Tryd.prog 5 #[.agg #[.int .i64 a, .int .i64 b], .agg #[.int .i64 c, .int .i64 d], .agg #[.int .i64 g, .int .i64 h]] w fun e w' =>
      e = .returned (.bool true) ∧ Below w.heap.size w w' := by
  have HE := Lib.hid hE
  have HV := Lib.hid hv
  have K1 := Lib.hid k1
  have K2 := Lib.hid k2
  have K3 := Lib.hid k3
  have K4 := Lib.hid k4
  have K5 := Lib.hid k5
  have K6 := Lib.hid k6
  clear hE hv k1 k2 k3 k4 k5 k6
  have f1 : (ve != 0) = true := by simp; exact hv'
  go_enter Tryd.func5, Tryd.ntmps5
  go_wp2_with fail
  refine (head_any _ (((HE.out.below ((Below.refl _ _).alloc (Nat.le_refl _) _)).below ((Below.refl _ _).alloc (Nat.le_refl _) _)).below ((Below.refl _ _).alloc (Nat.le_refl _) _))).mono ?_
  rintro e w1 ⟨rfl, hb1⟩
  have hz1 := hb1.size
  simp only [World.size_alloc] at hz1
  have T0x : At2 w1 (w.heap.size) (.int .i64 a) (.int .i64 b) := by
    have := (((At2.new w (.int .i64 a) (.int .i64 b) 23).alloc (by first | (simp; done) | (simp; omega)) (.cells #[.int .i64 c, .int .i64 d] 23)).alloc (by first | (simp; done) | (simp; omega)) (.cells #[.int .i64 g, .int .i64 h] 23)).below hb1 (by first | (simp; done) | (simp; omega))
    simpa using this
  have T1x : At2 w1 (w.heap.size + 1) (.int .i64 c) (.int .i64 d) := by
    have := ((At2.new (w.alloc (.cells #[.int .i64 a, .int .i64 b] 23)) (.int .i64 c) (.int .i64 d) 23).alloc (by first | (simp; done) | (simp; omega)) (.cells #[.int .i64 g, .int .i64 h] 23)).below hb1 (by first | (simp; done) | (simp; omega))
    simpa using this
  have T2x : At2 w1 (w.heap.size + 1 + 1) (.int .i64 g) (.int .i64 h) := by
    have := (At2.new ((w.alloc (.cells #[.int .i64 a, .int .i64 b] 23)).alloc (.cells #[.int .i64 c, .int .i64 d] 23)) (.int .i64 g) (.int .i64 h) 23).below hb1 (by first | (simp; done) | (simp; omega))
    simpa using this
  have HB1 : Below w.heap.size w w1 := ((((Below.refl _ _).alloc (by first | (exact Nat.le_refl _) | (simp; done) | (simp; omega)) _).alloc (by first | (exact Nat.le_refl _) | (simp; done) | (simp; omega)) _).alloc (by first | (exact Nat.le_refl _) | (simp; done) | (simp; omega)) _).trans (hb1.mono (by simp; omega))
  have hq1 := HB1.size
  clear hb1
  obtain ⟨p0a, p0b, p0c, p0d⟩ := T0x
  have p0l : w.heap.size < w1.heap.size := World.block_lt_of_cell? _ _ p0a
  obtain ⟨p1a, p1b, p1c, p1d⟩ := T1x
  have p1l : w.heap.size + 1 < w1.heap.size := World.block_lt_of_cell? _ _ p1a
  obtain ⟨p2a, p2b, p2c, p2d⟩ := T2x
  have p2l : w.heap.size + 1 + 1 < w1.heap.size := World.block_lt_of_cell? _ _ p2a
  go_wp2_with fail
  refine (numbers3 a b c d g h true _ HV.out a0 a1 b0 b1 c0 c1 d0 d1 g0 g1 h0 h1 _).mono ?_
  rintro e w2 ⟨rfl, hb2⟩
  have hz2 := hb2.size
  have p0t := (At2.mk p0a p0b p0c p0d).below hb2 (by omega)
  have p1t := (At2.mk p1a p1b p1c p1d).below hb2 (by omega)
  have p2t := (At2.mk p2a p2b p2c p2d).below hb2 (by omega)
  have HB2 : Below w.heap.size w w2 := HB1.trans (hb2.mono hq1)
  have hq2 := HB2.size
  clear hb2 HB1 p0a p0b p0c p0d p0l p1a p1b p1c p1d p1l p2a p2b p2c p2d p2l
  obtain ⟨p0a, p0b, p0c, p0d⟩ := p0t
  have p0l : w.heap.size < w2.heap.size := World.block_lt_of_cell? _ _ p0a
  obtain ⟨p1a, p1b, p1c, p1d⟩ := p1t
  have p1l : w.heap.size + 1 < w2.heap.size := World.block_lt_of_cell? _ _ p1a
  obtain ⟨p2a, p2b, p2c, p2d⟩ := p2t
  have p2l : w.heap.size + 1 + 1 < w2.heap.size := World.block_lt_of_cell? _ _ p2a
  go_wp2_with fail
  refine (K1.out _).mono ?_
  rintro e w3 ⟨rfl, hb3⟩
  have hz3 := hb3.size
  have p0t := (At2.mk p0a p0b p0c p0d).below hb3 (by omega)
  have p1t := (At2.mk p1a p1b p1c p1d).below hb3 (by omega)
  have p2t := (At2.mk p2a p2b p2c p2d).below hb3 (by omega)
  have HB3 : Below w.heap.size w w3 := HB2.trans (hb3.mono hq2)
  have hq3 := HB3.size
  clear hb3 HB2 p0a p0b p0c p0d p0l p1a p1b p1c p1d p1l p2a p2b p2c p2d p2l
  obtain ⟨p0a, p0b, p0c, p0d⟩ := p0t
  have p0l : w.heap.size < w3.heap.size := World.block_lt_of_cell? _ _ p0a
  obtain ⟨p1a, p1b, p1c, p1d⟩ := p1t
  have p1l : w.heap.size + 1 < w3.heap.size := World.block_lt_of_cell? _ _ p1a
  obtain ⟨p2a, p2b, p2c, p2d⟩ := p2t
  have p2l : w.heap.size + 1 + 1 < w3.heap.size := World.block_lt_of_cell? _ _ p2a
  go_wp2_with fail
  refine (K2.out _).mono ?_
  rintro e w4 ⟨rfl, hb4⟩
  have hz4 := hb4.size
  simp only [World.size_alloc] at hz4
  have p0t := ((At2.mk p0a p0b p0c p0d).alloc (by omega) _).below hb4 (by simp; omega)
  have p1t := ((At2.mk p1a p1b p1c p1d).alloc (by omega) _).below hb4 (by simp; omega)
  have p2t := ((At2.mk p2a p2b p2c p2d).alloc (by omega) _).below hb4 (by simp; omega)
  have pt := (At2.new w3 (.int .i64 p1) (.int .i64 p2) 23).below hb4 (by simp)
  have HB4 : Below w.heap.size w w4 := (HB3.alloc hq3 _).trans (hb4.mono (by simp; omega))
  have hq4 := HB4.size
  clear hb4 HB3 p0a p0b p0c p0d p0l p1a p1b p1c p1d p1l p2a p2b p2c p2d p2l
  obtain ⟨p0a, p0b, p0c, p0d⟩ := p0t
  have p0l : w.heap.size < w4.heap.size := World.block_lt_of_cell? _ _ p0a
  obtain ⟨p1a, p1b, p1c, p1d⟩ := p1t
  have p1l : w.heap.size + 1 < w4.heap.size := World.block_lt_of_cell? _ _ p1a
  obtain ⟨p2a, p2b, p2c, p2d⟩ := p2t
  have p2l : w.heap.size + 1 + 1 < w4.heap.size := World.block_lt_of_cell? _ _ p2a
  obtain ⟨pa, pb, pc, pd⟩ := pt
  have pl : w3.heap.size < w4.heap.size := World.block_lt_of_cell? _ _ pa
  go_wp2_with fail
  refine (K3.out _).mono ?_
  rintro e w5 ⟨rfl, hb5⟩
  have hz5 := hb5.size
  simp only [World.size_alloc] at hz5
  have p0t := ((At2.mk p0a p0b p0c p0d).alloc (by omega) _).below hb5 (by simp; omega)
  have p1t := ((At2.mk p1a p1b p1c p1d).alloc (by omega) _).below hb5 (by simp; omega)
  have p2t := ((At2.mk p2a p2b p2c p2d).alloc (by omega) _).below hb5 (by simp; omega)
  have pt := ((At2.mk pa pb pc pd).alloc (by omega) _).below hb5 (by simp; omega)
  have qt := (At2.new w4 (.int .i64 p1) (.int .i64 p2) 23).below hb5 (by simp)
  have HB5 : Below w.heap.size w w5 := (HB4.alloc hq4 _).trans (hb5.mono (by simp; omega))
  have hq5 := HB5.size
  clear hb5 HB4 p0a p0b p0c p0d p0l p1a p1b p1c p1d p1l p2a p2b p2c p2d p2l pa pb pc pd pl
  obtain ⟨p0a, p0b, p0c, p0d⟩ := p0t
  have p0l : w.heap.size < w5.heap.size := World.block_lt_of_cell? _ _ p0a
  obtain ⟨p1a, p1b, p1c, p1d⟩ := p1t
  have p1l : w.heap.size + 1 < w5.heap.size := World.block_lt_of_cell? _ _ p1a
  obtain ⟨p2a, p2b, p2c, p2d⟩ := p2t
  have p2l : w.heap.size + 1 + 1 < w5.heap.size := World.block_lt_of_cell? _ _ p2a
  obtain ⟨pa, pb, pc, pd⟩ := pt
  have pl : w3.heap.size < w5.heap.size := World.block_lt_of_cell? _ _ pa
  obtain ⟨qa, qb, qc, qd⟩ := qt
  have ql : w4.heap.size < w5.heap.size := World.block_lt_of_cell? _ _ qa
  go_wp2_with fail
  refine (K4.out _).mono ?_
  rintro e w6 ⟨rfl, hb6⟩
  have hz6 := hb6.size
  simp only [World.size_alloc] at hz6
  have p0t := ((At2.mk p0a p0b p0c p0d).alloc (by omega) _).below hb6 (by simp; omega)
  have p1t := ((At2.mk p1a p1b p1c p1d).alloc (by omega) _).below hb6 (by simp; omega)
  have p2t := ((At2.mk p2a p2b p2c p2d).alloc (by omega) _).below hb6 (by simp; omega)
  have pt := ((At2.mk pa pb pc pd).alloc (by omega) _).below hb6 (by simp; omega)
  have qt := ((At2.mk qa qb qc qd).alloc (by omega) _).below hb6 (by simp; omega)
  have backt := (At2.new w5 (.int .i64 a) (.int .i64 b) 23).below hb6 (by simp)
  have HB6 : Below w.heap.size w w6 := (HB5.alloc hq5 _).trans (hb6.mono (by simp; omega))
  have hq6 := HB6.size
  clear hb6 HB5 p0a p0b p0c p0d p0l p1a p1b p1c p1d p1l p2a p2b p2c p2d p2l pa pb pc pd pl qa qb qc qd ql
  obtain ⟨p0a, p0b, p0c, p0d⟩ := p0t
  have p0l : w.heap.size < w6.heap.size := World.block_lt_of_cell? _ _ p0a
  obtain ⟨p1a, p1b, p1c, p1d⟩ := p1t
  have p1l : w.heap.size + 1 < w6.heap.size := World.block_lt_of_cell? _ _ p1a
  obtain ⟨p2a, p2b, p2c, p2d⟩ := p2t
  have p2l : w.heap.size + 1 + 1 < w6.heap.size := World.block_lt_of_cell? _ _ p2a
  obtain ⟨pa, pb, pc, pd⟩ := pt
  have pl : w3.heap.size < w6.heap.size := World.block_lt_of_cell? _ _ pa
  obtain ⟨qa, qb, qc, qd⟩ := qt
  have ql : w4.heap.size < w6.heap.size := World.block_lt_of_cell? _ _ qa
  obtain ⟨backa, backb, backc, backd⟩ := backt
  have backl : w5.heap.size < w6.heap.size := World.block_lt_of_cell? _ _ backa
  go_wp2_with fail
  refine (K5.out _).mono ?_
  rintro e w7 ⟨rfl, hb7⟩
  have hz7 := hb7.size
  simp only [World.size_alloc] at hz7
  have p0t := ((At2.mk p0a p0b p0c p0d).alloc (by omega) _).below hb7 (by simp; omega)
  have p1t := ((At2.mk p1a p1b p1c p1d).alloc (by omega) _).below hb7 (by simp; omega)
  have p2t := ((At2.mk p2a p2b p2c p2d).alloc (by omega) _).below hb7 (by simp; omega)
  have pt := ((At2.mk pa pb pc pd).alloc (by omega) _).below hb7 (by simp; omega)
  have qt := ((At2.mk qa qb qc qd).alloc (by omega) _).below hb7 (by simp; omega)
  have backt := ((At2.mk backa backb backc backd).alloc (by omega) _).below hb7 (by simp; omega)
  have rt := (At2.new w6 (.int .i64 r1) (.int .i64 r2) 23).below hb7 (by simp)
  have HB7 : Below w.heap.size w w7 := (HB6.alloc hq6 _).trans (hb7.mono (by simp; omega))
  have hq7 := HB7.size
  clear hb7 HB6 p0a p0b p0c p0d p0l p1a p1b p1c p1d p1l p2a p2b p2c p2d p2l pa pb pc pd pl qa qb qc qd ql backa backb backc backd backl
  obtain ⟨p0a, p0b, p0c, p0d⟩ := p0t
  have p0l : w.heap.size < w7.heap.size := World.block_lt_of_cell? _ _ p0a
  obtain ⟨p1a, p1b, p1c, p1d⟩ := p1t
  have p1l : w.heap.size + 1 < w7.heap.size := World.block_lt_of_cell? _ _ p1a
  obtain ⟨p2a, p2b, p2c, p2d⟩ := p2t
  have p2l : w.heap.size + 1 + 1 < w7.heap.size := World.block_lt_of_cell? _ _ p2a
  obtain ⟨pa, pb, pc, pd⟩ := pt
  have pl : w3.heap.size < w7.heap.size := World.block_lt_of_cell? _ _ pa
  obtain ⟨qa, qb, qc, qd⟩ := qt
  have ql : w4.heap.size < w7.heap.size := World.block_lt_of_cell? _ _ qa
  obtain ⟨backa, backb, backc, backd⟩ := backt
  have backl : w5.heap.size < w7.heap.size := World.block_lt_of_cell? _ _ backa
  obtain ⟨ra, rb, rc, rd⟩ := rt
  have rl : w6.heap.size < w7.heap.size := World.block_lt_of_cell? _ _ ra
  go_wp2_with fail
  refine (K6.out _).mono ?_
  rintro e w8 ⟨rfl, hb8⟩
  have hz8 := hb8.size
  simp only [World.size_alloc] at hz8
  have p0t := ((At2.mk p0a p0b p0c p0d).alloc (by omega) _).below hb8 (by simp; omega)
  have p1t := ((At2.mk p1a p1b p1c p1d).alloc (by omega) _).below hb8 (by simp; omega)
  have p2t := ((At2.mk p2a p2b p2c p2d).alloc (by omega) _).below hb8 (by simp; omega)
  have pt := ((At2.mk pa pb pc pd).alloc (by omega) _).below hb8 (by simp; omega)
  have qt := ((At2.mk qa qb qc qd).alloc (by omega) _).below hb8 (by simp; omega)
  have backt := ((At2.mk backa backb backc backd).alloc (by omega) _).below hb8 (by simp; omega)
  have rt := ((At2.mk ra rb rc rd).alloc (by omega) _).below hb8 (by simp; omega)
  have ut := (At2.new w7 (.int .i64 u1) (.int .i64 u2) 23).below hb8 (by simp)
  have HB8 : Below w.heap.size w w8 := (HB7.alloc hq7 _).trans (hb8.mono (by simp; omega))
  have hq8 := HB8.size
  clear hb8 HB7 p0a p0b p0c p0d p0l p1a p1b p1c p1d p1l p2a p2b p2c p2d p2l pa pb pc pd pl qa qb qc qd ql backa backb backc backd backl ra rb rc rd rl
  obtain ⟨p0a, p0b, p0c, p0d⟩ := p0t
  have p0l : w.heap.size < w8.heap.size := World.block_lt_of_cell? _ _ p0a
  obtain ⟨p1a, p1b, p1c, p1d⟩ := p1t
  have p1l : w.heap.size + 1 < w8.heap.size := World.block_lt_of_cell? _ _ p1a
  obtain ⟨p2a, p2b, p2c, p2d⟩ := p2t
  have p2l : w.heap.size + 1 + 1 < w8.heap.size := World.block_lt_of_cell? _ _ p2a
  obtain ⟨pa, pb, pc, pd⟩ := pt
  have pl : w3.heap.size < w8.heap.size := World.block_lt_of_cell? _ _ pa
  obtain ⟨qa, qb, qc, qd⟩ := qt
  have ql : w4.heap.size < w8.heap.size := World.block_lt_of_cell? _ _ qa
  obtain ⟨backa, backb, backc, backd⟩ := backt
  have backl : w5.heap.size < w8.heap.size := World.block_lt_of_cell? _ _ backa
  obtain ⟨ra, rb, rc, rd⟩ := rt
  have rl : w6.heap.size < w8.heap.size := World.block_lt_of_cell? _ _ ra
  obtain ⟨ua, ub, uc, ud⟩ := ut
  have ul : w7.heap.size < w8.heap.size := World.block_lt_of_cell? _ _ ua
  go_wp2
  go_ret
  exact ⟨rfl, (by repeat' (first | exact HB8 | refine Below.setCell ?_ (by first | omega | (simp; done) | (simp; omega)) _ | refine below_drewN ?_ _ | refine Below.alloc ?_ (by first | omega | (simp; done) | (simp; omega)) _))⟩

set_option maxRecDepth 100000 in
set_option maxHeartbeats 1000000 in
theorem sums_law_s (a b c d g h p1 p2 r1 r2 u1 u2 : Int) (w : World) (hE : Env w) (hv : (vld a b && vld c d && vld g h) = true)
    (a0 : -9223372036854775808 ≤ a) (a1 : a ≤ 9223372036854775807) (b0 : -9223372036854775808 ≤ b) (b1 : b ≤ 9223372036854775807)
    (c0 : -9223372036854775808 ≤ c) (c1 : c ≤ 9223372036854775807) (d0 : -9223372036854775808 ≤ d) (d1 : d ≤ 9223372036854775807)
    (g0 : -9223372036854775808 ≤ g) (g1 : g ≤ 9223372036854775807) (h0 : -9223372036854775808 ≤ h) (h1 : h ≤ 9223372036854775807)
    (k1 : Gives 14 #[.agg #[.int .i64 a, .int .i64 b], .agg #[.int .i64 c, .int .i64 d]] (.tuple #[.agg #[.int .i64 p1, .int .i64 p2], .int .i64 0]))
    (k2 : Gives 14 #[.agg #[.int .i64 c, .int .i64 d], .agg #[.int .i64 a, .int .i64 b]] (.tuple #[.agg #[.int .i64 p1, .int .i64 p2], .int .i64 0]))
    (k3 : Gives 16 #[.agg #[.int .i64 p1, .int .i64 p2], .agg #[.int .i64 c, .int .i64 d]] (.tuple #[.agg #[.int .i64 a, .int .i64 b], .int .i64 0]))
    (k4 : Gives 14 #[.agg #[.int .i64 c, .int .i64 d], .agg #[.int .i64 g, .int .i64 h]] (.tuple #[.agg #[.int .i64 r1, .int .i64 r2], .int .i64 0]))
    (k5 : Gives 14 #[.agg #[.int .i64 p1, .int .i64 p2], .agg #[.int .i64 g, .int .i64 h]] (.tuple #[.agg #[.int .i64 u1, .int .i64 u2], .int .i64 0]))
    (k6 : Gives 14 #[.agg #[.int .i64 a, .int .i64 b], .agg #[.int .i64 r1, .int .i64 r2]] (.tuple #[.agg #[.int .i64 u1, .int .i64 u2], .int .i64 0]))
     :
    Calls Tryd.prog 5 #[.agg #[.int .i64 a, .int .i64 b], .agg #[.int .i64 c, .int .i64 d], .agg #[.int .i64 g, .int .i64 h]] w fun e w' =>
      e = .returned (.bool true) ∧ Below w.heap.size w w' := by
  have HE := Lib.hid hE
  have HV := Lib.hid hv
  have K1 := Lib.hid k1
  have K2 := Lib.hid k2
  have K3 := Lib.hid k3
  have K4 := Lib.hid k4
  have K5 := Lib.hid k5
  have K6 := Lib.hid k6
  clear hE hv k1 k2 k3 k4 k5 k6
  go_enter Tryd.func5, Tryd.ntmps5
  go_wp2_with fail
  refine (head_any _ (((HE.out.below ((Below.refl _ _).alloc (Nat.le_refl _) _)).below ((Below.refl _ _).alloc (Nat.le_refl _) _)).below ((Below.refl _ _).alloc (Nat.le_refl _) _))).mono ?_
  rintro e w1 ⟨rfl, hb1⟩
  have hz1 := hb1.size
  simp only [World.size_alloc] at hz1
  have T0x : At2 w1 (w.heap.size) (.int .i64 a) (.int .i64 b) := by
    have := (((At2.new w (.int .i64 a) (.int .i64 b) 23).alloc (by first | (simp; done) | (simp; omega)) (.cells #[.int .i64 c, .int .i64 d] 23)).alloc (by first | (simp; done) | (simp; omega)) (.cells #[.int .i64 g, .int .i64 h] 23)).below hb1 (by first | (simp; done) | (simp; omega))
    simpa using this
  have T1x : At2 w1 (w.heap.size + 1) (.int .i64 c) (.int .i64 d) := by
    have := ((At2.new (w.alloc (.cells #[.int .i64 a, .int .i64 b] 23)) (.int .i64 c) (.int .i64 d) 23).alloc (by first | (simp; done) | (simp; omega)) (.cells #[.int .i64 g, .int .i64 h] 23)).below hb1 (by first | (simp; done) | (simp; omega))
    simpa using this
  have T2x : At2 w1 (w.heap.size + 1 + 1) (.int .i64 g) (.int .i64 h) := by
    have := (At2.new ((w.alloc (.cells #[.int .i64 a, .int .i64 b] 23)).alloc (.cells #[.int .i64 c, .int .i64 d] 23)) (.int .i64 g) (.int .i64 h) 23).below hb1 (by first | (simp; done) | (simp; omega))
    simpa using this
  have HB1 : Below w.heap.size w w1 := ((((Below.refl _ _).alloc (by first | (exact Nat.le_refl _) | (simp; done) | (simp; omega)) _).alloc (by first | (exact Nat.le_refl _) | (simp; done) | (simp; omega)) _).alloc (by first | (exact Nat.le_refl _) | (simp; done) | (simp; omega)) _).trans (hb1.mono (by simp; omega))
  have hq1 := HB1.size
  clear hb1
  obtain ⟨p0a, p0b, p0c, p0d⟩ := T0x
  have p0l : w.heap.size < w1.heap.size := World.block_lt_of_cell? _ _ p0a
  obtain ⟨p1a, p1b, p1c, p1d⟩ := T1x
  have p1l : w.heap.size + 1 < w1.heap.size := World.block_lt_of_cell? _ _ p1a
  obtain ⟨p2a, p2b, p2c, p2d⟩ := T2x
  have p2l : w.heap.size + 1 + 1 < w1.heap.size := World.block_lt_of_cell? _ _ p2a
  go_wp2_with fail
  refine (numbers3 a b c d g h true _ HV.out a0 a1 b0 b1 c0 c1 d0 d1 g0 g1 h0 h1 _).mono ?_
  rintro e w2 ⟨rfl, hb2⟩
  have hz2 := hb2.size
  have p0t := (At2.mk p0a p0b p0c p0d).below hb2 (by omega)
  have p1t := (At2.mk p1a p1b p1c p1d).below hb2 (by omega)
  have p2t := (At2.mk p2a p2b p2c p2d).below hb2 (by omega)
  have HB2 : Below w.heap.size w w2 := HB1.trans (hb2.mono hq1)
  have hq2 := HB2.size
  clear hb2 HB1 p0a p0b p0c p0d p0l p1a p1b p1c p1d p1l p2a p2b p2c p2d p2l
  obtain ⟨p0a, p0b, p0c, p0d⟩ := p0t
  have p0l : w.heap.size < w2.heap.size := World.block_lt_of_cell? _ _ p0a
  obtain ⟨p1a, p1b, p1c, p1d⟩ := p1t
  have p1l : w.heap.size + 1 < w2.heap.size := World.block_lt_of_cell? _ _ p1a
  obtain ⟨p2a, p2b, p2c, p2d⟩ := p2t
  have p2l : w.heap.size + 1 + 1 < w2.heap.size := World.block_lt_of_cell? _ _ p2a
  go_wp2_with fail
  refine (K1.out _).mono ?_
  rintro e w3 ⟨rfl, hb3⟩
  have hz3 := hb3.size
  have p0t := (At2.mk p0a p0b p0c p0d).below hb3 (by omega)
  have p1t := (At2.mk p1a p1b p1c p1d).below hb3 (by omega)
  have p2t := (At2.mk p2a p2b p2c p2d).below hb3 (by omega)
  have HB3 : Below w.heap.size w w3 := HB2.trans (hb3.mono hq2)
  have hq3 := HB3.size
  clear hb3 HB2 p0a p0b p0c p0d p0l p1a p1b p1c p1d p1l p2a p2b p2c p2d p2l
  obtain ⟨p0a, p0b, p0c, p0d⟩ := p0t
  have p0l : w.heap.size < w3.heap.size := World.block_lt_of_cell? _ _ p0a
  obtain ⟨p1a, p1b, p1c, p1d⟩ := p1t
  have p1l : w.heap.size + 1 < w3.heap.size := World.block_lt_of_cell? _ _ p1a
  obtain ⟨p2a, p2b, p2c, p2d⟩ := p2t
  have p2l : w.heap.size + 1 + 1 < w3.heap.size := World.block_lt_of_cell? _ _ p2a
  go_wp2_with fail
  refine (K2.out _).mono ?_
  rintro e w4 ⟨rfl, hb4⟩
  have hz4 := hb4.size
  simp only [World.size_alloc] at hz4
  have p0t := ((At2.mk p0a p0b p0c p0d).alloc (by omega) _).below hb4 (by simp; omega)
  have p1t := ((At2.mk p1a p1b p1c p1d).alloc (by omega) _).below hb4 (by simp; omega)
  have p2t := ((At2.mk p2a p2b p2c p2d).alloc (by omega) _).below hb4 (by simp; omega)
  have pt := (At2.new w3 (.int .i64 p1) (.int .i64 p2) 23).below hb4 (by simp)
  have HB4 : Below w.heap.size w w4 := (HB3.alloc hq3 _).trans (hb4.mono (by simp; omega))
  have hq4 := HB4.size
  clear hb4 HB3 p0a p0b p0c p0d p0l p1a p1b p1c p1d p1l p2a p2b p2c p2d p2l
  obtain ⟨p0a, p0b, p0c, p0d⟩ := p0t
  have p0l : w.heap.size < w4.heap.size := World.block_lt_of_cell? _ _ p0a
  obtain ⟨p1a, p1b, p1c, p1d⟩ := p1t
  have p1l : w.heap.size + 1 < w4.heap.size := World.block_lt_of_cell? _ _ p1a
  obtain ⟨p2a, p2b, p2c, p2d⟩ := p2t
  have p2l : w.heap.size + 1 + 1 < w4.heap.size := World.block_lt_of_cell? _ _ p2a
  obtain ⟨pa, pb, pc, pd⟩ := pt
  have pl : w3.heap.size < w4.heap.size := World.block_lt_of_cell? _ _ pa
  go_wp2_with fail
  refine (K3.out _).mono ?_
  rintro e w5 ⟨rfl, hb5⟩
  have hz5 := hb5.size
  simp only [World.size_alloc] at hz5
  have p0t := ((At2.mk p0a p0b p0c p0d).alloc (by omega) _).below hb5 (by simp; omega)
  have p1t := ((At2.mk p1a p1b p1c p1d).alloc (by omega) _).below hb5 (by simp; omega)
  have p2t := ((At2.mk p2a p2b p2c p2d).alloc (by omega) _).below hb5 (by simp; omega)
  have pt := ((At2.mk pa pb pc pd).alloc (by omega) _).below hb5 (by simp; omega)
  have qt := (At2.new w4 (.int .i64 p1) (.int .i64 p2) 23).below hb5 (by simp)
  have HB5 : Below w.heap.size w w5 := (HB4.alloc hq4 _).trans (hb5.mono (by simp; omega))
  have hq5 := HB5.size
  clear hb5 HB4 p0a p0b p0c p0d p0l p1a p1b p1c p1d p1l p2a p2b p2c p2d p2l pa pb pc pd pl
  obtain ⟨p0a, p0b, p0c, p0d⟩ := p0t
  have p0l : w.heap.size < w5.heap.size := World.block_lt_of_cell? _ _ p0a
  obtain ⟨p1a, p1b, p1c, p1d⟩ := p1t
  have p1l : w.heap.size + 1 < w5.heap.size := World.block_lt_of_cell? _ _ p1a
  obtain ⟨p2a, p2b, p2c, p2d⟩ := p2t
  have p2l : w.heap.size + 1 + 1 < w5.heap.size := World.block_lt_of_cell? _ _ p2a
  obtain ⟨pa, pb, pc, pd⟩ := pt
  have pl : w3.heap.size < w5.heap.size := World.block_lt_of_cell? _ _ pa
  obtain ⟨qa, qb, qc, qd⟩ := qt
  have ql : w4.heap.size < w5.heap.size := World.block_lt_of_cell? _ _ qa
  go_wp2_with fail
  refine (K4.out _).mono ?_
  rintro e w6 ⟨rfl, hb6⟩
  have hz6 := hb6.size
  simp only [World.size_alloc] at hz6
  have p0t := ((At2.mk p0a p0b p0c p0d).alloc (by omega) _).below hb6 (by simp; omega)
  have p1t := ((At2.mk p1a p1b p1c p1d).alloc (by omega) _).below hb6 (by simp; omega)
  have p2t := ((At2.mk p2a p2b p2c p2d).alloc (by omega) _).below hb6 (by simp; omega)
  have pt := ((At2.mk pa pb pc pd).alloc (by omega) _).below hb6 (by simp; omega)
  have qt := ((At2.mk qa qb qc qd).alloc (by omega) _).below hb6 (by simp; omega)
  have backt := (At2.new w5 (.int .i64 a) (.int .i64 b) 23).below hb6 (by simp)
  have HB6 : Below w.heap.size w w6 := (HB5.alloc hq5 _).trans (hb6.mono (by simp; omega))
  have hq6 := HB6.size
  clear hb6 HB5 p0a p0b p0c p0d p0l p1a p1b p1c p1d p1l p2a p2b p2c p2d p2l pa pb pc pd pl qa qb qc qd ql
  obtain ⟨p0a, p0b, p0c, p0d⟩ := p0t
  have p0l : w.heap.size < w6.heap.size := World.block_lt_of_cell? _ _ p0a
  obtain ⟨p1a, p1b, p1c, p1d⟩ := p1t
  have p1l : w.heap.size + 1 < w6.heap.size := World.block_lt_of_cell? _ _ p1a
  obtain ⟨p2a, p2b, p2c, p2d⟩ := p2t
  have p2l : w.heap.size + 1 + 1 < w6.heap.size := World.block_lt_of_cell? _ _ p2a
  obtain ⟨pa, pb, pc, pd⟩ := pt
  have pl : w3.heap.size < w6.heap.size := World.block_lt_of_cell? _ _ pa
  obtain ⟨qa, qb, qc, qd⟩ := qt
  have ql : w4.heap.size < w6.heap.size := World.block_lt_of_cell? _ _ qa
  obtain ⟨backa, backb, backc, backd⟩ := backt
  have backl : w5.heap.size < w6.heap.size := World.block_lt_of_cell? _ _ backa
  go_wp2_with fail
  refine (K5.out _).mono ?_
  rintro e w7 ⟨rfl, hb7⟩
  have hz7 := hb7.size
  simp only [World.size_alloc] at hz7
  have p0t := ((At2.mk p0a p0b p0c p0d).alloc (by omega) _).below hb7 (by simp; omega)
  have p1t := ((At2.mk p1a p1b p1c p1d).alloc (by omega) _).below hb7 (by simp; omega)
  have p2t := ((At2.mk p2a p2b p2c p2d).alloc (by omega) _).below hb7 (by simp; omega)
  have pt := ((At2.mk pa pb pc pd).alloc (by omega) _).below hb7 (by simp; omega)
  have qt := ((At2.mk qa qb qc qd).alloc (by omega) _).below hb7 (by simp; omega)
  have backt := ((At2.mk backa backb backc backd).alloc (by omega) _).below hb7 (by simp; omega)
  have rt := (At2.new w6 (.int .i64 r1) (.int .i64 r2) 23).below hb7 (by simp)
  have HB7 : Below w.heap.size w w7 := (HB6.alloc hq6 _).trans (hb7.mono (by simp; omega))
  have hq7 := HB7.size
  clear hb7 HB6 p0a p0b p0c p0d p0l p1a p1b p1c p1d p1l p2a p2b p2c p2d p2l pa pb pc pd pl qa qb qc qd ql backa backb backc backd backl
  obtain ⟨p0a, p0b, p0c, p0d⟩ := p0t
  have p0l : w.heap.size < w7.heap.size := World.block_lt_of_cell? _ _ p0a
  obtain ⟨p1a, p1b, p1c, p1d⟩ := p1t
  have p1l : w.heap.size + 1 < w7.heap.size := World.block_lt_of_cell? _ _ p1a
  obtain ⟨p2a, p2b, p2c, p2d⟩ := p2t
  have p2l : w.heap.size + 1 + 1 < w7.heap.size := World.block_lt_of_cell? _ _ p2a
  obtain ⟨pa, pb, pc, pd⟩ := pt
  have pl : w3.heap.size < w7.heap.size := World.block_lt_of_cell? _ _ pa
  obtain ⟨qa, qb, qc, qd⟩ := qt
  have ql : w4.heap.size < w7.heap.size := World.block_lt_of_cell? _ _ qa
  obtain ⟨backa, backb, backc, backd⟩ := backt
  have backl : w5.heap.size < w7.heap.size := World.block_lt_of_cell? _ _ backa
  obtain ⟨ra, rb, rc, rd⟩ := rt
  have rl : w6.heap.size < w7.heap.size := World.block_lt_of_cell? _ _ ra
  go_wp2_with fail
  refine (K6.out _).mono ?_
  rintro e w8 ⟨rfl, hb8⟩
  have hz8 := hb8.size
  simp only [World.size_alloc] at hz8
  have p0t := ((At2.mk p0a p0b p0c p0d).alloc (by omega) _).below hb8 (by simp; omega)
  have p1t := ((At2.mk p1a p1b p1c p1d).alloc (by omega) _).below hb8 (by simp; omega)
  have p2t := ((At2.mk p2a p2b p2c p2d).alloc (by omega) _).below hb8 (by simp; omega)
  have pt := ((At2.mk pa pb pc pd).alloc (by omega) _).below hb8 (by simp; omega)
  have qt := ((At2.mk qa qb qc qd).alloc (by omega) _).below hb8 (by simp; omega)
  have backt := ((At2.mk backa backb backc backd).alloc (by omega) _).below hb8 (by simp; omega)
  have rt := ((At2.mk ra rb rc rd).alloc (by omega) _).below hb8 (by simp; omega)
  have ut := (At2.new w7 (.int .i64 u1) (.int .i64 u2) 23).below hb8 (by simp)
  have HB8 : Below w.heap.size w w8 := (HB7.alloc hq7 _).trans (hb8.mono (by simp; omega))
  have hq8 := HB8.size
  clear hb8 HB7 p0a p0b p0c p0d p0l p1a p1b p1c p1d p1l p2a p2b p2c p2d p2l pa pb pc pd pl qa qb qc qd ql backa backb backc backd backl ra rb rc rd rl
  obtain ⟨p0a, p0b, p0c, p0d⟩ := p0t
  have p0l : w.heap.size < w8.heap.size := World.block_lt_of_cell? _ _ p0a
  obtain ⟨p1a, p1b, p1c, p1d⟩ := p1t
  have p1l : w.heap.size + 1 < w8.heap.size := World.block_lt_of_cell? _ _ p1a
  obtain ⟨p2a, p2b, p2c, p2d⟩ := p2t
  have p2l : w.heap.size + 1 + 1 < w8.heap.size := World.block_lt_of_cell? _ _ p2a
  obtain ⟨pa, pb, pc, pd⟩ := pt
  have pl : w3.heap.size < w8.heap.size := World.block_lt_of_cell? _ _ pa
  obtain ⟨qa, qb, qc, qd⟩ := qt
  have ql : w4.heap.size < w8.heap.size := World.block_lt_of_cell? _ _ qa
  obtain ⟨backa, backb, backc, backd⟩ := backt
  have backl : w5.heap.size < w8.heap.size := World.block_lt_of_cell? _ _ backa
  obtain ⟨ra, rb, rc, rd⟩ := rt
  have rl : w6.heap.size < w8.heap.size := World.block_lt_of_cell? _ _ ra
  obtain ⟨ua, ub, uc, ud⟩ := ut
  have ul : w7.heap.size < w8.heap.size := World.block_lt_of_cell? _ _ ua
  go_wp2
  go_ret
  exact ⟨rfl, (by repeat' (first | exact HB8 | refine Below.setCell ?_ (by first | omega | (simp; done) | (simp; omega)) _ | refine below_drewN ?_ _ | refine Below.alloc ?_ (by first | omega | (simp; done) | (simp; omega)) _))⟩

/-- What a call that returned a number says. -/
theorem op2_ok {a b c d n m p q : Int} (h : op2 a b c d n m = (p, q, 0)) : Q.Val a b ∧ Q.Val c d ∧ m ≠ 0 ∧ Q.red n m = some (p, q) := by
  unfold op2 at h
  split at h
  · rename_i hv
    unfold mk at h
    split at h
    · cases h
    · rename_i hm
      split at h
      · rename_i p' q' e
        simp only [Prod.mk.injEq] at h
        obtain ⟨rfl, rfl, _⟩ := h
        exact ⟨(vld_iff _ _).1 hv.1, (vld_iff _ _).1 hv.2, hm, e⟩
      · cases h
  · cases h
theorem op2_of {a b c d n m p q : Int} (ha : Q.Val a b) (hc : Q.Val c d) (hm : m ≠ 0) (h : Q.red n m = some (p, q)) : op2 a b c d n m = (p, q, 0) := by
  unfold op2
  rw [if_pos ⟨(vld_iff _ _).2 ha, (vld_iff _ _).2 hc⟩]
  unfold mk
  rw [if_neg hm, h]
theorem op2_err {a b c d n m : Int} (ha : Q.Val a b) (hc : Q.Val c d) (hm : m ≠ 0) (h : (op2 a b c d n m).2.2 ≠ 0) : op2 a b c d n m = (0, 0, 3) := by
  unfold op2 at h ⊢
  rw [if_pos ⟨(vld_iff _ _).2 ha, (vld_iff _ _).2 hc⟩] at h ⊢
  unfold mk at h ⊢
  rw [if_neg hm] at h ⊢
  cases e : Q.red n m with
  | none => rfl
  | some r => rw [e] at h; exact absurd rfl h
theorem den_ne {a b c d : Int} (ha : Q.Val a b) (hc : Q.Val c d) : b * d ≠ 0 := Int.mul_ne_zero (by have := ha.2.2.1; omega) (by have := hc.2.2.1; omega)
theorem val_range {a b : Int} (h : Q.Val a b) : -9223372036854775808 ≤ a ∧ a ≤ 9223372036854775807 ∧ -9223372036854775808 ≤ b ∧ b ≤ 9223372036854775807 := by
  obtain ⟨h1, h2, h3, h4, _⟩ := h; omega
theorem op2_range (a b c d n m : Int) : -9223372036854775808 ≤ (op2 a b c d n m).1 ∧ (op2 a b c d n m).1 ≤ 9223372036854775807 ∧ -9223372036854775808 ≤ (op2 a b c d n m).2.1 ∧ (op2 a b c d n m).2.1 ≤ 9223372036854775807 := by
  unfold op2
  split
  · unfold mk
    split
    · exact ⟨by decide, by decide, by decide, by decide⟩
    · rename_i hm
      split
      · rename_i p q e
        exact val_range (Q.red_val hm e).1
      · exact ⟨by decide, by decide, by decide, by decide⟩
  · exact ⟨by decide, by decide, by decide, by decide⟩

theorem gives_add (a b c d : Int) (p q e : Int) (h : op2 a b c d (a * d + c * b) (b * d) = (p, q, e))
    (a0 : -9223372036854775808 ≤ a) (a1 : a ≤ 9223372036854775807) (b0 : -9223372036854775808 ≤ b) (b1 : b ≤ 9223372036854775807)
    (c0 : -9223372036854775808 ≤ c) (c1 : c ≤ 9223372036854775807) (d0 : -9223372036854775808 ≤ d) (d1 : d ≤ 9223372036854775807) :
    Gives 14 #[.agg #[.int .i64 a, .int .i64 b], .agg #[.int .i64 c, .int .i64 d]] (.tuple #[.agg #[.int .i64 p, .int .i64 q], .int .i64 e]) :=
  gives_of (fun w => add_any a b c d w a0 a1 b0 b1 c0 c1 d0 d1) (by rw [h])
theorem gives_sub (a b c d : Int) (p q e : Int) (h : op2 a b c d (a * d - c * b) (b * d) = (p, q, e))
    (a0 : -9223372036854775808 ≤ a) (a1 : a ≤ 9223372036854775807) (b0 : -9223372036854775808 ≤ b) (b1 : b ≤ 9223372036854775807)
    (c0 : -9223372036854775808 ≤ c) (c1 : c ≤ 9223372036854775807) (d0 : -9223372036854775808 ≤ d) (d1 : d ≤ 9223372036854775807) :
    Gives 16 #[.agg #[.int .i64 a, .int .i64 b], .agg #[.int .i64 c, .int .i64 d]] (.tuple #[.agg #[.int .i64 p, .int .i64 q], .int .i64 e]) :=
  gives_of (fun w => sub_any a b c d w a0 a1 b0 b1 c0 c1 d0 d1) (by rw [h])

theorem sums_law (a b c d g h : Int) (w : World) (hE : Env w)
    (a0 : -9223372036854775808 ≤ a) (a1 : a ≤ 9223372036854775807) (b0 : -9223372036854775808 ≤ b) (b1 : b ≤ 9223372036854775807)
    (c0 : -9223372036854775808 ≤ c) (c1 : c ≤ 9223372036854775807) (d0 : -9223372036854775808 ≤ d) (d1 : d ≤ 9223372036854775807)
    (g0 : -9223372036854775808 ≤ g) (g1 : g ≤ 9223372036854775807) (h0 : -9223372036854775808 ≤ h) (h1 : h ≤ 9223372036854775807) :
    Calls Tryd.prog 5 #[.agg #[.int .i64 a, .int .i64 b], .agg #[.int .i64 c, .int .i64 d], .agg #[.int .i64 g, .int .i64 h]] w fun e w' =>
      e = .returned (.bool true) ∧ Below w.heap.size w w' := by
  cases hv : (vld a b && vld c d && vld g h)
  · exact sums_law_no a b c d g h w hE hv a0 a1 b0 b1 c0 c1 d0 d1 g0 g1 h0 h1
  obtain ⟨hv12, hv3⟩ := Bool.and_eq_true_iff.1 hv
  obtain ⟨hv1, hv2⟩ := Bool.and_eq_true_iff.1 hv12
  have V1 := (vld_iff a b).1 hv1
  have V2 := (vld_iff c d).1 hv2
  have V3 := (vld_iff g h).1 hv3
  have comm : op2 c d a b (c * b + a * d) (d * b) = op2 a b c d (a * d + c * b) (b * d) := by
    have e1 : c * b + a * d = a * d + c * b := Int.add_comm _ _
    have e2 : d * b = b * d := Int.mul_comm _ _
    unfold op2
    rw [e1, e2, hv1, hv2]
  obtain ⟨p1, p2, pe, hp⟩ : ∃ p1 p2 pe, op2 a b c d (a * d + c * b) (b * d) = (p1, p2, pe) := ⟨_, _, _, rfl⟩
  by_cases he : pe = 0
  · subst he
    obtain ⟨_, _, _, e1⟩ := op2_ok hp
    have VP := (Q.red_val (den_ne V1 V2) e1).1
    obtain ⟨x0, x1, x2, x3⟩ := val_range VP
    have k1 := gives_add a b c d p1 p2 0 hp a0 a1 b0 b1 c0 c1 d0 d1
    have k2 := gives_add c d a b p1 p2 0 (comm.trans hp) c0 c1 d0 d1 a0 a1 b0 b1
    have k3 := gives_sub p1 p2 c d a b 0 (op2_of VP V2 (den_ne VP V2) (Q.sub_add V1 V2 e1)) x0 x1 x2 x3 c0 c1 d0 d1
    obtain ⟨r1, r2, re, hr⟩ : ∃ r1 r2 re, op2 c d g h (c * h + g * d) (d * h) = (r1, r2, re) := ⟨_, _, _, rfl⟩
    have k4 := gives_add c d g h r1 r2 re hr c0 c1 d0 d1 g0 g1 h0 h1
    obtain ⟨u1, u2, ue, hu⟩ : ∃ u1 u2 ue, op2 p1 p2 g h (p1 * h + g * p2) (p2 * h) = (u1, u2, ue) := ⟨_, _, _, rfl⟩
    have k5 := gives_add p1 p2 g h u1 u2 ue hu x0 x1 x2 x3 g0 g1 h0 h1
    have rr := op2_range c d g h (c * h + g * d) (d * h)
    rw [hr] at rr
    obtain ⟨y0, y1, y2, y3⟩ := rr
    obtain ⟨v1, v2, ve, hw⟩ : ∃ v1 v2 ve, op2 a b r1 r2 (a * r2 + r1 * b) (b * r2) = (v1, v2, ve) := ⟨_, _, _, rfl⟩
    have k6 := gives_add a b r1 r2 v1 v2 ve hw a0 a1 b0 b1 y0 y1 y2 y3
    by_cases hre : re = 0
    · subst hre
      by_cases hue : ue = 0
      · subst hue
        by_cases hve : ve = 0
        · subst hve
          obtain ⟨_, _, _, e2⟩ := op2_ok hr
          obtain ⟨_, _, _, e3⟩ := op2_ok hu
          obtain ⟨_, _, _, e4⟩ := op2_ok hw
          obtain ⟨f1, f2⟩ := Q.add_assoc V1 V2 V3 e1 e2 e3 e4
          subst f1; subst f2
          exact sums_law_s a b c d g h p1 p2 r1 r2 u1 u2 w hE hv a0 a1 b0 b1 c0 c1 d0 d1 g0 g1 h0 h1 k1 k2 k3 k4 k5 k6
        · exact sums_law_v a b c d g h p1 p2 r1 r2 u1 u2 v1 v2 ve w hE hv a0 a1 b0 b1 c0 c1 d0 d1 g0 g1 h0 h1 k1 k2 k3 k4 k5 k6 hve
      · exact sums_law_u a b c d g h p1 p2 r1 r2 u1 u2 ue v1 v2 ve w hE hv a0 a1 b0 b1 c0 c1 d0 d1 g0 g1 h0 h1 k1 k2 k3 k4 k5 k6 hue
    · exact sums_law_r a b c d g h p1 p2 r1 r2 re u1 u2 ue v1 v2 ve w hE hv a0 a1 b0 b1 c0 c1 d0 d1 g0 g1 h0 h1 k1 k2 k3 k4 k5 k6 hre
  · have e3 := op2_err V1 V2 (den_ne V1 V2) (n := a * d + c * b) (by rw [hp]; exact he)
    exact sums_law_err a b c d g h w hE hv a0 a1 b0 b1 c0 c1 d0 d1 g0 g1 h0 h1 (gives_add a b c d 0 0 3 e3 a0 a1 b0 b1 c0 c1 d0 d1) (gives_add c d a b 0 0 3 (comm.trans e3) c0 c1 d0 d1 a0 a1 b0 b1)
end Go.Proofs.YtohnmffokichkaaDoor
