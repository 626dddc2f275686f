/-
  Walks of the law on the order, where the comparison is 1.
-/
import Derived.Test.YtohnmffokichkaaDoorSumsWalk
namespace Go.Proofs.YtohnmffokichkaaDoor
open Go.RowKit

set_option maxRecDepth 100000 in
set_option maxHeartbeats 1000000 in
theorem order_law_no (a b c d g h : Int) (w : World) (hE : Env w) (hv : (vld a b && vld c d && vld g h) = false)
    (a0 : -9223372036854775808 ≤ a) (a1 : a ≤ 9223372036854775807) (b0 : -9223372036854775808 ≤ b) (b1 : b ≤ 9223372036854775807)
    (c0 : -9223372036854775808 ≤ c) (c1 : c ≤ 9223372036854775807) (d0 : -9223372036854775808 ≤ d) (d1 : d ≤ 9223372036854775807)
    (g0 : -9223372036854775808 ≤ g) (g1 : g ≤ 9223372036854775807) (h0 : -9223372036854775808 ≤ h) (h1 : h ≤ 9223372036854775807) :
    Calls Tryd.prog 7 #[.agg #[.int .i64 a, .int .i64 b], .agg #[.int .i64 c, .int .i64 d], .agg #[.int .i64 g, .int .i64 h]] w fun e w' =>
      e = .returned (.bool true) ∧ Below w.heap.size w w' := by
  have HE := Lib.hid hE
  have HV := Lib.hid hv
  clear hE hv
  go_enter Tryd.func7, Tryd.ntmps7
  go_wp2_with fail
  refine (head_any _ (((HE.out.below ((Below.refl _ _).alloc (Nat.le_refl _) _)).below ((Below.refl _ _).alloc (Nat.le_refl _) _)).below ((Below.refl _ _).alloc (Nat.le_refl _) _))).mono ?_
  rintro e w1 ⟨rfl, hb1⟩
  have hz1 := hb1.size
  simp only [World.size_alloc] at hz1
  have T0x : At2 w1 (w.heap.size) (.int .i64 a) (.int .i64 b) := by
    have := (((At2.new w (.int .i64 a) (.int .i64 b) 23).alloc (by first | (simp; done) | (simp; omega)) (.cells #[.int .i64 c, .int .i64 d] 23)).alloc (by first | (simp; done) | (simp; omega)) (.cells #[.int .i64 g, .int .i64 h] 23)).below hb1 (by first | (simp; done) | (simp; omega))
    simpa using this
  have T1x : At2 w1 (w.heap.size + 1) (.int .i64 c) (.int .i64 d) := by
    have := ((At2.new (w.alloc (.cells #[.int .i64 a, .int .i64 b] 23)) (.int .i64 c) (.int .i64 d) 23).alloc (by first | (simp; done) | (simp; omega)) (.cells #[.int .i64 g, .int .i64 h] 23)).below hb1 (by first | (simp; done) | (simp; omega))
    simpa using this
  have T2x : At2 w1 (w.heap.size + 1 + 1) (.int .i64 g) (.int .i64 h) := by
    have := (At2.new ((w.alloc (.cells #[.int .i64 a, .int .i64 b] 23)).alloc (.cells #[.int .i64 c, .int .i64 d] 23)) (.int .i64 g) (.int .i64 h) 23).below hb1 (by first | (simp; done) | (simp; omega))
    simpa using this
  have HB1 : Below w.heap.size w w1 := ((((Below.refl _ _).alloc (by first | (exact Nat.le_refl _) | (simp; done) | (simp; omega)) _).alloc (by first | (exact Nat.le_refl _) | (simp; done) | (simp; omega)) _).alloc (by first | (exact Nat.le_refl _) | (simp; done) | (simp; omega)) _).trans (hb1.mono (by simp; omega))
  have hq1 := HB1.size
  clear hb1
  obtain ⟨p0a, p0b, p0c, p0d⟩ := T0x
  have p0l : w.heap.size < w1.heap.size := World.block_lt_of_cell? _ _ p0a
  obtain ⟨p1a, p1b, p1c, p1d⟩ := T1x
  have p1l : w.heap.size + 1 < w1.heap.size := World.block_lt_of_cell? _ _ p1a
  obtain ⟨p2a, p2b, p2c, p2d⟩ := T2x
  have p2l : w.heap.size + 1 + 1 < w1.heap.size := World.block_lt_of_cell? _ _ p2a
  go_wp2_with fail
  refine (numbers3 a b c d g h false _ HV.out a0 a1 b0 b1 c0 c1 d0 d1 g0 g1 h0 h1 _).mono ?_
  rintro e w2 ⟨rfl, hb2⟩
  have hz2 := hb2.size
  have p0t := (At2.mk p0a p0b p0c p0d).below hb2 (by omega)
  have p1t := (At2.mk p1a p1b p1c p1d).below hb2 (by omega)
  have p2t := (At2.mk p2a p2b p2c p2d).below hb2 (by omega)
  have HB2 : Below w.heap.size w w2 := HB1.trans (hb2.mono hq1)
  have hq2 := HB2.size
  clear hb2 HB1 p0a p0b p0c p0d p0l p1a p1b p1c p1d p1l p2a p2b p2c p2d p2l
  obtain ⟨p0a, p0b, p0c, p0d⟩ := p0t
  have p0l : w.heap.size < w2.heap.size := World.block_lt_of_cell? _ _ p0a
  obtain ⟨p1a, p1b, p1c, p1d⟩ := p1t
  have p1l : w.heap.size + 1 < w2.heap.size := World.block_lt_of_cell? _ _ p1a
  obtain ⟨p2a, p2b, p2c, p2d⟩ := p2t
  have p2l : w.heap.size + 1 + 1 < w2.heap.size := World.block_lt_of_cell? _ _ p2a
  go_wp2
  go_ret
  exact ⟨rfl, (by repeat' (first | exact HB2 | refine Below.setCell ?_ (by first | omega | (simp; done) | (simp; omega)) _ | refine below_drewN ?_ _ | refine Below.alloc ?_ (by first | omega | (simp; done) | (simp; omega)) _))⟩

set_option maxRecDepth 100000 in
set_option maxHeartbeats 1000000 in
theorem order_Paekn (a b c d g h y z p1 p2 ke q1 q2 le : Int) (w : World) (hE : Env w) (hv : (vld a b && vld c d && vld g h) = true)
    (a0 : -9223372036854775808 ≤ a) (a1 : a ≤ 9223372036854775807) (b0 : -9223372036854775808 ≤ b) (b1 : b ≤ 9223372036854775807)
    (c0 : -9223372036854775808 ≤ c) (c1 : c ≤ 9223372036854775807) (d0 : -9223372036854775808 ≤ d) (d1 : d ≤ 9223372036854775807)
    (g0 : -9223372036854775808 ≤ g) (g1 : g ≤ 9223372036854775807) (h0 : -9223372036854775808 ≤ h) (h1 : h ≤ 9223372036854775807)
    (k1 : Gives 22 #[.agg #[.int .i64 a, .int .i64 b], .agg #[.int .i64 c, .int .i64 d]] (.tuple #[.int .i64 1, .int .i64 0]))
    (k2 : Gives 22 #[.agg #[.int .i64 c, .int .i64 d], .agg #[.int .i64 g, .int .i64 h]] (.tuple #[.int .i64 y, .int .i64 0]))
    (k3 : Gives 22 #[.agg #[.int .i64 a, .int .i64 b], .agg #[.int .i64 g, .int .i64 h]] (.tuple #[.int .i64 z, .int .i64 0]))
    (k4 : Gives 22 #[.agg #[.int .i64 c, .int .i64 d], .agg #[.int .i64 a, .int .i64 b]] (.tuple #[.int .i64 (-1), .int .i64 0]))
    (k5 : Gives 16 #[.agg #[.int .i64 a, .int .i64 b], .agg #[.int .i64 c, .int .i64 d]] (.tuple #[.agg #[.int .i64 0, .int .i64 0], .int .i64 3]))
    (k6 : Gives 14 #[.agg #[.int .i64 a, .int .i64 b], .agg #[.int .i64 g, .int .i64 h]] (.tuple #[.agg #[.int .i64 p1, .int .i64 p2], .int .i64 ke]))
    (k7 : Gives 14 #[.agg #[.int .i64 c, .int .i64 d], .agg #[.int .i64 g, .int .i64 h]] (.tuple #[.agg #[.int .i64 q1, .int .i64 q2], .int .i64 le]))
    (hne : ¬ a = c)  (hk : ¬ ke = 0) :
    Calls Tryd.prog 7 #[.agg #[.int .i64 a, .int .i64 b], .agg #[.int .i64 c, .int .i64 d], .agg #[.int .i64 g, .int .i64 h]] w fun e w' =>
      e = .returned (.bool true) ∧ Below w.heap.size w w' := by
  have HE := Lib.hid hE
  have HV := Lib.hid hv
  have K1 := Lib.hid k1
  have K2 := Lib.hid k2
  have K3 := Lib.hid k3
  have K4 := Lib.hid k4
  have K5 := Lib.hid k5
  have K6 := Lib.hid k6
  have K7 := Lib.hid k7
  clear hE hv k1 k2 k3 k4 k5 k6 k7
  have f5 : (ke != 0) = true := by simp; exact hk
  go_enter Tryd.func7, Tryd.ntmps7
  go_wp2_with fail
  refine (head_any _ (((HE.out.below ((Below.refl _ _).alloc (Nat.le_refl _) _)).below ((Below.refl _ _).alloc (Nat.le_refl _) _)).below ((Below.refl _ _).alloc (Nat.le_refl _) _))).mono ?_
  rintro e w1 ⟨rfl, hb1⟩
  have hz1 := hb1.size
  simp only [World.size_alloc] at hz1
  have T0x : At2 w1 (w.heap.size) (.int .i64 a) (.int .i64 b) := by
    have := (((At2.new w (.int .i64 a) (.int .i64 b) 23).alloc (by first | (simp; done) | (simp; omega)) (.cells #[.int .i64 c, .int .i64 d] 23)).alloc (by first | (simp; done) | (simp; omega)) (.cells #[.int .i64 g, .int .i64 h] 23)).below hb1 (by first | (simp; done) | (simp; omega))
    simpa using this
  have T1x : At2 w1 (w.heap.size + 1) (.int .i64 c) (.int .i64 d) := by
    have := ((At2.new (w.alloc (.cells #[.int .i64 a, .int .i64 b] 23)) (.int .i64 c) (.int .i64 d) 23).alloc (by first | (simp; done) | (simp; omega)) (.cells #[.int .i64 g, .int .i64 h] 23)).below hb1 (by first | (simp; done) | (simp; omega))
    simpa using this
  have T2x : At2 w1 (w.heap.size + 1 + 1) (.int .i64 g) (.int .i64 h) := by
    have := (At2.new ((w.alloc (.cells #[.int .i64 a, .int .i64 b] 23)).alloc (.cells #[.int .i64 c, .int .i64 d] 23)) (.int .i64 g) (.int .i64 h) 23).below hb1 (by first | (simp; done) | (simp; omega))
    simpa using this
  have HB1 : Below w.heap.size w w1 := ((((Below.refl _ _).alloc (by first | (exact Nat.le_refl _) | (simp; done) | (simp; omega)) _).alloc (by first | (exact Nat.le_refl _) | (simp; done) | (simp; omega)) _).alloc (by first | (exact Nat.le_refl _) | (simp; done) | (simp; omega)) _).trans (hb1.mono (by simp; omega))
  have hq1 := HB1.size
  clear hb1
  obtain ⟨p0a, p0b, p0c, p0d⟩ := T0x
  have p0l : w.heap.size < w1.heap.size := World.block_lt_of_cell? _ _ p0a
  obtain ⟨p1a, p1b, p1c, p1d⟩ := T1x
  have p1l : w.heap.size + 1 < w1.heap.size := World.block_lt_of_cell? _ _ p1a
  obtain ⟨p2a, p2b, p2c, p2d⟩ := T2x
  have p2l : w.heap.size + 1 + 1 < w1.heap.size := World.block_lt_of_cell? _ _ p2a
  go_wp2_with fail
  refine (numbers3 a b c d g h true _ HV.out a0 a1 b0 b1 c0 c1 d0 d1 g0 g1 h0 h1 _).mono ?_
  rintro e w2 ⟨rfl, hb2⟩
  have hz2 := hb2.size
  have p0t := (At2.mk p0a p0b p0c p0d).below hb2 (by omega)
  have p1t := (At2.mk p1a p1b p1c p1d).below hb2 (by omega)
  have p2t := (At2.mk p2a p2b p2c p2d).below hb2 (by omega)
  have HB2 : Below w.heap.size w w2 := HB1.trans (hb2.mono hq1)
  have hq2 := HB2.size
  clear hb2 HB1 p0a p0b p0c p0d p0l p1a p1b p1c p1d p1l p2a p2b p2c p2d p2l
  obtain ⟨p0a, p0b, p0c, p0d⟩ := p0t
  have p0l : w.heap.size < w2.heap.size := World.block_lt_of_cell? _ _ p0a
  obtain ⟨p1a, p1b, p1c, p1d⟩ := p1t
  have p1l : w.heap.size + 1 < w2.heap.size := World.block_lt_of_cell? _ _ p1a
  obtain ⟨p2a, p2b, p2c, p2d⟩ := p2t
  have p2l : w.heap.size + 1 + 1 < w2.heap.size := World.block_lt_of_cell? _ _ p2a
  go_wp2_with fail
  refine (K1.out _).mono ?_
  rintro e w3 ⟨rfl, hb3⟩
  have hz3 := hb3.size
  have p0t := (At2.mk p0a p0b p0c p0d).below hb3 (by omega)
  have p1t := (At2.mk p1a p1b p1c p1d).below hb3 (by omega)
  have p2t := (At2.mk p2a p2b p2c p2d).below hb3 (by omega)
  have HB3 : Below w.heap.size w w3 := HB2.trans (hb3.mono hq2)
  have hq3 := HB3.size
  clear hb3 HB2 p0a p0b p0c p0d p0l p1a p1b p1c p1d p1l p2a p2b p2c p2d p2l
  obtain ⟨p0a, p0b, p0c, p0d⟩ := p0t
  have p0l : w.heap.size < w3.heap.size := World.block_lt_of_cell? _ _ p0a
  obtain ⟨p1a, p1b, p1c, p1d⟩ := p1t
  have p1l : w.heap.size + 1 < w3.heap.size := World.block_lt_of_cell? _ _ p1a
  obtain ⟨p2a, p2b, p2c, p2d⟩ := p2t
  have p2l : w.heap.size + 1 + 1 < w3.heap.size := World.block_lt_of_cell? _ _ p2a
  go_wp2_with fail
  refine (K2.out _).mono ?_
  rintro e w4 ⟨rfl, hb4⟩
  have hz4 := hb4.size
  have p0t := (At2.mk p0a p0b p0c p0d).below hb4 (by omega)
  have p1t := (At2.mk p1a p1b p1c p1d).below hb4 (by omega)
  have p2t := (At2.mk p2a p2b p2c p2d).below hb4 (by omega)
  have HB4 : Below w.heap.size w w4 := HB3.trans (hb4.mono hq3)
  have hq4 := HB4.size
  clear hb4 HB3 p0a p0b p0c p0d p0l p1a p1b p1c p1d p1l p2a p2b p2c p2d p2l
  obtain ⟨p0a, p0b, p0c, p0d⟩ := p0t
  have p0l : w.heap.size < w4.heap.size := World.block_lt_of_cell? _ _ p0a
  obtain ⟨p1a, p1b, p1c, p1d⟩ := p1t
  have p1l : w.heap.size + 1 < w4.heap.size := World.block_lt_of_cell? _ _ p1a
  obtain ⟨p2a, p2b, p2c, p2d⟩ := p2t
  have p2l : w.heap.size + 1 + 1 < w4.heap.size := World.block_lt_of_cell? _ _ p2a
  go_wp2_with fail
  refine (K3.out _).mono ?_
  rintro e w5 ⟨rfl, hb5⟩
  have hz5 := hb5.size
  have p0t := (At2.mk p0a p0b p0c p0d).below hb5 (by omega)
  have p1t := (At2.mk p1a p1b p1c p1d).below hb5 (by omega)
  have p2t := (At2.mk p2a p2b p2c p2d).below hb5 (by omega)
  have HB5 : Below w.heap.size w w5 := HB4.trans (hb5.mono hq4)
  have hq5 := HB5.size
  clear hb5 HB4 p0a p0b p0c p0d p0l p1a p1b p1c p1d p1l p2a p2b p2c p2d p2l
  obtain ⟨p0a, p0b, p0c, p0d⟩ := p0t
  have p0l : w.heap.size < w5.heap.size := World.block_lt_of_cell? _ _ p0a
  obtain ⟨p1a, p1b, p1c, p1d⟩ := p1t
  have p1l : w.heap.size + 1 < w5.heap.size := World.block_lt_of_cell? _ _ p1a
  obtain ⟨p2a, p2b, p2c, p2d⟩ := p2t
  have p2l : w.heap.size + 1 + 1 < w5.heap.size := World.block_lt_of_cell? _ _ p2a
  go_wp2_with fail
  refine (K4.out _).mono ?_
  rintro e w6 ⟨rfl, hb6⟩
  have hz6 := hb6.size
  have p0t := (At2.mk p0a p0b p0c p0d).below hb6 (by omega)
  have p1t := (At2.mk p1a p1b p1c p1d).below hb6 (by omega)
  have p2t := (At2.mk p2a p2b p2c p2d).below hb6 (by omega)
  have HB6 : Below w.heap.size w w6 := HB5.trans (hb6.mono hq5)
  have hq6 := HB6.size
  clear hb6 HB5 p0a p0b p0c p0d p0l p1a p1b p1c p1d p1l p2a p2b p2c p2d p2l
  obtain ⟨p0a, p0b, p0c, p0d⟩ := p0t
  have p0l : w.heap.size < w6.heap.size := World.block_lt_of_cell? _ _ p0a
  obtain ⟨p1a, p1b, p1c, p1d⟩ := p1t
  have p1l : w.heap.size + 1 < w6.heap.size := World.block_lt_of_cell? _ _ p1a
  obtain ⟨p2a, p2b, p2c, p2d⟩ := p2t
  have p2l : w.heap.size + 1 + 1 < w6.heap.size := World.block_lt_of_cell? _ _ p2a
  go_wp2_with fail
  refine (K5.out _).mono ?_
  rintro e w7 ⟨rfl, hb7⟩
  have hz7 := hb7.size
  have p0t := (At2.mk p0a p0b p0c p0d).below hb7 (by omega)
  have p1t := (At2.mk p1a p1b p1c p1d).below hb7 (by omega)
  have p2t := (At2.mk p2a p2b p2c p2d).below hb7 (by omega)
  have HB7 : Below w.heap.size w w7 := HB6.trans (hb7.mono hq6)
  have hq7 := HB7.size
  clear hb7 HB6 p0a p0b p0c p0d p0l p1a p1b p1c p1d p1l p2a p2b p2c p2d p2l
  obtain ⟨p0a, p0b, p0c, p0d⟩ := p0t
  have p0l : w.heap.size < w7.heap.size := World.block_lt_of_cell? _ _ p0a
  obtain ⟨p1a, p1b, p1c, p1d⟩ := p1t
  have p1l : w.heap.size + 1 < w7.heap.size := World.block_lt_of_cell? _ _ p1a
  obtain ⟨p2a, p2b, p2c, p2d⟩ := p2t
  have p2l : w.heap.size + 1 + 1 < w7.heap.size := World.block_lt_of_cell? _ _ p2a
  go_wp2_with fail
  refine (K6.out _).mono ?_
  rintro e w8 ⟨rfl, hb8⟩
  have hz8 := hb8.size
  simp only [World.size_alloc] at hz8
  have p0t := ((At2.mk p0a p0b p0c p0d).alloc (by omega) _).below hb8 (by simp; omega)
  have p1t := ((At2.mk p1a p1b p1c p1d).alloc (by omega) _).below hb8 (by simp; omega)
  have p2t := ((At2.mk p2a p2b p2c p2d).alloc (by omega) _).below hb8 (by simp; omega)
  have ddt := (At2.new w7 (.int .i64 0) (.int .i64 0) 23).below hb8 (by simp)
  have HB8 : Below w.heap.size w w8 := (HB7.alloc hq7 _).trans (hb8.mono (by simp; omega))
  have hq8 := HB8.size
  clear hb8 HB7 p0a p0b p0c p0d p0l p1a p1b p1c p1d p1l p2a p2b p2c p2d p2l
  obtain ⟨p0a, p0b, p0c, p0d⟩ := p0t
  have p0l : w.heap.size < w8.heap.size := World.block_lt_of_cell? _ _ p0a
  obtain ⟨p1a, p1b, p1c, p1d⟩ := p1t
  have p1l : w.heap.size + 1 < w8.heap.size := World.block_lt_of_cell? _ _ p1a
  obtain ⟨p2a, p2b, p2c, p2d⟩ := p2t
  have p2l : w.heap.size + 1 + 1 < w8.heap.size := World.block_lt_of_cell? _ _ p2a
  obtain ⟨dda, ddb, ddc, ddd⟩ := ddt
  have ddl : w7.heap.size < w8.heap.size := World.block_lt_of_cell? _ _ dda
  go_wp2_with fail
  refine (K7.out _).mono ?_
  rintro e w9 ⟨rfl, hb9⟩
  have hz9 := hb9.size
  simp only [World.size_alloc] at hz9
  have p0t := ((At2.mk p0a p0b p0c p0d).alloc (by omega) _).below hb9 (by simp; omega)
  have p1t := ((At2.mk p1a p1b p1c p1d).alloc (by omega) _).below hb9 (by simp; omega)
  have p2t := ((At2.mk p2a p2b p2c p2d).alloc (by omega) _).below hb9 (by simp; omega)
  have ddt := ((At2.mk dda ddb ddc ddd).alloc (by omega) _).below hb9 (by simp; omega)
  have ppt := (At2.new w8 (.int .i64 p1) (.int .i64 p2) 23).below hb9 (by simp)
  have HB9 : Below w.heap.size w w9 := (HB8.alloc hq8 _).trans (hb9.mono (by simp; omega))
  have hq9 := HB9.size
  clear hb9 HB8 p0a p0b p0c p0d p0l p1a p1b p1c p1d p1l p2a p2b p2c p2d p2l dda ddb ddc ddd ddl
  obtain ⟨p0a, p0b, p0c, p0d⟩ := p0t
  have p0l : w.heap.size < w9.heap.size := World.block_lt_of_cell? _ _ p0a
  obtain ⟨p1a, p1b, p1c, p1d⟩ := p1t
  have p1l : w.heap.size + 1 < w9.heap.size := World.block_lt_of_cell? _ _ p1a
  obtain ⟨p2a, p2b, p2c, p2d⟩ := p2t
  have p2l : w.heap.size + 1 + 1 < w9.heap.size := World.block_lt_of_cell? _ _ p2a
  obtain ⟨dda, ddb, ddc, ddd⟩ := ddt
  have ddl : w7.heap.size < w9.heap.size := World.block_lt_of_cell? _ _ dda
  obtain ⟨ppa, ppb, ppc, ppd⟩ := ppt
  have ppl : w8.heap.size < w9.heap.size := World.block_lt_of_cell? _ _ ppa
  go_wp2
  go_ret
  exact ⟨rfl, (by repeat' (first | exact HB9 | refine Below.setCell ?_ (by first | omega | (simp; done) | (simp; omega)) _ | refine below_drewN ?_ _ | refine Below.alloc ?_ (by first | omega | (simp; done) | (simp; omega)) _))⟩

set_option maxRecDepth 100000 in
set_option maxHeartbeats 1000000 in
theorem order_Paeln (a b c d g h y z p1 p2 q1 q2 le : Int) (w : World) (hE : Env w) (hv : (vld a b && vld c d && vld g h) = true)
    (a0 : -9223372036854775808 ≤ a) (a1 : a ≤ 9223372036854775807) (b0 : -9223372036854775808 ≤ b) (b1 : b ≤ 9223372036854775807)
    (c0 : -9223372036854775808 ≤ c) (c1 : c ≤ 9223372036854775807) (d0 : -9223372036854775808 ≤ d) (d1 : d ≤ 9223372036854775807)
    (g0 : -9223372036854775808 ≤ g) (g1 : g ≤ 9223372036854775807) (h0 : -9223372036854775808 ≤ h) (h1 : h ≤ 9223372036854775807)
    (k1 : Gives 22 #[.agg #[.int .i64 a, .int .i64 b], .agg #[.int .i64 c, .int .i64 d]] (.tuple #[.int .i64 1, .int .i64 0]))
    (k2 : Gives 22 #[.agg #[.int .i64 c, .int .i64 d], .agg #[.int .i64 g, .int .i64 h]] (.tuple #[.int .i64 y, .int .i64 0]))
    (k3 : Gives 22 #[.agg #[.int .i64 a, .int .i64 b], .agg #[.int .i64 g, .int .i64 h]] (.tuple #[.int .i64 z, .int .i64 0]))
    (k4 : Gives 22 #[.agg #[.int .i64 c, .int .i64 d], .agg #[.int .i64 a, .int .i64 b]] (.tuple #[.int .i64 (-1), .int .i64 0]))
    (k5 : Gives 16 #[.agg #[.int .i64 a, .int .i64 b], .agg #[.int .i64 c, .int .i64 d]] (.tuple #[.agg #[.int .i64 0, .int .i64 0], .int .i64 3]))
    (k6 : Gives 14 #[.agg #[.int .i64 a, .int .i64 b], .agg #[.int .i64 g, .int .i64 h]] (.tuple #[.agg #[.int .i64 p1, .int .i64 p2], .int .i64 0]))
    (k7 : Gives 14 #[.agg #[.int .i64 c, .int .i64 d], .agg #[.int .i64 g, .int .i64 h]] (.tuple #[.agg #[.int .i64 q1, .int .i64 q2], .int .i64 le]))
    (hne : ¬ a = c)  (hl : ¬ le = 0) :
    Calls Tryd.prog 7 #[.agg #[.int .i64 a, .int .i64 b], .agg #[.int .i64 c, .int .i64 d], .agg #[.int .i64 g, .int .i64 h]] w fun e w' =>
      e = .returned (.bool true) ∧ Below w.heap.size w w' := by
  have HE := Lib.hid hE
  have HV := Lib.hid hv
  have K1 := Lib.hid k1
  have K2 := Lib.hid k2
  have K3 := Lib.hid k3
  have K4 := Lib.hid k4
  have K5 := Lib.hid k5
  have K6 := Lib.hid k6
  have K7 := Lib.hid k7
  clear hE hv k1 k2 k3 k4 k5 k6 k7
  have f5 : (le != 0) = true := by simp; exact hl
  go_enter Tryd.func7, Tryd.ntmps7
  go_wp2_with fail
  refine (head_any _ (((HE.out.below ((Below.refl _ _).alloc (Nat.le_refl _) _)).below ((Below.refl _ _).alloc (Nat.le_refl _) _)).below ((Below.refl _ _).alloc (Nat.le_refl _) _))).mono ?_
  rintro e w1 ⟨rfl, hb1⟩
  have hz1 := hb1.size
  simp only [World.size_alloc] at hz1
  have T0x : At2 w1 (w.heap.size) (.int .i64 a) (.int .i64 b) := by
    have := (((At2.new w (.int .i64 a) (.int .i64 b) 23).alloc (by first | (simp; done) | (simp; omega)) (.cells #[.int .i64 c, .int .i64 d] 23)).alloc (by first | (simp; done) | (simp; omega)) (.cells #[.int .i64 g, .int .i64 h] 23)).below hb1 (by first | (simp; done) | (simp; omega))
    simpa using this
  have T1x : At2 w1 (w.heap.size + 1) (.int .i64 c) (.int .i64 d) := by
    have := ((At2.new (w.alloc (.cells #[.int .i64 a, .int .i64 b] 23)) (.int .i64 c) (.int .i64 d) 23).alloc (by first | (simp; done) | (simp; omega)) (.cells #[.int .i64 g, .int .i64 h] 23)).below hb1 (by first | (simp; done) | (simp; omega))
    simpa using this
  have T2x : At2 w1 (w.heap.size + 1 + 1) (.int .i64 g) (.int .i64 h) := by
    have := (At2.new ((w.alloc (.cells #[.int .i64 a, .int .i64 b] 23)).alloc (.cells #[.int .i64 c, .int .i64 d] 23)) (.int .i64 g) (.int .i64 h) 23).below hb1 (by first | (simp; done) | (simp; omega))
    simpa using this
  have HB1 : Below w.heap.size w w1 := ((((Below.refl _ _).alloc (by first | (exact Nat.le_refl _) | (simp; done) | (simp; omega)) _).alloc (by first | (exact Nat.le_refl _) | (simp; done) | (simp; omega)) _).alloc (by first | (exact Nat.le_refl _) | (simp; done) | (simp; omega)) _).trans (hb1.mono (by simp; omega))
  have hq1 := HB1.size
  clear hb1
  obtain ⟨p0a, p0b, p0c, p0d⟩ := T0x
  have p0l : w.heap.size < w1.heap.size := World.block_lt_of_cell? _ _ p0a
  obtain ⟨p1a, p1b, p1c, p1d⟩ := T1x
  have p1l : w.heap.size + 1 < w1.heap.size := World.block_lt_of_cell? _ _ p1a
  obtain ⟨p2a, p2b, p2c, p2d⟩ := T2x
  have p2l : w.heap.size + 1 + 1 < w1.heap.size := World.block_lt_of_cell? _ _ p2a
  go_wp2_with fail
  refine (numbers3 a b c d g h true _ HV.out a0 a1 b0 b1 c0 c1 d0 d1 g0 g1 h0 h1 _).mono ?_
  rintro e w2 ⟨rfl, hb2⟩
  have hz2 := hb2.size
  have p0t := (At2.mk p0a p0b p0c p0d).below hb2 (by omega)
  have p1t := (At2.mk p1a p1b p1c p1d).below hb2 (by omega)
  have p2t := (At2.mk p2a p2b p2c p2d).below hb2 (by omega)
  have HB2 : Below w.heap.size w w2 := HB1.trans (hb2.mono hq1)
  have hq2 := HB2.size
  clear hb2 HB1 p0a p0b p0c p0d p0l p1a p1b p1c p1d p1l p2a p2b p2c p2d p2l
  obtain ⟨p0a, p0b, p0c, p0d⟩ := p0t
  have p0l : w.heap.size < w2.heap.size := World.block_lt_of_cell? _ _ p0a
  obtain ⟨p1a, p1b, p1c, p1d⟩ := p1t
  have p1l : w.heap.size + 1 < w2.heap.size := World.block_lt_of_cell? _ _ p1a
  obtain ⟨p2a, p2b, p2c, p2d⟩ := p2t
  have p2l : w.heap.size + 1 + 1 < w2.heap.size := World.block_lt_of_cell? _ _ p2a
  go_wp2_with fail
  refine (K1.out _).mono ?_
  rintro e w3 ⟨rfl, hb3⟩
  have hz3 := hb3.size
  have p0t := (At2.mk p0a p0b p0c p0d).below hb3 (by omega)
  have p1t := (At2.mk p1a p1b p1c p1d).below hb3 (by omega)
  have p2t := (At2.mk p2a p2b p2c p2d).below hb3 (by omega)
  have HB3 : Below w.heap.size w w3 := HB2.trans (hb3.mono hq2)
  have hq3 := HB3.size
  clear hb3 HB2 p0a p0b p0c p0d p0l p1a p1b p1c p1d p1l p2a p2b p2c p2d p2l
  obtain ⟨p0a, p0b, p0c, p0d⟩ := p0t
  have p0l : w.heap.size < w3.heap.size := World.block_lt_of_cell? _ _ p0a
  obtain ⟨p1a, p1b, p1c, p1d⟩ := p1t
  have p1l : w.heap.size + 1 < w3.heap.size := World.block_lt_of_cell? _ _ p1a
  obtain ⟨p2a, p2b, p2c, p2d⟩ := p2t
  have p2l : w.heap.size + 1 + 1 < w3.heap.size := World.block_lt_of_cell? _ _ p2a
  go_wp2_with fail
  refine (K2.out _).mono ?_
  rintro e w4 ⟨rfl, hb4⟩
  have hz4 := hb4.size
  have p0t := (At2.mk p0a p0b p0c p0d).below hb4 (by omega)
  have p1t := (At2.mk p1a p1b p1c p1d).below hb4 (by omega)
  have p2t := (At2.mk p2a p2b p2c p2d).below hb4 (by omega)
  have HB4 : Below w.heap.size w w4 := HB3.trans (hb4.mono hq3)
  have hq4 := HB4.size
  clear hb4 HB3 p0a p0b p0c p0d p0l p1a p1b p1c p1d p1l p2a p2b p2c p2d p2l
  obtain ⟨p0a, p0b, p0c, p0d⟩ := p0t
  have p0l : w.heap.size < w4.heap.size := World.block_lt_of_cell? _ _ p0a
  obtain ⟨p1a, p1b, p1c, p1d⟩ := p1t
  have p1l : w.heap.size + 1 < w4.heap.size := World.block_lt_of_cell? _ _ p1a
  obtain ⟨p2a, p2b, p2c, p2d⟩ := p2t
  have p2l : w.heap.size + 1 + 1 < w4.heap.size := World.block_lt_of_cell? _ _ p2a
  go_wp2_with fail
  refine (K3.out _).mono ?_
  rintro e w5 ⟨rfl, hb5⟩
  have hz5 := hb5.size
  have p0t := (At2.mk p0a p0b p0c p0d).below hb5 (by omega)
  have p1t := (At2.mk p1a p1b p1c p1d).below hb5 (by omega)
  have p2t := (At2.mk p2a p2b p2c p2d).below hb5 (by omega)
  have HB5 : Below w.heap.size w w5 := HB4.trans (hb5.mono hq4)
  have hq5 := HB5.size
  clear hb5 HB4 p0a p0b p0c p0d p0l p1a p1b p1c p1d p1l p2a p2b p2c p2d p2l
  obtain ⟨p0a, p0b, p0c, p0d⟩ := p0t
  have p0l : w.heap.size < w5.heap.size := World.block_lt_of_cell? _ _ p0a
  obtain ⟨p1a, p1b, p1c, p1d⟩ := p1t
  have p1l : w.heap.size + 1 < w5.heap.size := World.block_lt_of_cell? _ _ p1a
  obtain ⟨p2a, p2b, p2c, p2d⟩ := p2t
  have p2l : w.heap.size + 1 + 1 < w5.heap.size := World.block_lt_of_cell? _ _ p2a
  go_wp2_with fail
  refine (K4.out _).mono ?_
  rintro e w6 ⟨rfl, hb6⟩
  have hz6 := hb6.size
  have p0t := (At2.mk p0a p0b p0c p0d).below hb6 (by omega)
  have p1t := (At2.mk p1a p1b p1c p1d).below hb6 (by omega)
  have p2t := (At2.mk p2a p2b p2c p2d).below hb6 (by omega)
  have HB6 : Below w.heap.size w w6 := HB5.trans (hb6.mono hq5)
  have hq6 := HB6.size
  clear hb6 HB5 p0a p0b p0c p0d p0l p1a p1b p1c p1d p1l p2a p2b p2c p2d p2l
  obtain ⟨p0a, p0b, p0c, p0d⟩ := p0t
  have p0l : w.heap.size < w6.heap.size := World.block_lt_of_cell? _ _ p0a
  obtain ⟨p1a, p1b, p1c, p1d⟩ := p1t
  have p1l : w.heap.size + 1 < w6.heap.size := World.block_lt_of_cell? _ _ p1a
  obtain ⟨p2a, p2b, p2c, p2d⟩ := p2t
  have p2l : w.heap.size + 1 + 1 < w6.heap.size := World.block_lt_of_cell? _ _ p2a
  go_wp2_with fail
  refine (K5.out _).mono ?_
  rintro e w7 ⟨rfl, hb7⟩
  have hz7 := hb7.size
  have p0t := (At2.mk p0a p0b p0c p0d).below hb7 (by omega)
  have p1t := (At2.mk p1a p1b p1c p1d).below hb7 (by omega)
  have p2t := (At2.mk p2a p2b p2c p2d).below hb7 (by omega)
  have HB7 : Below w.heap.size w w7 := HB6.trans (hb7.mono hq6)
  have hq7 := HB7.size
  clear hb7 HB6 p0a p0b p0c p0d p0l p1a p1b p1c p1d p1l p2a p2b p2c p2d p2l
  obtain ⟨p0a, p0b, p0c, p0d⟩ := p0t
  have p0l : w.heap.size < w7.heap.size := World.block_lt_of_cell? _ _ p0a
  obtain ⟨p1a, p1b, p1c, p1d⟩ := p1t
  have p1l : w.heap.size + 1 < w7.heap.size := World.block_lt_of_cell? _ _ p1a
  obtain ⟨p2a, p2b, p2c, p2d⟩ := p2t
  have p2l : w.heap.size + 1 + 1 < w7.heap.size := World.block_lt_of_cell? _ _ p2a
  go_wp2_with fail
  refine (K6.out _).mono ?_
  rintro e w8 ⟨rfl, hb8⟩
  have hz8 := hb8.size
  simp only [World.size_alloc] at hz8
  have p0t := ((At2.mk p0a p0b p0c p0d).alloc (by omega) _).below hb8 (by simp; omega)
  have p1t := ((At2.mk p1a p1b p1c p1d).alloc (by omega) _).below hb8 (by simp; omega)
  have p2t := ((At2.mk p2a p2b p2c p2d).alloc (by omega) _).below hb8 (by simp; omega)
  have ddt := (At2.new w7 (.int .i64 0) (.int .i64 0) 23).below hb8 (by simp)
  have HB8 : Below w.heap.size w w8 := (HB7.alloc hq7 _).trans (hb8.mono (by simp; omega))
  have hq8 := HB8.size
  clear hb8 HB7 p0a p0b p0c p0d p0l p1a p1b p1c p1d p1l p2a p2b p2c p2d p2l
  obtain ⟨p0a, p0b, p0c, p0d⟩ := p0t
  have p0l : w.heap.size < w8.heap.size := World.block_lt_of_cell? _ _ p0a
  obtain ⟨p1a, p1b, p1c, p1d⟩ := p1t
  have p1l : w.heap.size + 1 < w8.heap.size := World.block_lt_of_cell? _ _ p1a
  obtain ⟨p2a, p2b, p2c, p2d⟩ := p2t
  have p2l : w.heap.size + 1 + 1 < w8.heap.size := World.block_lt_of_cell? _ _ p2a
  obtain ⟨dda, ddb, ddc, ddd⟩ := ddt
  have ddl : w7.heap.size < w8.heap.size := World.block_lt_of_cell? _ _ dda
  go_wp2_with fail
  refine (K7.out _).mono ?_
  rintro e w9 ⟨rfl, hb9⟩
  have hz9 := hb9.size
  simp only [World.size_alloc] at hz9
  have p0t := ((At2.mk p0a p0b p0c p0d).alloc (by omega) _).below hb9 (by simp; omega)
  have p1t := ((At2.mk p1a p1b p1c p1d).alloc (by omega) _).below hb9 (by simp; omega)
  have p2t := ((At2.mk p2a p2b p2c p2d).alloc (by omega) _).below hb9 (by simp; omega)
  have ddt := ((At2.mk dda ddb ddc ddd).alloc (by omega) _).below hb9 (by simp; omega)
  have ppt := (At2.new w8 (.int .i64 p1) (.int .i64 p2) 23).below hb9 (by simp)
  have HB9 : Below w.heap.size w w9 := (HB8.alloc hq8 _).trans (hb9.mono (by simp; omega))
  have hq9 := HB9.size
  clear hb9 HB8 p0a p0b p0c p0d p0l p1a p1b p1c p1d p1l p2a p2b p2c p2d p2l dda ddb ddc ddd ddl
  obtain ⟨p0a, p0b, p0c, p0d⟩ := p0t
  have p0l : w.heap.size < w9.heap.size := World.block_lt_of_cell? _ _ p0a
  obtain ⟨p1a, p1b, p1c, p1d⟩ := p1t
  have p1l : w.heap.size + 1 < w9.heap.size := World.block_lt_of_cell? _ _ p1a
  obtain ⟨p2a, p2b, p2c, p2d⟩ := p2t
  have p2l : w.heap.size + 1 + 1 < w9.heap.size := World.block_lt_of_cell? _ _ p2a
  obtain ⟨dda, ddb, ddc, ddd⟩ := ddt
  have ddl : w7.heap.size < w9.heap.size := World.block_lt_of_cell? _ _ dda
  obtain ⟨ppa, ppb, ppc, ppd⟩ := ppt
  have ppl : w8.heap.size < w9.heap.size := World.block_lt_of_cell? _ _ ppa
  go_wp2
  go_ret
  exact ⟨rfl, (by repeat' (first | exact HB9 | refine Below.setCell ?_ (by first | omega | (simp; done) | (simp; omega)) _ | refine below_drewN ?_ _ | refine Below.alloc ?_ (by first | omega | (simp; done) | (simp; omega)) _))⟩

set_option maxRecDepth 100000 in
set_option maxHeartbeats 1000000 in
theorem order_Paeon (a b c d g h y z p1 p2 q1 q2 : Int) (w : World) (hE : Env w) (hv : (vld a b && vld c d && vld g h) = true)
    (a0 : -9223372036854775808 ≤ a) (a1 : a ≤ 9223372036854775807) (b0 : -9223372036854775808 ≤ b) (b1 : b ≤ 9223372036854775807)
    (c0 : -9223372036854775808 ≤ c) (c1 : c ≤ 9223372036854775807) (d0 : -9223372036854775808 ≤ d) (d1 : d ≤ 9223372036854775807)
    (g0 : -9223372036854775808 ≤ g) (g1 : g ≤ 9223372036854775807) (h0 : -9223372036854775808 ≤ h) (h1 : h ≤ 9223372036854775807)
    (k1 : Gives 22 #[.agg #[.int .i64 a, .int .i64 b], .agg #[.int .i64 c, .int .i64 d]] (.tuple #[.int .i64 1, .int .i64 0]))
    (k2 : Gives 22 #[.agg #[.int .i64 c, .int .i64 d], .agg #[.int .i64 g, .int .i64 h]] (.tuple #[.int .i64 y, .int .i64 0]))
    (k3 : Gives 22 #[.agg #[.int .i64 a, .int .i64 b], .agg #[.int .i64 g, .int .i64 h]] (.tuple #[.int .i64 z, .int .i64 0]))
    (k4 : Gives 22 #[.agg #[.int .i64 c, .int .i64 d], .agg #[.int .i64 a, .int .i64 b]] (.tuple #[.int .i64 (-1), .int .i64 0]))
    (k5 : Gives 16 #[.agg #[.int .i64 a, .int .i64 b], .agg #[.int .i64 c, .int .i64 d]] (.tuple #[.agg #[.int .i64 0, .int .i64 0], .int .i64 3]))
    (k6 : Gives 14 #[.agg #[.int .i64 a, .int .i64 b], .agg #[.int .i64 g, .int .i64 h]] (.tuple #[.agg #[.int .i64 p1, .int .i64 p2], .int .i64 0]))
    (k7 : Gives 14 #[.agg #[.int .i64 c, .int .i64 d], .agg #[.int .i64 g, .int .i64 h]] (.tuple #[.agg #[.int .i64 q1, .int .i64 q2], .int .i64 0]))
    (k8 : Gives 22 #[.agg #[.int .i64 p1, .int .i64 p2], .agg #[.int .i64 q1, .int .i64 q2]] (.tuple #[.int .i64 1, .int .i64 0]))
    (hne : ¬ a = c)  :
    Calls Tryd.prog 7 #[.agg #[.int .i64 a, .int .i64 b], .agg #[.int .i64 c, .int .i64 d], .agg #[.int .i64 g, .int .i64 h]] w fun e w' =>
      e = .returned (.bool true) ∧ Below w.heap.size w w' := by
  have HE := Lib.hid hE
  have HV := Lib.hid hv
  have K1 := Lib.hid k1
  have K2 := Lib.hid k2
  have K3 := Lib.hid k3
  have K4 := Lib.hid k4
  have K5 := Lib.hid k5
  have K6 := Lib.hid k6
  have K7 := Lib.hid k7
  have K8 := Lib.hid k8
  clear hE hv k1 k2 k3 k4 k5 k6 k7 k8
  go_enter Tryd.func7, Tryd.ntmps7
  go_wp2_with fail
  refine (head_any _ (((HE.out.below ((Below.refl _ _).alloc (Nat.le_refl _) _)).below ((Below.refl _ _).alloc (Nat.le_refl _) _)).below ((Below.refl _ _).alloc (Nat.le_refl _) _))).mono ?_
  rintro e w1 ⟨rfl, hb1⟩
  have hz1 := hb1.size
  simp only [World.size_alloc] at hz1
  have T0x : At2 w1 (w.heap.size) (.int .i64 a) (.int .i64 b) := by
    have := (((At2.new w (.int .i64 a) (.int .i64 b) 23).alloc (by first | (simp; done) | (simp; omega)) (.cells #[.int .i64 c, .int .i64 d] 23)).alloc (by first | (simp; done) | (simp; omega)) (.cells #[.int .i64 g, .int .i64 h] 23)).below hb1 (by first | (simp; done) | (simp; omega))
    simpa using this
  have T1x : At2 w1 (w.heap.size + 1) (.int .i64 c) (.int .i64 d) := by
    have := ((At2.new (w.alloc (.cells #[.int .i64 a, .int .i64 b] 23)) (.int .i64 c) (.int .i64 d) 23).alloc (by first | (simp; done) | (simp; omega)) (.cells #[.int .i64 g, .int .i64 h] 23)).below hb1 (by first | (simp; done) | (simp; omega))
    simpa using this
  have T2x : At2 w1 (w.heap.size + 1 + 1) (.int .i64 g) (.int .i64 h) := by
    have := (At2.new ((w.alloc (.cells #[.int .i64 a, .int .i64 b] 23)).alloc (.cells #[.int .i64 c, .int .i64 d] 23)) (.int .i64 g) (.int .i64 h) 23).below hb1 (by first | (simp; done) | (simp; omega))
    simpa using this
  have HB1 : Below w.heap.size w w1 := ((((Below.refl _ _).alloc (by first | (exact Nat.le_refl _) | (simp; done) | (simp; omega)) _).alloc (by first | (exact Nat.le_refl _) | (simp; done) | (simp; omega)) _).alloc (by first | (exact Nat.le_refl _) | (simp; done) | (simp; omega)) _).trans (hb1.mono (by simp; omega))
  have hq1 := HB1.size
  clear hb1
  obtain ⟨p0a, p0b, p0c, p0d⟩ := T0x
  have p0l : w.heap.size < w1.heap.size := World.block_lt_of_cell? _ _ p0a
  obtain ⟨p1a, p1b, p1c, p1d⟩ := T1x
  have p1l : w.heap.size + 1 < w1.heap.size := World.block_lt_of_cell? _ _ p1a
  obtain ⟨p2a, p2b, p2c, p2d⟩ := T2x
  have p2l : w.heap.size + 1 + 1 < w1.heap.size := World.block_lt_of_cell? _ _ p2a
  go_wp2_with fail
  refine (numbers3 a b c d g h true _ HV.out a0 a1 b0 b1 c0 c1 d0 d1 g0 g1 h0 h1 _).mono ?_
  rintro e w2 ⟨rfl, hb2⟩
  have hz2 := hb2.size
  have p0t := (At2.mk p0a p0b p0c p0d).below hb2 (by omega)
  have p1t := (At2.mk p1a p1b p1c p1d).below hb2 (by omega)
  have p2t := (At2.mk p2a p2b p2c p2d).below hb2 (by omega)
  have HB2 : Below w.heap.size w w2 := HB1.trans (hb2.mono hq1)
  have hq2 := HB2.size
  clear hb2 HB1 p0a p0b p0c p0d p0l p1a p1b p1c p1d p1l p2a p2b p2c p2d p2l
  obtain ⟨p0a, p0b, p0c, p0d⟩ := p0t
  have p0l : w.heap.size < w2.heap.size := World.block_lt_of_cell? _ _ p0a
  obtain ⟨p1a, p1b, p1c, p1d⟩ := p1t
  have p1l : w.heap.size + 1 < w2.heap.size := World.block_lt_of_cell? _ _ p1a
  obtain ⟨p2a, p2b, p2c, p2d⟩ := p2t
  have p2l : w.heap.size + 1 + 1 < w2.heap.size := World.block_lt_of_cell? _ _ p2a
  go_wp2_with fail
  refine (K1.out _).mono ?_
  rintro e w3 ⟨rfl, hb3⟩
  have hz3 := hb3.size
  have p0t := (At2.mk p0a p0b p0c p0d).below hb3 (by omega)
  have p1t := (At2.mk p1a p1b p1c p1d).below hb3 (by omega)
  have p2t := (At2.mk p2a p2b p2c p2d).below hb3 (by omega)
  have HB3 : Below w.heap.size w w3 := HB2.trans (hb3.mono hq2)
  have hq3 := HB3.size
  clear hb3 HB2 p0a p0b p0c p0d p0l p1a p1b p1c p1d p1l p2a p2b p2c p2d p2l
  obtain ⟨p0a, p0b, p0c, p0d⟩ := p0t
  have p0l : w.heap.size < w3.heap.size := World.block_lt_of_cell? _ _ p0a
  obtain ⟨p1a, p1b, p1c, p1d⟩ := p1t
  have p1l : w.heap.size + 1 < w3.heap.size := World.block_lt_of_cell? _ _ p1a
  obtain ⟨p2a, p2b, p2c, p2d⟩ := p2t
  have p2l : w.heap.size + 1 + 1 < w3.heap.size := World.block_lt_of_cell? _ _ p2a
  go_wp2_with fail
  refine (K2.out _).mono ?_
  rintro e w4 ⟨rfl, hb4⟩
  have hz4 := hb4.size
  have p0t := (At2.mk p0a p0b p0c p0d).below hb4 (by omega)
  have p1t := (At2.mk p1a p1b p1c p1d).below hb4 (by omega)
  have p2t := (At2.mk p2a p2b p2c p2d).below hb4 (by omega)
  have HB4 : Below w.heap.size w w4 := HB3.trans (hb4.mono hq3)
  have hq4 := HB4.size
  clear hb4 HB3 p0a p0b p0c p0d p0l p1a p1b p1c p1d p1l p2a p2b p2c p2d p2l
  obtain ⟨p0a, p0b, p0c, p0d⟩ := p0t
  have p0l : w.heap.size < w4.heap.size := World.block_lt_of_cell? _ _ p0a
  obtain ⟨p1a, p1b, p1c, p1d⟩ := p1t
  have p1l : w.heap.size + 1 < w4.heap.size := World.block_lt_of_cell? _ _ p1a
  obtain ⟨p2a, p2b, p2c, p2d⟩ := p2t
  have p2l : w.heap.size + 1 + 1 < w4.heap.size := World.block_lt_of_cell? _ _ p2a
  go_wp2_with fail
  refine (K3.out _).mono ?_
  rintro e w5 ⟨rfl, hb5⟩
  have hz5 := hb5.size
  have p0t := (At2.mk p0a p0b p0c p0d).below hb5 (by omega)
  have p1t := (At2.mk p1a p1b p1c p1d).below hb5 (by omega)
  have p2t := (At2.mk p2a p2b p2c p2d).below hb5 (by omega)
  have HB5 : Below w.heap.size w w5 := HB4.trans (hb5.mono hq4)
  have hq5 := HB5.size
  clear hb5 HB4 p0a p0b p0c p0d p0l p1a p1b p1c p1d p1l p2a p2b p2c p2d p2l
  obtain ⟨p0a, p0b, p0c, p0d⟩ := p0t
  have p0l : w.heap.size < w5.heap.size := World.block_lt_of_cell? _ _ p0a
  obtain ⟨p1a, p1b, p1c, p1d⟩ := p1t
  have p1l : w.heap.size + 1 < w5.heap.size := World.block_lt_of_cell? _ _ p1a
  obtain ⟨p2a, p2b, p2c, p2d⟩ := p2t
  have p2l : w.heap.size + 1 + 1 < w5.heap.size := World.block_lt_of_cell? _ _ p2a
  go_wp2_with fail
  refine (K4.out _).mono ?_
  rintro e w6 ⟨rfl, hb6⟩
  have hz6 := hb6.size
  have p0t := (At2.mk p0a p0b p0c p0d).below hb6 (by omega)
  have p1t := (At2.mk p1a p1b p1c p1d).below hb6 (by omega)
  have p2t := (At2.mk p2a p2b p2c p2d).below hb6 (by omega)
  have HB6 : Below w.heap.size w w6 := HB5.trans (hb6.mono hq5)
  have hq6 := HB6.size
  clear hb6 HB5 p0a p0b p0c p0d p0l p1a p1b p1c p1d p1l p2a p2b p2c p2d p2l
  obtain ⟨p0a, p0b, p0c, p0d⟩ := p0t
  have p0l : w.heap.size < w6.heap.size := World.block_lt_of_cell? _ _ p0a
  obtain ⟨p1a, p1b, p1c, p1d⟩ := p1t
  have p1l : w.heap.size + 1 < w6.heap.size := World.block_lt_of_cell? _ _ p1a
  obtain ⟨p2a, p2b, p2c, p2d⟩ := p2t
  have p2l : w.heap.size + 1 + 1 < w6.heap.size := World.block_lt_of_cell? _ _ p2a
  go_wp2_with fail
  refine (K5.out _).mono ?_
  rintro e w7 ⟨rfl, hb7⟩
  have hz7 := hb7.size
  have p0t := (At2.mk p0a p0b p0c p0d).below hb7 (by omega)
  have p1t := (At2.mk p1a p1b p1c p1d).below hb7 (by omega)
  have p2t := (At2.mk p2a p2b p2c p2d).below hb7 (by omega)
  have HB7 : Below w.heap.size w w7 := HB6.trans (hb7.mono hq6)
  have hq7 := HB7.size
  clear hb7 HB6 p0a p0b p0c p0d p0l p1a p1b p1c p1d p1l p2a p2b p2c p2d p2l
  obtain ⟨p0a, p0b, p0c, p0d⟩ := p0t
  have p0l : w.heap.size < w7.heap.size := World.block_lt_of_cell? _ _ p0a
  obtain ⟨p1a, p1b, p1c, p1d⟩ := p1t
  have p1l : w.heap.size + 1 < w7.heap.size := World.block_lt_of_cell? _ _ p1a
  obtain ⟨p2a, p2b, p2c, p2d⟩ := p2t
  have p2l : w.heap.size + 1 + 1 < w7.heap.size := World.block_lt_of_cell? _ _ p2a
  go_wp2_with fail
  refine (K6.out _).mono ?_
  rintro e w8 ⟨rfl, hb8⟩
  have hz8 := hb8.size
  simp only [World.size_alloc] at hz8
  have p0t := ((At2.mk p0a p0b p0c p0d).alloc (by omega) _).below hb8 (by simp; omega)
  have p1t := ((At2.mk p1a p1b p1c p1d).alloc (by omega) _).below hb8 (by simp; omega)
  have p2t := ((At2.mk p2a p2b p2c p2d).alloc (by omega) _).below hb8 (by simp; omega)
  have ddt := (At2.new w7 (.int .i64 0) (.int .i64 0) 23).below hb8 (by simp)
  have HB8 : Below w.heap.size w w8 := (HB7.alloc hq7 _).trans (hb8.mono (by simp; omega))
  have hq8 := HB8.size
  clear hb8 HB7 p0a p0b p0c p0d p0l p1a p1b p1c p1d p1l p2a p2b p2c p2d p2l
  obtain ⟨p0a, p0b, p0c, p0d⟩ := p0t
  have p0l : w.heap.size < w8.heap.size := World.block_lt_of_cell? _ _ p0a
  obtain ⟨p1a, p1b, p1c, p1d⟩ := p1t
  have p1l : w.heap.size + 1 < w8.heap.size := World.block_lt_of_cell? _ _ p1a
  obtain ⟨p2a, p2b, p2c, p2d⟩ := p2t
  have p2l : w.heap.size + 1 + 1 < w8.heap.size := World.block_lt_of_cell? _ _ p2a
  obtain ⟨dda, ddb, ddc, ddd⟩ := ddt
  have ddl : w7.heap.size < w8.heap.size := World.block_lt_of_cell? _ _ dda
  go_wp2_with fail
  refine (K7.out _).mono ?_
  rintro e w9 ⟨rfl, hb9⟩
  have hz9 := hb9.size
  simp only [World.size_alloc] at hz9
  have p0t := ((At2.mk p0a p0b p0c p0d).alloc (by omega) _).below hb9 (by simp; omega)
  have p1t := ((At2.mk p1a p1b p1c p1d).alloc (by omega) _).below hb9 (by simp; omega)
  have p2t := ((At2.mk p2a p2b p2c p2d).alloc (by omega) _).below hb9 (by simp; omega)
  have ddt := ((At2.mk dda ddb ddc ddd).alloc (by omega) _).below hb9 (by simp; omega)
  have ppt := (At2.new w8 (.int .i64 p1) (.int .i64 p2) 23).below hb9 (by simp)
  have HB9 : Below w.heap.size w w9 := (HB8.alloc hq8 _).trans (hb9.mono (by simp; omega))
  have hq9 := HB9.size
  clear hb9 HB8 p0a p0b p0c p0d p0l p1a p1b p1c p1d p1l p2a p2b p2c p2d p2l dda ddb ddc ddd ddl
  obtain ⟨p0a, p0b, p0c, p0d⟩ := p0t
  have p0l : w.heap.size < w9.heap.size := World.block_lt_of_cell? _ _ p0a
  obtain ⟨p1a, p1b, p1c, p1d⟩ := p1t
  have p1l : w.heap.size + 1 < w9.heap.size := World.block_lt_of_cell? _ _ p1a
  obtain ⟨p2a, p2b, p2c, p2d⟩ := p2t
  have p2l : w.heap.size + 1 + 1 < w9.heap.size := World.block_lt_of_cell? _ _ p2a
  obtain ⟨dda, ddb, ddc, ddd⟩ := ddt
  have ddl : w7.heap.size < w9.heap.size := World.block_lt_of_cell? _ _ dda
  obtain ⟨ppa, ppb, ppc, ppd⟩ := ppt
  have ppl : w8.heap.size < w9.heap.size := World.block_lt_of_cell? _ _ ppa
  go_wp2_with fail
  refine (K8.out _).mono ?_
  rintro e w10 ⟨rfl, hb10⟩
  have hz10 := hb10.size
  simp only [World.size_alloc] at hz10
  have p0t := ((At2.mk p0a p0b p0c p0d).alloc (by omega) _).below hb10 (by simp; omega)
  have p1t := ((At2.mk p1a p1b p1c p1d).alloc (by omega) _).below hb10 (by simp; omega)
  have p2t := ((At2.mk p2a p2b p2c p2d).alloc (by omega) _).below hb10 (by simp; omega)
  have ddt := ((At2.mk dda ddb ddc ddd).alloc (by omega) _).below hb10 (by simp; omega)
  have ppt := ((At2.mk ppa ppb ppc ppd).alloc (by omega) _).below hb10 (by simp; omega)
  have qqt := (At2.new w9 (.int .i64 q1) (.int .i64 q2) 23).below hb10 (by simp)
  have HB10 : Below w.heap.size w w10 := (HB9.alloc hq9 _).trans (hb10.mono (by simp; omega))
  have hq10 := HB10.size
  clear hb10 HB9 p0a p0b p0c p0d p0l p1a p1b p1c p1d p1l p2a p2b p2c p2d p2l dda ddb ddc ddd ddl ppa ppb ppc ppd ppl
  obtain ⟨p0a, p0b, p0c, p0d⟩ := p0t
  have p0l : w.heap.size < w10.heap.size := World.block_lt_of_cell? _ _ p0a
  obtain ⟨p1a, p1b, p1c, p1d⟩ := p1t
  have p1l : w.heap.size + 1 < w10.heap.size := World.block_lt_of_cell? _ _ p1a
  obtain ⟨p2a, p2b, p2c, p2d⟩ := p2t
  have p2l : w.heap.size + 1 + 1 < w10.heap.size := World.block_lt_of_cell? _ _ p2a
  obtain ⟨dda, ddb, ddc, ddd⟩ := ddt
  have ddl : w7.heap.size < w10.heap.size := World.block_lt_of_cell? _ _ dda
  obtain ⟨ppa, ppb, ppc, ppd⟩ := ppt
  have ppl : w8.heap.size < w10.heap.size := World.block_lt_of_cell? _ _ ppa
  obtain ⟨qqa, qqb, qqc, qqd⟩ := qqt
  have qql : w9.heap.size < w10.heap.size := World.block_lt_of_cell? _ _ qqa
  go_wp2
  go_ret
  exact ⟨rfl, (by repeat' (first | exact HB10 | refine Below.setCell ?_ (by first | omega | (simp; done) | (simp; omega)) _ | refine below_drewN ?_ _ | refine Below.alloc ?_ (by first | omega | (simp; done) | (simp; omega)) _))⟩

set_option maxRecDepth 100000 in
set_option maxHeartbeats 1000000 in
theorem order_Paeks (a b d g h y z p1 p2 ke q1 q2 le : Int) (w : World) (hE : Env w) (hv : (vld a b && vld a d && vld g h) = true)
    (a0 : -9223372036854775808 ≤ a) (a1 : a ≤ 9223372036854775807) (b0 : -9223372036854775808 ≤ b) (b1 : b ≤ 9223372036854775807)
    (d0 : -9223372036854775808 ≤ d) (d1 : d ≤ 9223372036854775807)
    (g0 : -9223372036854775808 ≤ g) (g1 : g ≤ 9223372036854775807) (h0 : -9223372036854775808 ≤ h) (h1 : h ≤ 9223372036854775807)
    (k1 : Gives 22 #[.agg #[.int .i64 a, .int .i64 b], .agg #[.int .i64 a, .int .i64 d]] (.tuple #[.int .i64 1, .int .i64 0]))
    (k2 : Gives 22 #[.agg #[.int .i64 a, .int .i64 d], .agg #[.int .i64 g, .int .i64 h]] (.tuple #[.int .i64 y, .int .i64 0]))
    (k3 : Gives 22 #[.agg #[.int .i64 a, .int .i64 b], .agg #[.int .i64 g, .int .i64 h]] (.tuple #[.int .i64 z, .int .i64 0]))
    (k4 : Gives 22 #[.agg #[.int .i64 a, .int .i64 d], .agg #[.int .i64 a, .int .i64 b]] (.tuple #[.int .i64 (-1), .int .i64 0]))
    (k5 : Gives 16 #[.agg #[.int .i64 a, .int .i64 b], .agg #[.int .i64 a, .int .i64 d]] (.tuple #[.agg #[.int .i64 0, .int .i64 0], .int .i64 3]))
    (k6 : Gives 14 #[.agg #[.int .i64 a, .int .i64 b], .agg #[.int .i64 g, .int .i64 h]] (.tuple #[.agg #[.int .i64 p1, .int .i64 p2], .int .i64 ke]))
    (k7 : Gives 14 #[.agg #[.int .i64 a, .int .i64 d], .agg #[.int .i64 g, .int .i64 h]] (.tuple #[.agg #[.int .i64 q1, .int .i64 q2], .int .i64 le]))
    (hne : ¬ b = d)  (hk : ¬ ke = 0) :
    Calls Tryd.prog 7 #[.agg #[.int .i64 a, .int .i64 b], .agg #[.int .i64 a, .int .i64 d], .agg #[.int .i64 g, .int .i64 h]] w fun e w' =>
      e = .returned (.bool true) ∧ Below w.heap.size w w' := by
  have HE := Lib.hid hE
  have HV := Lib.hid hv
  have K1 := Lib.hid k1
  have K2 := Lib.hid k2
  have K3 := Lib.hid k3
  have K4 := Lib.hid k4
  have K5 := Lib.hid k5
  have K6 := Lib.hid k6
  have K7 := Lib.hid k7
  clear hE hv k1 k2 k3 k4 k5 k6 k7
  have f5 : (ke != 0) = true := by simp; exact hk
  go_enter Tryd.func7, Tryd.ntmps7
  go_wp2_with fail
  refine (head_any _ (((HE.out.below ((Below.refl _ _).alloc (Nat.le_refl _) _)).below ((Below.refl _ _).alloc (Nat.le_refl _) _)).below ((Below.refl _ _).alloc (Nat.le_refl _) _))).mono ?_
  rintro e w1 ⟨rfl, hb1⟩
  have hz1 := hb1.size
  simp only [World.size_alloc] at hz1
  have T0x : At2 w1 (w.heap.size) (.int .i64 a) (.int .i64 b) := by
    have := (((At2.new w (.int .i64 a) (.int .i64 b) 23).alloc (by first | (simp; done) | (simp; omega)) (.cells #[.int .i64 a, .int .i64 d] 23)).alloc (by first | (simp; done) | (simp; omega)) (.cells #[.int .i64 g, .int .i64 h] 23)).below hb1 (by first | (simp; done) | (simp; omega))
    simpa using this
  have T1x : At2 w1 (w.heap.size + 1) (.int .i64 a) (.int .i64 d) := by
    have := ((At2.new (w.alloc (.cells #[.int .i64 a, .int .i64 b] 23)) (.int .i64 a) (.int .i64 d) 23).alloc (by first | (simp; done) | (simp; omega)) (.cells #[.int .i64 g, .int .i64 h] 23)).below hb1 (by first | (simp; done) | (simp; omega))
    simpa using this
  have T2x : At2 w1 (w.heap.size + 1 + 1) (.int .i64 g) (.int .i64 h) := by
    have := (At2.new ((w.alloc (.cells #[.int .i64 a, .int .i64 b] 23)).alloc (.cells #[.int .i64 a, .int .i64 d] 23)) (.int .i64 g) (.int .i64 h) 23).below hb1 (by first | (simp; done) | (simp; omega))
    simpa using this
  have HB1 : Below w.heap.size w w1 := ((((Below.refl _ _).alloc (by first | (exact Nat.le_refl _) | (simp; done) | (simp; omega)) _).alloc (by first | (exact Nat.le_refl _) | (simp; done) | (simp; omega)) _).alloc (by first | (exact Nat.le_refl _) | (simp; done) | (simp; omega)) _).trans (hb1.mono (by simp; omega))
  have hq1 := HB1.size
  clear hb1
  obtain ⟨p0a, p0b, p0c, p0d⟩ := T0x
  have p0l : w.heap.size < w1.heap.size := World.block_lt_of_cell? _ _ p0a
  obtain ⟨p1a, p1b, p1c, p1d⟩ := T1x
  have p1l : w.heap.size + 1 < w1.heap.size := World.block_lt_of_cell? _ _ p1a
  obtain ⟨p2a, p2b, p2c, p2d⟩ := T2x
  have p2l : w.heap.size + 1 + 1 < w1.heap.size := World.block_lt_of_cell? _ _ p2a
  go_wp2_with fail
  refine (numbers3 a b a d g h true _ HV.out a0 a1 b0 b1 a0 a1 d0 d1 g0 g1 h0 h1 _).mono ?_
  rintro e w2 ⟨rfl, hb2⟩
  have hz2 := hb2.size
  have p0t := (At2.mk p0a p0b p0c p0d).below hb2 (by omega)
  have p1t := (At2.mk p1a p1b p1c p1d).below hb2 (by omega)
  have p2t := (At2.mk p2a p2b p2c p2d).below hb2 (by omega)
  have HB2 : Below w.heap.size w w2 := HB1.trans (hb2.mono hq1)
  have hq2 := HB2.size
  clear hb2 HB1 p0a p0b p0c p0d p0l p1a p1b p1c p1d p1l p2a p2b p2c p2d p2l
  obtain ⟨p0a, p0b, p0c, p0d⟩ := p0t
  have p0l : w.heap.size < w2.heap.size := World.block_lt_of_cell? _ _ p0a
  obtain ⟨p1a, p1b, p1c, p1d⟩ := p1t
  have p1l : w.heap.size + 1 < w2.heap.size := World.block_lt_of_cell? _ _ p1a
  obtain ⟨p2a, p2b, p2c, p2d⟩ := p2t
  have p2l : w.heap.size + 1 + 1 < w2.heap.size := World.block_lt_of_cell? _ _ p2a
  go_wp2_with fail
  refine (K1.out _).mono ?_
  rintro e w3 ⟨rfl, hb3⟩
  have hz3 := hb3.size
  have p0t := (At2.mk p0a p0b p0c p0d).below hb3 (by omega)
  have p1t := (At2.mk p1a p1b p1c p1d).below hb3 (by omega)
  have p2t := (At2.mk p2a p2b p2c p2d).below hb3 (by omega)
  have HB3 : Below w.heap.size w w3 := HB2.trans (hb3.mono hq2)
  have hq3 := HB3.size
  clear hb3 HB2 p0a p0b p0c p0d p0l p1a p1b p1c p1d p1l p2a p2b p2c p2d p2l
  obtain ⟨p0a, p0b, p0c, p0d⟩ := p0t
  have p0l : w.heap.size < w3.heap.size := World.block_lt_of_cell? _ _ p0a
  obtain ⟨p1a, p1b, p1c, p1d⟩ := p1t
  have p1l : w.heap.size + 1 < w3.heap.size := World.block_lt_of_cell? _ _ p1a
  obtain ⟨p2a, p2b, p2c, p2d⟩ := p2t
  have p2l : w.heap.size + 1 + 1 < w3.heap.size := World.block_lt_of_cell? _ _ p2a
  go_wp2_with fail
  refine (K2.out _).mono ?_
  rintro e w4 ⟨rfl, hb4⟩
  have hz4 := hb4.size
  have p0t := (At2.mk p0a p0b p0c p0d).below hb4 (by omega)
  have p1t := (At2.mk p1a p1b p1c p1d).below hb4 (by omega)
  have p2t := (At2.mk p2a p2b p2c p2d).below hb4 (by omega)
  have HB4 : Below w.heap.size w w4 := HB3.trans (hb4.mono hq3)
  have hq4 := HB4.size
  clear hb4 HB3 p0a p0b p0c p0d p0l p1a p1b p1c p1d p1l p2a p2b p2c p2d p2l
  obtain ⟨p0a, p0b, p0c, p0d⟩ := p0t
  have p0l : w.heap.size < w4.heap.size := World.block_lt_of_cell? _ _ p0a
  obtain ⟨p1a, p1b, p1c, p1d⟩ := p1t
  have p1l : w.heap.size + 1 < w4.heap.size := World.block_lt_of_cell? _ _ p1a
  obtain ⟨p2a, p2b, p2c, p2d⟩ := p2t
  have p2l : w.heap.size + 1 + 1 < w4.heap.size := World.block_lt_of_cell? _ _ p2a
  go_wp2_with fail
  refine (K3.out _).mono ?_
  rintro e w5 ⟨rfl, hb5⟩
  have hz5 := hb5.size
  have p0t := (At2.mk p0a p0b p0c p0d).below hb5 (by omega)
  have p1t := (At2.mk p1a p1b p1c p1d).below hb5 (by omega)
  have p2t := (At2.mk p2a p2b p2c p2d).below hb5 (by omega)
  have HB5 : Below w.heap.size w w5 := HB4.trans (hb5.mono hq4)
  have hq5 := HB5.size
  clear hb5 HB4 p0a p0b p0c p0d p0l p1a p1b p1c p1d p1l p2a p2b p2c p2d p2l
  obtain ⟨p0a, p0b, p0c, p0d⟩ := p0t
  have p0l : w.heap.size < w5.heap.size := World.block_lt_of_cell? _ _ p0a
  obtain ⟨p1a, p1b, p1c, p1d⟩ := p1t
  have p1l : w.heap.size + 1 < w5.heap.size := World.block_lt_of_cell? _ _ p1a
  obtain ⟨p2a, p2b, p2c, p2d⟩ := p2t
  have p2l : w.heap.size + 1 + 1 < w5.heap.size := World.block_lt_of_cell? _ _ p2a
  go_wp2_with fail
  refine (K4.out _).mono ?_
  rintro e w6 ⟨rfl, hb6⟩
  have hz6 := hb6.size
  have p0t := (At2.mk p0a p0b p0c p0d).below hb6 (by omega)
  have p1t := (At2.mk p1a p1b p1c p1d).below hb6 (by omega)
  have p2t := (At2.mk p2a p2b p2c p2d).below hb6 (by omega)
  have HB6 : Below w.heap.size w w6 := HB5.trans (hb6.mono hq5)
  have hq6 := HB6.size
  clear hb6 HB5 p0a p0b p0c p0d p0l p1a p1b p1c p1d p1l p2a p2b p2c p2d p2l
  obtain ⟨p0a, p0b, p0c, p0d⟩ := p0t
  have p0l : w.heap.size < w6.heap.size := World.block_lt_of_cell? _ _ p0a
  obtain ⟨p1a, p1b, p1c, p1d⟩ := p1t
  have p1l : w.heap.size + 1 < w6.heap.size := World.block_lt_of_cell? _ _ p1a
  obtain ⟨p2a, p2b, p2c, p2d⟩ := p2t
  have p2l : w.heap.size + 1 + 1 < w6.heap.size := World.block_lt_of_cell? _ _ p2a
  go_wp2_with fail
  refine (K5.out _).mono ?_
  rintro e w7 ⟨rfl, hb7⟩
  have hz7 := hb7.size
  have p0t := (At2.mk p0a p0b p0c p0d).below hb7 (by omega)
  have p1t := (At2.mk p1a p1b p1c p1d).below hb7 (by omega)
  have p2t := (At2.mk p2a p2b p2c p2d).below hb7 (by omega)
  have HB7 : Below w.heap.size w w7 := HB6.trans (hb7.mono hq6)
  have hq7 := HB7.size
  clear hb7 HB6 p0a p0b p0c p0d p0l p1a p1b p1c p1d p1l p2a p2b p2c p2d p2l
  obtain ⟨p0a, p0b, p0c, p0d⟩ := p0t
  have p0l : w.heap.size < w7.heap.size := World.block_lt_of_cell? _ _ p0a
  obtain ⟨p1a, p1b, p1c, p1d⟩ := p1t
  have p1l : w.heap.size + 1 < w7.heap.size := World.block_lt_of_cell? _ _ p1a
  obtain ⟨p2a, p2b, p2c, p2d⟩ := p2t
  have p2l : w.heap.size + 1 + 1 < w7.heap.size := World.block_lt_of_cell? _ _ p2a
  go_wp2_with fail
  refine (K6.out _).mono ?_
  rintro e w8 ⟨rfl, hb8⟩
  have hz8 := hb8.size
  simp only [World.size_alloc] at hz8
  have p0t := ((At2.mk p0a p0b p0c p0d).alloc (by omega) _).below hb8 (by simp; omega)
  have p1t := ((At2.mk p1a p1b p1c p1d).alloc (by omega) _).below hb8 (by simp; omega)
  have p2t := ((At2.mk p2a p2b p2c p2d).alloc (by omega) _).below hb8 (by simp; omega)
  have ddt := (At2.new w7 (.int .i64 0) (.int .i64 0) 23).below hb8 (by simp)
  have HB8 : Below w.heap.size w w8 := (HB7.alloc hq7 _).trans (hb8.mono (by simp; omega))
  have hq8 := HB8.size
  clear hb8 HB7 p0a p0b p0c p0d p0l p1a p1b p1c p1d p1l p2a p2b p2c p2d p2l
  obtain ⟨p0a, p0b, p0c, p0d⟩ := p0t
  have p0l : w.heap.size < w8.heap.size := World.block_lt_of_cell? _ _ p0a
  obtain ⟨p1a, p1b, p1c, p1d⟩ := p1t
  have p1l : w.heap.size + 1 < w8.heap.size := World.block_lt_of_cell? _ _ p1a
  obtain ⟨p2a, p2b, p2c, p2d⟩ := p2t
  have p2l : w.heap.size + 1 + 1 < w8.heap.size := World.block_lt_of_cell? _ _ p2a
  obtain ⟨dda, ddb, ddc, ddd⟩ := ddt
  have ddl : w7.heap.size < w8.heap.size := World.block_lt_of_cell? _ _ dda
  go_wp2_with fail
  refine (K7.out _).mono ?_
  rintro e w9 ⟨rfl, hb9⟩
  have hz9 := hb9.size
  simp only [World.size_alloc] at hz9
  have p0t := ((At2.mk p0a p0b p0c p0d).alloc (by omega) _).below hb9 (by simp; omega)
  have p1t := ((At2.mk p1a p1b p1c p1d).alloc (by omega) _).below hb9 (by simp; omega)
  have p2t := ((At2.mk p2a p2b p2c p2d).alloc (by omega) _).below hb9 (by simp; omega)
  have ddt := ((At2.mk dda ddb ddc ddd).alloc (by omega) _).below hb9 (by simp; omega)
  have ppt := (At2.new w8 (.int .i64 p1) (.int .i64 p2) 23).below hb9 (by simp)
  have HB9 : Below w.heap.size w w9 := (HB8.alloc hq8 _).trans (hb9.mono (by simp; omega))
  have hq9 := HB9.size
  clear hb9 HB8 p0a p0b p0c p0d p0l p1a p1b p1c p1d p1l p2a p2b p2c p2d p2l dda ddb ddc ddd ddl
  obtain ⟨p0a, p0b, p0c, p0d⟩ := p0t
  have p0l : w.heap.size < w9.heap.size := World.block_lt_of_cell? _ _ p0a
  obtain ⟨p1a, p1b, p1c, p1d⟩ := p1t
  have p1l : w.heap.size + 1 < w9.heap.size := World.block_lt_of_cell? _ _ p1a
  obtain ⟨p2a, p2b, p2c, p2d⟩ := p2t
  have p2l : w.heap.size + 1 + 1 < w9.heap.size := World.block_lt_of_cell? _ _ p2a
  obtain ⟨dda, ddb, ddc, ddd⟩ := ddt
  have ddl : w7.heap.size < w9.heap.size := World.block_lt_of_cell? _ _ dda
  obtain ⟨ppa, ppb, ppc, ppd⟩ := ppt
  have ppl : w8.heap.size < w9.heap.size := World.block_lt_of_cell? _ _ ppa
  go_wp2
  go_ret
  exact ⟨rfl, (by repeat' (first | exact HB9 | refine Below.setCell ?_ (by first | omega | (simp; done) | (simp; omega)) _ | refine below_drewN ?_ _ | refine Below.alloc ?_ (by first | omega | (simp; done) | (simp; omega)) _))⟩

set_option maxRecDepth 100000 in
set_option maxHeartbeats 1000000 in
theorem order_Paels (a b d g h y z p1 p2 q1 q2 le : Int) (w : World) (hE : Env w) (hv : (vld a b && vld a d && vld g h) = true)
    (a0 : -9223372036854775808 ≤ a) (a1 : a ≤ 9223372036854775807) (b0 : -9223372036854775808 ≤ b) (b1 : b ≤ 9223372036854775807)
    (d0 : -9223372036854775808 ≤ d) (d1 : d ≤ 9223372036854775807)
    (g0 : -9223372036854775808 ≤ g) (g1 : g ≤ 9223372036854775807) (h0 : -9223372036854775808 ≤ h) (h1 : h ≤ 9223372036854775807)
    (k1 : Gives 22 #[.agg #[.int .i64 a, .int .i64 b], .agg #[.int .i64 a, .int .i64 d]] (.tuple #[.int .i64 1, .int .i64 0]))
    (k2 : Gives 22 #[.agg #[.int .i64 a, .int .i64 d], .agg #[.int .i64 g, .int .i64 h]] (.tuple #[.int .i64 y, .int .i64 0]))
    (k3 : Gives 22 #[.agg #[.int .i64 a, .int .i64 b], .agg #[.int .i64 g, .int .i64 h]] (.tuple #[.int .i64 z, .int .i64 0]))
    (k4 : Gives 22 #[.agg #[.int .i64 a, .int .i64 d], .agg #[.int .i64 a, .int .i64 b]] (.tuple #[.int .i64 (-1), .int .i64 0]))
    (k5 : Gives 16 #[.agg #[.int .i64 a, .int .i64 b], .agg #[.int .i64 a, .int .i64 d]] (.tuple #[.agg #[.int .i64 0, .int .i64 0], .int .i64 3]))
    (k6 : Gives 14 #[.agg #[.int .i64 a, .int .i64 b], .agg #[.int .i64 g, .int .i64 h]] (.tuple #[.agg #[.int .i64 p1, .int .i64 p2], .int .i64 0]))
    (k7 : Gives 14 #[.agg #[.int .i64 a, .int .i64 d], .agg #[.int .i64 g, .int .i64 h]] (.tuple #[.agg #[.int .i64 q1, .int .i64 q2], .int .i64 le]))
    (hne : ¬ b = d)  (hl : ¬ le = 0) :
    Calls Tryd.prog 7 #[.agg #[.int .i64 a, .int .i64 b], .agg #[.int .i64 a, .int .i64 d], .agg #[.int .i64 g, .int .i64 h]] w fun e w' =>
      e = .returned (.bool true) ∧ Below w.heap.size w w' := by
  have HE := Lib.hid hE
  have HV := Lib.hid hv
  have K1 := Lib.hid k1
  have K2 := Lib.hid k2
  have K3 := Lib.hid k3
  have K4 := Lib.hid k4
  have K5 := Lib.hid k5
  have K6 := Lib.hid k6
  have K7 := Lib.hid k7
  clear hE hv k1 k2 k3 k4 k5 k6 k7
  have f5 : (le != 0) = true := by simp; exact hl
  go_enter Tryd.func7, Tryd.ntmps7
  go_wp2_with fail
  refine (head_any _ (((HE.out.below ((Below.refl _ _).alloc (Nat.le_refl _) _)).below ((Below.refl _ _).alloc (Nat.le_refl _) _)).below ((Below.refl _ _).alloc (Nat.le_refl _) _))).mono ?_
  rintro e w1 ⟨rfl, hb1⟩
  have hz1 := hb1.size
  simp only [World.size_alloc] at hz1
  have T0x : At2 w1 (w.heap.size) (.int .i64 a) (.int .i64 b) := by
    have := (((At2.new w (.int .i64 a) (.int .i64 b) 23).alloc (by first | (simp; done) | (simp; omega)) (.cells #[.int .i64 a, .int .i64 d] 23)).alloc (by first | (simp; done) | (simp; omega)) (.cells #[.int .i64 g, .int .i64 h] 23)).below hb1 (by first | (simp; done) | (simp; omega))
    simpa using this
  have T1x : At2 w1 (w.heap.size + 1) (.int .i64 a) (.int .i64 d) := by
    have := ((At2.new (w.alloc (.cells #[.int .i64 a, .int .i64 b] 23)) (.int .i64 a) (.int .i64 d) 23).alloc (by first | (simp; done) | (simp; omega)) (.cells #[.int .i64 g, .int .i64 h] 23)).below hb1 (by first | (simp; done) | (simp; omega))
    simpa using this
  have T2x : At2 w1 (w.heap.size + 1 + 1) (.int .i64 g) (.int .i64 h) := by
    have := (At2.new ((w.alloc (.cells #[.int .i64 a, .int .i64 b] 23)).alloc (.cells #[.int .i64 a, .int .i64 d] 23)) (.int .i64 g) (.int .i64 h) 23).below hb1 (by first | (simp; done) | (simp; omega))
    simpa using this
  have HB1 : Below w.heap.size w w1 := ((((Below.refl _ _).alloc (by first | (exact Nat.le_refl _) | (simp; done) | (simp; omega)) _).alloc (by first | (exact Nat.le_refl _) | (simp; done) | (simp; omega)) _).alloc (by first | (exact Nat.le_refl _) | (simp; done) | (simp; omega)) _).trans (hb1.mono (by simp; omega))
  have hq1 := HB1.size
  clear hb1
  obtain ⟨p0a, p0b, p0c, p0d⟩ := T0x
  have p0l : w.heap.size < w1.heap.size := World.block_lt_of_cell? _ _ p0a
  obtain ⟨p1a, p1b, p1c, p1d⟩ := T1x
  have p1l : w.heap.size + 1 < w1.heap.size := World.block_lt_of_cell? _ _ p1a
  obtain ⟨p2a, p2b, p2c, p2d⟩ := T2x
  have p2l : w.heap.size + 1 + 1 < w1.heap.size := World.block_lt_of_cell? _ _ p2a
  go_wp2_with fail
  refine (numbers3 a b a d g h true _ HV.out a0 a1 b0 b1 a0 a1 d0 d1 g0 g1 h0 h1 _).mono ?_
  rintro e w2 ⟨rfl, hb2⟩
  have hz2 := hb2.size
  have p0t := (At2.mk p0a p0b p0c p0d).below hb2 (by omega)
  have p1t := (At2.mk p1a p1b p1c p1d).below hb2 (by omega)
  have p2t := (At2.mk p2a p2b p2c p2d).below hb2 (by omega)
  have HB2 : Below w.heap.size w w2 := HB1.trans (hb2.mono hq1)
  have hq2 := HB2.size
  clear hb2 HB1 p0a p0b p0c p0d p0l p1a p1b p1c p1d p1l p2a p2b p2c p2d p2l
  obtain ⟨p0a, p0b, p0c, p0d⟩ := p0t
  have p0l : w.heap.size < w2.heap.size := World.block_lt_of_cell? _ _ p0a
  obtain ⟨p1a, p1b, p1c, p1d⟩ := p1t
  have p1l : w.heap.size + 1 < w2.heap.size := World.block_lt_of_cell? _ _ p1a
  obtain ⟨p2a, p2b, p2c, p2d⟩ := p2t
  have p2l : w.heap.size + 1 + 1 < w2.heap.size := World.block_lt_of_cell? _ _ p2a
  go_wp2_with fail
  refine (K1.out _).mono ?_
  rintro e w3 ⟨rfl, hb3⟩
  have hz3 := hb3.size
  have p0t := (At2.mk p0a p0b p0c p0d).below hb3 (by omega)
  have p1t := (At2.mk p1a p1b p1c p1d).below hb3 (by omega)
  have p2t := (At2.mk p2a p2b p2c p2d).below hb3 (by omega)
  have HB3 : Below w.heap.size w w3 := HB2.trans (hb3.mono hq2)
  have hq3 := HB3.size
  clear hb3 HB2 p0a p0b p0c p0d p0l p1a p1b p1c p1d p1l p2a p2b p2c p2d p2l
  obtain ⟨p0a, p0b, p0c, p0d⟩ := p0t
  have p0l : w.heap.size < w3.heap.size := World.block_lt_of_cell? _ _ p0a
  obtain ⟨p1a, p1b, p1c, p1d⟩ := p1t
  have p1l : w.heap.size + 1 < w3.heap.size := World.block_lt_of_cell? _ _ p1a
  obtain ⟨p2a, p2b, p2c, p2d⟩ := p2t
  have p2l : w.heap.size + 1 + 1 < w3.heap.size := World.block_lt_of_cell? _ _ p2a
  go_wp2_with fail
  refine (K2.out _).mono ?_
  rintro e w4 ⟨rfl, hb4⟩
  have hz4 := hb4.size
  have p0t := (At2.mk p0a p0b p0c p0d).below hb4 (by omega)
  have p1t := (At2.mk p1a p1b p1c p1d).below hb4 (by omega)
  have p2t := (At2.mk p2a p2b p2c p2d).below hb4 (by omega)
  have HB4 : Below w.heap.size w w4 := HB3.trans (hb4.mono hq3)
  have hq4 := HB4.size
  clear hb4 HB3 p0a p0b p0c p0d p0l p1a p1b p1c p1d p1l p2a p2b p2c p2d p2l
  obtain ⟨p0a, p0b, p0c, p0d⟩ := p0t
  have p0l : w.heap.size < w4.heap.size := World.block_lt_of_cell? _ _ p0a
  obtain ⟨p1a, p1b, p1c, p1d⟩ := p1t
  have p1l : w.heap.size + 1 < w4.heap.size := World.block_lt_of_cell? _ _ p1a
  obtain ⟨p2a, p2b, p2c, p2d⟩ := p2t
  have p2l : w.heap.size + 1 + 1 < w4.heap.size := World.block_lt_of_cell? _ _ p2a
  go_wp2_with fail
  refine (K3.out _).mono ?_
  rintro e w5 ⟨rfl, hb5⟩
  have hz5 := hb5.size
  have p0t := (At2.mk p0a p0b p0c p0d).below hb5 (by omega)
  have p1t := (At2.mk p1a p1b p1c p1d).below hb5 (by omega)
  have p2t := (At2.mk p2a p2b p2c p2d).below hb5 (by omega)
  have HB5 : Below w.heap.size w w5 := HB4.trans (hb5.mono hq4)
  have hq5 := HB5.size
  clear hb5 HB4 p0a p0b p0c p0d p0l p1a p1b p1c p1d p1l p2a p2b p2c p2d p2l
  obtain ⟨p0a, p0b, p0c, p0d⟩ := p0t
  have p0l : w.heap.size < w5.heap.size := World.block_lt_of_cell? _ _ p0a
  obtain ⟨p1a, p1b, p1c, p1d⟩ := p1t
  have p1l : w.heap.size + 1 < w5.heap.size := World.block_lt_of_cell? _ _ p1a
  obtain ⟨p2a, p2b, p2c, p2d⟩ := p2t
  have p2l : w.heap.size + 1 + 1 < w5.heap.size := World.block_lt_of_cell? _ _ p2a
  go_wp2_with fail
  refine (K4.out _).mono ?_
  rintro e w6 ⟨rfl, hb6⟩
  have hz6 := hb6.size
  have p0t := (At2.mk p0a p0b p0c p0d).below hb6 (by omega)
  have p1t := (At2.mk p1a p1b p1c p1d).below hb6 (by omega)
  have p2t := (At2.mk p2a p2b p2c p2d).below hb6 (by omega)
  have HB6 : Below w.heap.size w w6 := HB5.trans (hb6.mono hq5)
  have hq6 := HB6.size
  clear hb6 HB5 p0a p0b p0c p0d p0l p1a p1b p1c p1d p1l p2a p2b p2c p2d p2l
  obtain ⟨p0a, p0b, p0c, p0d⟩ := p0t
  have p0l : w.heap.size < w6.heap.size := World.block_lt_of_cell? _ _ p0a
  obtain ⟨p1a, p1b, p1c, p1d⟩ := p1t
  have p1l : w.heap.size + 1 < w6.heap.size := World.block_lt_of_cell? _ _ p1a
  obtain ⟨p2a, p2b, p2c, p2d⟩ := p2t
  have p2l : w.heap.size + 1 + 1 < w6.heap.size := World.block_lt_of_cell? _ _ p2a
  go_wp2_with fail
  refine (K5.out _).mono ?_
  rintro e w7 ⟨rfl, hb7⟩
  have hz7 := hb7.size
  have p0t := (At2.mk p0a p0b p0c p0d).below hb7 (by omega)
  have p1t := (At2.mk p1a p1b p1c p1d).below hb7 (by omega)
  have p2t := (At2.mk p2a p2b p2c p2d).below hb7 (by omega)
  have HB7 : Below w.heap.size w w7 := HB6.trans (hb7.mono hq6)
  have hq7 := HB7.size
  clear hb7 HB6 p0a p0b p0c p0d p0l p1a p1b p1c p1d p1l p2a p2b p2c p2d p2l
  obtain ⟨p0a, p0b, p0c, p0d⟩ := p0t
  have p0l : w.heap.size < w7.heap.size := World.block_lt_of_cell? _ _ p0a
  obtain ⟨p1a, p1b, p1c, p1d⟩ := p1t
  have p1l : w.heap.size + 1 < w7.heap.size := World.block_lt_of_cell? _ _ p1a
  obtain ⟨p2a, p2b, p2c, p2d⟩ := p2t
  have p2l : w.heap.size + 1 + 1 < w7.heap.size := World.block_lt_of_cell? _ _ p2a
  go_wp2_with fail
  refine (K6.out _).mono ?_
  rintro e w8 ⟨rfl, hb8⟩
  have hz8 := hb8.size
  simp only [World.size_alloc] at hz8
  have p0t := ((At2.mk p0a p0b p0c p0d).alloc (by omega) _).below hb8 (by simp; omega)
  have p1t := ((At2.mk p1a p1b p1c p1d).alloc (by omega) _).below hb8 (by simp; omega)
  have p2t := ((At2.mk p2a p2b p2c p2d).alloc (by omega) _).below hb8 (by simp; omega)
  have ddt := (At2.new w7 (.int .i64 0) (.int .i64 0) 23).below hb8 (by simp)
  have HB8 : Below w.heap.size w w8 := (HB7.alloc hq7 _).trans (hb8.mono (by simp; omega))
  have hq8 := HB8.size
  clear hb8 HB7 p0a p0b p0c p0d p0l p1a p1b p1c p1d p1l p2a p2b p2c p2d p2l
  obtain ⟨p0a, p0b, p0c, p0d⟩ := p0t
  have p0l : w.heap.size < w8.heap.size := World.block_lt_of_cell? _ _ p0a
  obtain ⟨p1a, p1b, p1c, p1d⟩ := p1t
  have p1l : w.heap.size + 1 < w8.heap.size := World.block_lt_of_cell? _ _ p1a
  obtain ⟨p2a, p2b, p2c, p2d⟩ := p2t
  have p2l : w.heap.size + 1 + 1 < w8.heap.size := World.block_lt_of_cell? _ _ p2a
  obtain ⟨dda, ddb, ddc, ddd⟩ := ddt
  have ddl : w7.heap.size < w8.heap.size := World.block_lt_of_cell? _ _ dda
  go_wp2_with fail
  refine (K7.out _).mono ?_
  rintro e w9 ⟨rfl, hb9⟩
  have hz9 := hb9.size
  simp only [World.size_alloc] at hz9
  have p0t := ((At2.mk p0a p0b p0c p0d).alloc (by omega) _).below hb9 (by simp; omega)
  have p1t := ((At2.mk p1a p1b p1c p1d).alloc (by omega) _).below hb9 (by simp; omega)
  have p2t := ((At2.mk p2a p2b p2c p2d).alloc (by omega) _).below hb9 (by simp; omega)
  have ddt := ((At2.mk dda ddb ddc ddd).alloc (by omega) _).below hb9 (by simp; omega)
  have ppt := (At2.new w8 (.int .i64 p1) (.int .i64 p2) 23).below hb9 (by simp)
  have HB9 : Below w.heap.size w w9 := (HB8.alloc hq8 _).trans (hb9.mono (by simp; omega))
  have hq9 := HB9.size
  clear hb9 HB8 p0a p0b p0c p0d p0l p1a p1b p1c p1d p1l p2a p2b p2c p2d p2l dda ddb ddc ddd ddl
  obtain ⟨p0a, p0b, p0c, p0d⟩ := p0t
  have p0l : w.heap.size < w9.heap.size := World.block_lt_of_cell? _ _ p0a
  obtain ⟨p1a, p1b, p1c, p1d⟩ := p1t
  have p1l : w.heap.size + 1 < w9.heap.size := World.block_lt_of_cell? _ _ p1a
  obtain ⟨p2a, p2b, p2c, p2d⟩ := p2t
  have p2l : w.heap.size + 1 + 1 < w9.heap.size := World.block_lt_of_cell? _ _ p2a
  obtain ⟨dda, ddb, ddc, ddd⟩ := ddt
  have ddl : w7.heap.size < w9.heap.size := World.block_lt_of_cell? _ _ dda
  obtain ⟨ppa, ppb, ppc, ppd⟩ := ppt
  have ppl : w8.heap.size < w9.heap.size := World.block_lt_of_cell? _ _ ppa
  go_wp2
  go_ret
  exact ⟨rfl, (by repeat' (first | exact HB9 | refine Below.setCell ?_ (by first | omega | (simp; done) | (simp; omega)) _ | refine below_drewN ?_ _ | refine Below.alloc ?_ (by first | omega | (simp; done) | (simp; omega)) _))⟩

set_option maxRecDepth 100000 in
set_option maxHeartbeats 1000000 in
theorem order_Paeos (a b d g h y z p1 p2 q1 q2 : Int) (w : World) (hE : Env w) (hv : (vld a b && vld a d && vld g h) = true)
    (a0 : -9223372036854775808 ≤ a) (a1 : a ≤ 9223372036854775807) (b0 : -9223372036854775808 ≤ b) (b1 : b ≤ 9223372036854775807)
    (d0 : -9223372036854775808 ≤ d) (d1 : d ≤ 9223372036854775807)
    (g0 : -9223372036854775808 ≤ g) (g1 : g ≤ 9223372036854775807) (h0 : -9223372036854775808 ≤ h) (h1 : h ≤ 9223372036854775807)
    (k1 : Gives 22 #[.agg #[.int .i64 a, .int .i64 b], .agg #[.int .i64 a, .int .i64 d]] (.tuple #[.int .i64 1, .int .i64 0]))
    (k2 : Gives 22 #[.agg #[.int .i64 a, .int .i64 d], .agg #[.int .i64 g, .int .i64 h]] (.tuple #[.int .i64 y, .int .i64 0]))
    (k3 : Gives 22 #[.agg #[.int .i64 a, .int .i64 b], .agg #[.int .i64 g, .int .i64 h]] (.tuple #[.int .i64 z, .int .i64 0]))
    (k4 : Gives 22 #[.agg #[.int .i64 a, .int .i64 d], .agg #[.int .i64 a, .int .i64 b]] (.tuple #[.int .i64 (-1), .int .i64 0]))
    (k5 : Gives 16 #[.agg #[.int .i64 a, .int .i64 b], .agg #[.int .i64 a, .int .i64 d]] (.tuple #[.agg #[.int .i64 0, .int .i64 0], .int .i64 3]))
    (k6 : Gives 14 #[.agg #[.int .i64 a, .int .i64 b], .agg #[.int .i64 g, .int .i64 h]] (.tuple #[.agg #[.int .i64 p1, .int .i64 p2], .int .i64 0]))
    (k7 : Gives 14 #[.agg #[.int .i64 a, .int .i64 d], .agg #[.int .i64 g, .int .i64 h]] (.tuple #[.agg #[.int .i64 q1, .int .i64 q2], .int .i64 0]))
    (k8 : Gives 22 #[.agg #[.int .i64 p1, .int .i64 p2], .agg #[.int .i64 q1, .int .i64 q2]] (.tuple #[.int .i64 1, .int .i64 0]))
    (hne : ¬ b = d)  :
    Calls Tryd.prog 7 #[.agg #[.int .i64 a, .int .i64 b], .agg #[.int .i64 a, .int .i64 d], .agg #[.int .i64 g, .int .i64 h]] w fun e w' =>
      e = .returned (.bool true) ∧ Below w.heap.size w w' := by
  have HE := Lib.hid hE
  have HV := Lib.hid hv
  have K1 := Lib.hid k1
  have K2 := Lib.hid k2
  have K3 := Lib.hid k3
  have K4 := Lib.hid k4
  have K5 := Lib.hid k5
  have K6 := Lib.hid k6
  have K7 := Lib.hid k7
  have K8 := Lib.hid k8
  clear hE hv k1 k2 k3 k4 k5 k6 k7 k8
  go_enter Tryd.func7, Tryd.ntmps7
  go_wp2_with fail
  refine (head_any _ (((HE.out.below ((Below.refl _ _).alloc (Nat.le_refl _) _)).below ((Below.refl _ _).alloc (Nat.le_refl _) _)).below ((Below.refl _ _).alloc (Nat.le_refl _) _))).mono ?_
  rintro e w1 ⟨rfl, hb1⟩
  have hz1 := hb1.size
  simp only [World.size_alloc] at hz1
  have T0x : At2 w1 (w.heap.size) (.int .i64 a) (.int .i64 b) := by
    have := (((At2.new w (.int .i64 a) (.int .i64 b) 23).alloc (by first | (simp; done) | (simp; omega)) (.cells #[.int .i64 a, .int .i64 d] 23)).alloc (by first | (simp; done) | (simp; omega)) (.cells #[.int .i64 g, .int .i64 h] 23)).below hb1 (by first | (simp; done) | (simp; omega))
    simpa using this
  have T1x : At2 w1 (w.heap.size + 1) (.int .i64 a) (.int .i64 d) := by
    have := ((At2.new (w.alloc (.cells #[.int .i64 a, .int .i64 b] 23)) (.int .i64 a) (.int .i64 d) 23).alloc (by first | (simp; done) | (simp; omega)) (.cells #[.int .i64 g, .int .i64 h] 23)).below hb1 (by first | (simp; done) | (simp; omega))
    simpa using this
  have T2x : At2 w1 (w.heap.size + 1 + 1) (.int .i64 g) (.int .i64 h) := by
    have := (At2.new ((w.alloc (.cells #[.int .i64 a, .int .i64 b] 23)).alloc (.cells #[.int .i64 a, .int .i64 d] 23)) (.int .i64 g) (.int .i64 h) 23).below hb1 (by first | (simp; done) | (simp; omega))
    simpa using this
  have HB1 : Below w.heap.size w w1 := ((((Below.refl _ _).alloc (by first | (exact Nat.le_refl _) | (simp; done) | (simp; omega)) _).alloc (by first | (exact Nat.le_refl _) | (simp; done) | (simp; omega)) _).alloc (by first | (exact Nat.le_refl _) | (simp; done) | (simp; omega)) _).trans (hb1.mono (by simp; omega))
  have hq1 := HB1.size
  clear hb1
  obtain ⟨p0a, p0b, p0c, p0d⟩ := T0x
  have p0l : w.heap.size < w1.heap.size := World.block_lt_of_cell? _ _ p0a
  obtain ⟨p1a, p1b, p1c, p1d⟩ := T1x
  have p1l : w.heap.size + 1 < w1.heap.size := World.block_lt_of_cell? _ _ p1a
  obtain ⟨p2a, p2b, p2c, p2d⟩ := T2x
  have p2l : w.heap.size + 1 + 1 < w1.heap.size := World.block_lt_of_cell? _ _ p2a
  go_wp2_with fail
  refine (numbers3 a b a d g h true _ HV.out a0 a1 b0 b1 a0 a1 d0 d1 g0 g1 h0 h1 _).mono ?_
  rintro e w2 ⟨rfl, hb2⟩
  have hz2 := hb2.size
  have p0t := (At2.mk p0a p0b p0c p0d).below hb2 (by omega)
  have p1t := (At2.mk p1a p1b p1c p1d).below hb2 (by omega)
  have p2t := (At2.mk p2a p2b p2c p2d).below hb2 (by omega)
  have HB2 : Below w.heap.size w w2 := HB1.trans (hb2.mono hq1)
  have hq2 := HB2.size
  clear hb2 HB1 p0a p0b p0c p0d p0l p1a p1b p1c p1d p1l p2a p2b p2c p2d p2l
  obtain ⟨p0a, p0b, p0c, p0d⟩ := p0t
  have p0l : w.heap.size < w2.heap.size := World.block_lt_of_cell? _ _ p0a
  obtain ⟨p1a, p1b, p1c, p1d⟩ := p1t
  have p1l : w.heap.size + 1 < w2.heap.size := World.block_lt_of_cell? _ _ p1a
  obtain ⟨p2a, p2b, p2c, p2d⟩ := p2t
  have p2l : w.heap.size + 1 + 1 < w2.heap.size := World.block_lt_of_cell? _ _ p2a
  go_wp2_with fail
  refine (K1.out _).mono ?_
  rintro e w3 ⟨rfl, hb3⟩
  have hz3 := hb3.size
  have p0t := (At2.mk p0a p0b p0c p0d).below hb3 (by omega)
  have p1t := (At2.mk p1a p1b p1c p1d).below hb3 (by omega)
  have p2t := (At2.mk p2a p2b p2c p2d).below hb3 (by omega)
  have HB3 : Below w.heap.size w w3 := HB2.trans (hb3.mono hq2)
  have hq3 := HB3.size
  clear hb3 HB2 p0a p0b p0c p0d p0l p1a p1b p1c p1d p1l p2a p2b p2c p2d p2l
  obtain ⟨p0a, p0b, p0c, p0d⟩ := p0t
  have p0l : w.heap.size < w3.heap.size := World.block_lt_of_cell? _ _ p0a
  obtain ⟨p1a, p1b, p1c, p1d⟩ := p1t
  have p1l : w.heap.size + 1 < w3.heap.size := World.block_lt_of_cell? _ _ p1a
  obtain ⟨p2a, p2b, p2c, p2d⟩ := p2t
  have p2l : w.heap.size + 1 + 1 < w3.heap.size := World.block_lt_of_cell? _ _ p2a
  go_wp2_with fail
  refine (K2.out _).mono ?_
  rintro e w4 ⟨rfl, hb4⟩
  have hz4 := hb4.size
  have p0t := (At2.mk p0a p0b p0c p0d).below hb4 (by omega)
  have p1t := (At2.mk p1a p1b p1c p1d).below hb4 (by omega)
  have p2t := (At2.mk p2a p2b p2c p2d).below hb4 (by omega)
  have HB4 : Below w.heap.size w w4 := HB3.trans (hb4.mono hq3)
  have hq4 := HB4.size
  clear hb4 HB3 p0a p0b p0c p0d p0l p1a p1b p1c p1d p1l p2a p2b p2c p2d p2l
  obtain ⟨p0a, p0b, p0c, p0d⟩ := p0t
  have p0l : w.heap.size < w4.heap.size := World.block_lt_of_cell? _ _ p0a
  obtain ⟨p1a, p1b, p1c, p1d⟩ := p1t
  have p1l : w.heap.size + 1 < w4.heap.size := World.block_lt_of_cell? _ _ p1a
  obtain ⟨p2a, p2b, p2c, p2d⟩ := p2t
  have p2l : w.heap.size + 1 + 1 < w4.heap.size := World.block_lt_of_cell? _ _ p2a
  go_wp2_with fail
  refine (K3.out _).mono ?_
  rintro e w5 ⟨rfl, hb5⟩
  have hz5 := hb5.size
  have p0t := (At2.mk p0a p0b p0c p0d).below hb5 (by omega)
  have p1t := (At2.mk p1a p1b p1c p1d).below hb5 (by omega)
  have p2t := (At2.mk p2a p2b p2c p2d).below hb5 (by omega)
  have HB5 : Below w.heap.size w w5 := HB4.trans (hb5.mono hq4)
  have hq5 := HB5.size
  clear hb5 HB4 p0a p0b p0c p0d p0l p1a p1b p1c p1d p1l p2a p2b p2c p2d p2l
  obtain ⟨p0a, p0b, p0c, p0d⟩ := p0t
  have p0l : w.heap.size < w5.heap.size := World.block_lt_of_cell? _ _ p0a
  obtain ⟨p1a, p1b, p1c, p1d⟩ := p1t
  have p1l : w.heap.size + 1 < w5.heap.size := World.block_lt_of_cell? _ _ p1a
  obtain ⟨p2a, p2b, p2c, p2d⟩ := p2t
  have p2l : w.heap.size + 1 + 1 < w5.heap.size := World.block_lt_of_cell? _ _ p2a
  go_wp2_with fail
  refine (K4.out _).mono ?_
  rintro e w6 ⟨rfl, hb6⟩
  have hz6 := hb6.size
  have p0t := (At2.mk p0a p0b p0c p0d).below hb6 (by omega)
  have p1t := (At2.mk p1a p1b p1c p1d).below hb6 (by omega)
  have p2t := (At2.mk p2a p2b p2c p2d).below hb6 (by omega)
  have HB6 : Below w.heap.size w w6 := HB5.trans (hb6.mono hq5)
  have hq6 := HB6.size
  clear hb6 HB5 p0a p0b p0c p0d p0l p1a p1b p1c p1d p1l p2a p2b p2c p2d p2l
  obtain ⟨p0a, p0b, p0c, p0d⟩ := p0t
  have p0l : w.heap.size < w6.heap.size := World.block_lt_of_cell? _ _ p0a
  obtain ⟨p1a, p1b, p1c, p1d⟩ := p1t
  have p1l : w.heap.size + 1 < w6.heap.size := World.block_lt_of_cell? _ _ p1a
  obtain ⟨p2a, p2b, p2c, p2d⟩ := p2t
  have p2l : w.heap.size + 1 + 1 < w6.heap.size := World.block_lt_of_cell? _ _ p2a
  go_wp2_with fail
  refine (K5.out _).mono ?_
  rintro e w7 ⟨rfl, hb7⟩
  have hz7 := hb7.size
  have p0t := (At2.mk p0a p0b p0c p0d).below hb7 (by omega)
  have p1t := (At2.mk p1a p1b p1c p1d).below hb7 (by omega)
  have p2t := (At2.mk p2a p2b p2c p2d).below hb7 (by omega)
  have HB7 : Below w.heap.size w w7 := HB6.trans (hb7.mono hq6)
  have hq7 := HB7.size
  clear hb7 HB6 p0a p0b p0c p0d p0l p1a p1b p1c p1d p1l p2a p2b p2c p2d p2l
  obtain ⟨p0a, p0b, p0c, p0d⟩ := p0t
  have p0l : w.heap.size < w7.heap.size := World.block_lt_of_cell? _ _ p0a
  obtain ⟨p1a, p1b, p1c, p1d⟩ := p1t
  have p1l : w.heap.size + 1 < w7.heap.size := World.block_lt_of_cell? _ _ p1a
  obtain ⟨p2a, p2b, p2c, p2d⟩ := p2t
  have p2l : w.heap.size + 1 + 1 < w7.heap.size := World.block_lt_of_cell? _ _ p2a
  go_wp2_with fail
  refine (K6.out _).mono ?_
  rintro e w8 ⟨rfl, hb8⟩
  have hz8 := hb8.size
  simp only [World.size_alloc] at hz8
  have p0t := ((At2.mk p0a p0b p0c p0d).alloc (by omega) _).below hb8 (by simp; omega)
  have p1t := ((At2.mk p1a p1b p1c p1d).alloc (by omega) _).below hb8 (by simp; omega)
  have p2t := ((At2.mk p2a p2b p2c p2d).alloc (by omega) _).below hb8 (by simp; omega)
  have ddt := (At2.new w7 (.int .i64 0) (.int .i64 0) 23).below hb8 (by simp)
  have HB8 : Below w.heap.size w w8 := (HB7.alloc hq7 _).trans (hb8.mono (by simp; omega))
  have hq8 := HB8.size
  clear hb8 HB7 p0a p0b p0c p0d p0l p1a p1b p1c p1d p1l p2a p2b p2c p2d p2l
  obtain ⟨p0a, p0b, p0c, p0d⟩ := p0t
  have p0l : w.heap.size < w8.heap.size := World.block_lt_of_cell? _ _ p0a
  obtain ⟨p1a, p1b, p1c, p1d⟩ := p1t
  have p1l : w.heap.size + 1 < w8.heap.size := World.block_lt_of_cell? _ _ p1a
  obtain ⟨p2a, p2b, p2c, p2d⟩ := p2t
  have p2l : w.heap.size + 1 + 1 < w8.heap.size := World.block_lt_of_cell? _ _ p2a
  obtain ⟨dda, ddb, ddc, ddd⟩ := ddt
  have ddl : w7.heap.size < w8.heap.size := World.block_lt_of_cell? _ _ dda
  go_wp2_with fail
  refine (K7.out _).mono ?_
  rintro e w9 ⟨rfl, hb9⟩
  have hz9 := hb9.size
  simp only [World.size_alloc] at hz9
  have p0t := ((At2.mk p0a p0b p0c p0d).alloc (by omega) _).below hb9 (by simp; omega)
  have p1t := ((At2.mk p1a p1b p1c p1d).alloc (by omega) _).below hb9 (by simp; omega)
  have p2t := ((At2.mk p2a p2b p2c p2d).alloc (by omega) _).below hb9 (by simp; omega)
  have ddt := ((At2.mk dda ddb ddc ddd).alloc (by omega) _).below hb9 (by simp; omega)
  have ppt := (At2.new w8 (.int .i64 p1) (.int .i64 p2) 23).below hb9 (by simp)
  have HB9 : Below w.heap.size w w9 := (HB8.alloc hq8 _).trans (hb9.mono (by simp; omega))
  have hq9 := HB9.size
  clear hb9 HB8 p0a p0b p0c p0d p0l p1a p1b p1c p1d p1l p2a p2b p2c p2d p2l dda ddb ddc ddd ddl
  obtain ⟨p0a, p0b, p0c, p0d⟩ := p0t
  have p0l : w.heap.size < w9.heap.size := World.block_lt_of_cell? _ _ p0a
  obtain ⟨p1a, p1b, p1c, p1d⟩ := p1t
  have p1l : w.heap.size + 1 < w9.heap.size := World.block_lt_of_cell? _ _ p1a
  obtain ⟨p2a, p2b, p2c, p2d⟩ := p2t
  have p2l : w.heap.size + 1 + 1 < w9.heap.size := World.block_lt_of_cell? _ _ p2a
  obtain ⟨dda, ddb, ddc, ddd⟩ := ddt
  have ddl : w7.heap.size < w9.heap.size := World.block_lt_of_cell? _ _ dda
  obtain ⟨ppa, ppb, ppc, ppd⟩ := ppt
  have ppl : w8.heap.size < w9.heap.size := World.block_lt_of_cell? _ _ ppa
  go_wp2_with fail
  refine (K8.out _).mono ?_
  rintro e w10 ⟨rfl, hb10⟩
  have hz10 := hb10.size
  simp only [World.size_alloc] at hz10
  have p0t := ((At2.mk p0a p0b p0c p0d).alloc (by omega) _).below hb10 (by simp; omega)
  have p1t := ((At2.mk p1a p1b p1c p1d).alloc (by omega) _).below hb10 (by simp; omega)
  have p2t := ((At2.mk p2a p2b p2c p2d).alloc (by omega) _).below hb10 (by simp; omega)
  have ddt := ((At2.mk dda ddb ddc ddd).alloc (by omega) _).below hb10 (by simp; omega)
  have ppt := ((At2.mk ppa ppb ppc ppd).alloc (by omega) _).below hb10 (by simp; omega)
  have qqt := (At2.new w9 (.int .i64 q1) (.int .i64 q2) 23).below hb10 (by simp)
  have HB10 : Below w.heap.size w w10 := (HB9.alloc hq9 _).trans (hb10.mono (by simp; omega))
  have hq10 := HB10.size
  clear hb10 HB9 p0a p0b p0c p0d p0l p1a p1b p1c p1d p1l p2a p2b p2c p2d p2l dda ddb ddc ddd ddl ppa ppb ppc ppd ppl
  obtain ⟨p0a, p0b, p0c, p0d⟩ := p0t
  have p0l : w.heap.size < w10.heap.size := World.block_lt_of_cell? _ _ p0a
  obtain ⟨p1a, p1b, p1c, p1d⟩ := p1t
  have p1l : w.heap.size + 1 < w10.heap.size := World.block_lt_of_cell? _ _ p1a
  obtain ⟨p2a, p2b, p2c, p2d⟩ := p2t
  have p2l : w.heap.size + 1 + 1 < w10.heap.size := World.block_lt_of_cell? _ _ p2a
  obtain ⟨dda, ddb, ddc, ddd⟩ := ddt
  have ddl : w7.heap.size < w10.heap.size := World.block_lt_of_cell? _ _ dda
  obtain ⟨ppa, ppb, ppc, ppd⟩ := ppt
  have ppl : w8.heap.size < w10.heap.size := World.block_lt_of_cell? _ _ ppa
  obtain ⟨qqa, qqb, qqc, qqd⟩ := qqt
  have qql : w9.heap.size < w10.heap.size := World.block_lt_of_cell? _ _ qqa
  go_wp2
  go_ret
  exact ⟨rfl, (by repeat' (first | exact HB10 | refine Below.setCell ?_ (by first | omega | (simp; done) | (simp; omega)) _ | refine below_drewN ?_ _ | refine Below.alloc ?_ (by first | omega | (simp; done) | (simp; omega)) _))⟩

set_option maxRecDepth 100000 in
set_option maxHeartbeats 1000000 in
theorem order_Paokn (a b c d g h y z t1 t2 p1 p2 ke q1 q2 le : Int) (w : World) (hE : Env w) (hv : (vld a b && vld c d && vld g h) = true)
    (a0 : -9223372036854775808 ≤ a) (a1 : a ≤ 9223372036854775807) (b0 : -9223372036854775808 ≤ b) (b1 : b ≤ 9223372036854775807)
    (c0 : -9223372036854775808 ≤ c) (c1 : c ≤ 9223372036854775807) (d0 : -9223372036854775808 ≤ d) (d1 : d ≤ 9223372036854775807)
    (g0 : -9223372036854775808 ≤ g) (g1 : g ≤ 9223372036854775807) (h0 : -9223372036854775808 ≤ h) (h1 : h ≤ 9223372036854775807)
    (k1 : Gives 22 #[.agg #[.int .i64 a, .int .i64 b], .agg #[.int .i64 c, .int .i64 d]] (.tuple #[.int .i64 1, .int .i64 0]))
    (k2 : Gives 22 #[.agg #[.int .i64 c, .int .i64 d], .agg #[.int .i64 g, .int .i64 h]] (.tuple #[.int .i64 y, .int .i64 0]))
    (k3 : Gives 22 #[.agg #[.int .i64 a, .int .i64 b], .agg #[.int .i64 g, .int .i64 h]] (.tuple #[.int .i64 z, .int .i64 0]))
    (k4 : Gives 22 #[.agg #[.int .i64 c, .int .i64 d], .agg #[.int .i64 a, .int .i64 b]] (.tuple #[.int .i64 (-1), .int .i64 0]))
    (k5 : Gives 16 #[.agg #[.int .i64 a, .int .i64 b], .agg #[.int .i64 c, .int .i64 d]] (.tuple #[.agg #[.int .i64 t1, .int .i64 t2], .int .i64 0]))
    (k6 : Gives 14 #[.agg #[.int .i64 a, .int .i64 b], .agg #[.int .i64 g, .int .i64 h]] (.tuple #[.agg #[.int .i64 p1, .int .i64 p2], .int .i64 ke]))
    (k7 : Gives 14 #[.agg #[.int .i64 c, .int .i64 d], .agg #[.int .i64 g, .int .i64 h]] (.tuple #[.agg #[.int .i64 q1, .int .i64 q2], .int .i64 le]))
    (hne : ¬ a = c)  (hd : 0 < t1) (hk : ¬ ke = 0) :
    Calls Tryd.prog 7 #[.agg #[.int .i64 a, .int .i64 b], .agg #[.int .i64 c, .int .i64 d], .agg #[.int .i64 g, .int .i64 h]] w fun e w' =>
      e = .returned (.bool true) ∧ Below w.heap.size w w' := by
  have HE := Lib.hid hE
  have HV := Lib.hid hv
  have K1 := Lib.hid k1
  have K2 := Lib.hid k2
  have K3 := Lib.hid k3
  have K4 := Lib.hid k4
  have K5 := Lib.hid k5
  have K6 := Lib.hid k6
  have K7 := Lib.hid k7
  clear hE hv k1 k2 k3 k4 k5 k6 k7
  have f3 : decide (t1 < 0) = false := by simp; omega
  have f4 : decide (0 < t1) = true := by simp; omega
  have f5 : (ke != 0) = true := by simp; exact hk
  go_enter Tryd.func7, Tryd.ntmps7
  go_wp2_with fail
  refine (head_any _ (((HE.out.below ((Below.refl _ _).alloc (Nat.le_refl _) _)).below ((Below.refl _ _).alloc (Nat.le_refl _) _)).below ((Below.refl _ _).alloc (Nat.le_refl _) _))).mono ?_
  rintro e w1 ⟨rfl, hb1⟩
  have hz1 := hb1.size
  simp only [World.size_alloc] at hz1
  have T0x : At2 w1 (w.heap.size) (.int .i64 a) (.int .i64 b) := by
    have := (((At2.new w (.int .i64 a) (.int .i64 b) 23).alloc (by first | (simp; done) | (simp; omega)) (.cells #[.int .i64 c, .int .i64 d] 23)).alloc (by first | (simp; done) | (simp; omega)) (.cells #[.int .i64 g, .int .i64 h] 23)).below hb1 (by first | (simp; done) | (simp; omega))
    simpa using this
  have T1x : At2 w1 (w.heap.size + 1) (.int .i64 c) (.int .i64 d) := by
    have := ((At2.new (w.alloc (.cells #[.int .i64 a, .int .i64 b] 23)) (.int .i64 c) (.int .i64 d) 23).alloc (by first | (simp; done) | (simp; omega)) (.cells #[.int .i64 g, .int .i64 h] 23)).below hb1 (by first | (simp; done) | (simp; omega))
    simpa using this
  have T2x : At2 w1 (w.heap.size + 1 + 1) (.int .i64 g) (.int .i64 h) := by
    have := (At2.new ((w.alloc (.cells #[.int .i64 a, .int .i64 b] 23)).alloc (.cells #[.int .i64 c, .int .i64 d] 23)) (.int .i64 g) (.int .i64 h) 23).below hb1 (by first | (simp; done) | (simp; omega))
    simpa using this
  have HB1 : Below w.heap.size w w1 := ((((Below.refl _ _).alloc (by first | (exact Nat.le_refl _) | (simp; done) | (simp; omega)) _).alloc (by first | (exact Nat.le_refl _) | (simp; done) | (simp; omega)) _).alloc (by first | (exact Nat.le_refl _) | (simp; done) | (simp; omega)) _).trans (hb1.mono (by simp; omega))
  have hq1 := HB1.size
  clear hb1
  obtain ⟨p0a, p0b, p0c, p0d⟩ := T0x
  have p0l : w.heap.size < w1.heap.size := World.block_lt_of_cell? _ _ p0a
  obtain ⟨p1a, p1b, p1c, p1d⟩ := T1x
  have p1l : w.heap.size + 1 < w1.heap.size := World.block_lt_of_cell? _ _ p1a
  obtain ⟨p2a, p2b, p2c, p2d⟩ := T2x
  have p2l : w.heap.size + 1 + 1 < w1.heap.size := World.block_lt_of_cell? _ _ p2a
  go_wp2_with fail
  refine (numbers3 a b c d g h true _ HV.out a0 a1 b0 b1 c0 c1 d0 d1 g0 g1 h0 h1 _).mono ?_
  rintro e w2 ⟨rfl, hb2⟩
  have hz2 := hb2.size
  have p0t := (At2.mk p0a p0b p0c p0d).below hb2 (by omega)
  have p1t := (At2.mk p1a p1b p1c p1d).below hb2 (by omega)
  have p2t := (At2.mk p2a p2b p2c p2d).below hb2 (by omega)
  have HB2 : Below w.heap.size w w2 := HB1.trans (hb2.mono hq1)
  have hq2 := HB2.size
  clear hb2 HB1 p0a p0b p0c p0d p0l p1a p1b p1c p1d p1l p2a p2b p2c p2d p2l
  obtain ⟨p0a, p0b, p0c, p0d⟩ := p0t
  have p0l : w.heap.size < w2.heap.size := World.block_lt_of_cell? _ _ p0a
  obtain ⟨p1a, p1b, p1c, p1d⟩ := p1t
  have p1l : w.heap.size + 1 < w2.heap.size := World.block_lt_of_cell? _ _ p1a
  obtain ⟨p2a, p2b, p2c, p2d⟩ := p2t
  have p2l : w.heap.size + 1 + 1 < w2.heap.size := World.block_lt_of_cell? _ _ p2a
  go_wp2_with fail
  refine (K1.out _).mono ?_
  rintro e w3 ⟨rfl, hb3⟩
  have hz3 := hb3.size
  have p0t := (At2.mk p0a p0b p0c p0d).below hb3 (by omega)
  have p1t := (At2.mk p1a p1b p1c p1d).below hb3 (by omega)
  have p2t := (At2.mk p2a p2b p2c p2d).below hb3 (by omega)
  have HB3 : Below w.heap.size w w3 := HB2.trans (hb3.mono hq2)
  have hq3 := HB3.size
  clear hb3 HB2 p0a p0b p0c p0d p0l p1a p1b p1c p1d p1l p2a p2b p2c p2d p2l
  obtain ⟨p0a, p0b, p0c, p0d⟩ := p0t
  have p0l : w.heap.size < w3.heap.size := World.block_lt_of_cell? _ _ p0a
  obtain ⟨p1a, p1b, p1c, p1d⟩ := p1t
  have p1l : w.heap.size + 1 < w3.heap.size := World.block_lt_of_cell? _ _ p1a
  obtain ⟨p2a, p2b, p2c, p2d⟩ := p2t
  have p2l : w.heap.size + 1 + 1 < w3.heap.size := World.block_lt_of_cell? _ _ p2a
  go_wp2_with fail
  refine (K2.out _).mono ?_
  rintro e w4 ⟨rfl, hb4⟩
  have hz4 := hb4.size
  have p0t := (At2.mk p0a p0b p0c p0d).below hb4 (by omega)
  have p1t := (At2.mk p1a p1b p1c p1d).below hb4 (by omega)
  have p2t := (At2.mk p2a p2b p2c p2d).below hb4 (by omega)
  have HB4 : Below w.heap.size w w4 := HB3.trans (hb4.mono hq3)
  have hq4 := HB4.size
  clear hb4 HB3 p0a p0b p0c p0d p0l p1a p1b p1c p1d p1l p2a p2b p2c p2d p2l
  obtain ⟨p0a, p0b, p0c, p0d⟩ := p0t
  have p0l : w.heap.size < w4.heap.size := World.block_lt_of_cell? _ _ p0a
  obtain ⟨p1a, p1b, p1c, p1d⟩ := p1t
  have p1l : w.heap.size + 1 < w4.heap.size := World.block_lt_of_cell? _ _ p1a
  obtain ⟨p2a, p2b, p2c, p2d⟩ := p2t
  have p2l : w.heap.size + 1 + 1 < w4.heap.size := World.block_lt_of_cell? _ _ p2a
  go_wp2_with fail
  refine (K3.out _).mono ?_
  rintro e w5 ⟨rfl, hb5⟩
  have hz5 := hb5.size
  have p0t := (At2.mk p0a p0b p0c p0d).below hb5 (by omega)
  have p1t := (At2.mk p1a p1b p1c p1d).below hb5 (by omega)
  have p2t := (At2.mk p2a p2b p2c p2d).below hb5 (by omega)
  have HB5 : Below w.heap.size w w5 := HB4.trans (hb5.mono hq4)
  have hq5 := HB5.size
  clear hb5 HB4 p0a p0b p0c p0d p0l p1a p1b p1c p1d p1l p2a p2b p2c p2d p2l
  obtain ⟨p0a, p0b, p0c, p0d⟩ := p0t
  have p0l : w.heap.size < w5.heap.size := World.block_lt_of_cell? _ _ p0a
  obtain ⟨p1a, p1b, p1c, p1d⟩ := p1t
  have p1l : w.heap.size + 1 < w5.heap.size := World.block_lt_of_cell? _ _ p1a
  obtain ⟨p2a, p2b, p2c, p2d⟩ := p2t
  have p2l : w.heap.size + 1 + 1 < w5.heap.size := World.block_lt_of_cell? _ _ p2a
  go_wp2_with fail
  refine (K4.out _).mono ?_
  rintro e w6 ⟨rfl, hb6⟩
  have hz6 := hb6.size
  have p0t := (At2.mk p0a p0b p0c p0d).below hb6 (by omega)
  have p1t := (At2.mk p1a p1b p1c p1d).below hb6 (by omega)
  have p2t := (At2.mk p2a p2b p2c p2d).below hb6 (by omega)
  have HB6 : Below w.heap.size w w6 := HB5.trans (hb6.mono hq5)
  have hq6 := HB6.size
  clear hb6 HB5 p0a p0b p0c p0d p0l p1a p1b p1c p1d p1l p2a p2b p2c p2d p2l
  obtain ⟨p0a, p0b, p0c, p0d⟩ := p0t
  have p0l : w.heap.size < w6.heap.size := World.block_lt_of_cell? _ _ p0a
  obtain ⟨p1a, p1b, p1c, p1d⟩ := p1t
  have p1l : w.heap.size + 1 < w6.heap.size := World.block_lt_of_cell? _ _ p1a
  obtain ⟨p2a, p2b, p2c, p2d⟩ := p2t
  have p2l : w.heap.size + 1 + 1 < w6.heap.size := World.block_lt_of_cell? _ _ p2a
  go_wp2_with fail
  refine (K5.out _).mono ?_
  rintro e w7 ⟨rfl, hb7⟩
  have hz7 := hb7.size
  have p0t := (At2.mk p0a p0b p0c p0d).below hb7 (by omega)
  have p1t := (At2.mk p1a p1b p1c p1d).below hb7 (by omega)
  have p2t := (At2.mk p2a p2b p2c p2d).below hb7 (by omega)
  have HB7 : Below w.heap.size w w7 := HB6.trans (hb7.mono hq6)
  have hq7 := HB7.size
  clear hb7 HB6 p0a p0b p0c p0d p0l p1a p1b p1c p1d p1l p2a p2b p2c p2d p2l
  obtain ⟨p0a, p0b, p0c, p0d⟩ := p0t
  have p0l : w.heap.size < w7.heap.size := World.block_lt_of_cell? _ _ p0a
  obtain ⟨p1a, p1b, p1c, p1d⟩ := p1t
  have p1l : w.heap.size + 1 < w7.heap.size := World.block_lt_of_cell? _ _ p1a
  obtain ⟨p2a, p2b, p2c, p2d⟩ := p2t
  have p2l : w.heap.size + 1 + 1 < w7.heap.size := World.block_lt_of_cell? _ _ p2a
  go_wp2_with fail
  refine (K6.out _).mono ?_
  rintro e w8 ⟨rfl, hb8⟩
  have hz8 := hb8.size
  simp only [World.size_alloc] at hz8
  have p0t := ((At2.mk p0a p0b p0c p0d).alloc (by omega) _).below hb8 (by simp; omega)
  have p1t := ((At2.mk p1a p1b p1c p1d).alloc (by omega) _).below hb8 (by simp; omega)
  have p2t := ((At2.mk p2a p2b p2c p2d).alloc (by omega) _).below hb8 (by simp; omega)
  have ddt := (At2.new w7 (.int .i64 t1) (.int .i64 t2) 23).below hb8 (by simp)
  have HB8 : Below w.heap.size w w8 := (HB7.alloc hq7 _).trans (hb8.mono (by simp; omega))
  have hq8 := HB8.size
  clear hb8 HB7 p0a p0b p0c p0d p0l p1a p1b p1c p1d p1l p2a p2b p2c p2d p2l
  obtain ⟨p0a, p0b, p0c, p0d⟩ := p0t
  have p0l : w.heap.size < w8.heap.size := World.block_lt_of_cell? _ _ p0a
  obtain ⟨p1a, p1b, p1c, p1d⟩ := p1t
  have p1l : w.heap.size + 1 < w8.heap.size := World.block_lt_of_cell? _ _ p1a
  obtain ⟨p2a, p2b, p2c, p2d⟩ := p2t
  have p2l : w.heap.size + 1 + 1 < w8.heap.size := World.block_lt_of_cell? _ _ p2a
  obtain ⟨dda, ddb, ddc, ddd⟩ := ddt
  have ddl : w7.heap.size < w8.heap.size := World.block_lt_of_cell? _ _ dda
  go_wp2_with fail
  refine (K7.out _).mono ?_
  rintro e w9 ⟨rfl, hb9⟩
  have hz9 := hb9.size
  simp only [World.size_alloc] at hz9
  have p0t := ((At2.mk p0a p0b p0c p0d).alloc (by omega) _).below hb9 (by simp; omega)
  have p1t := ((At2.mk p1a p1b p1c p1d).alloc (by omega) _).below hb9 (by simp; omega)
  have p2t := ((At2.mk p2a p2b p2c p2d).alloc (by omega) _).below hb9 (by simp; omega)
  have ddt := ((At2.mk dda ddb ddc ddd).alloc (by omega) _).below hb9 (by simp; omega)
  have ppt := (At2.new w8 (.int .i64 p1) (.int .i64 p2) 23).below hb9 (by simp)
  have HB9 : Below w.heap.size w w9 := (HB8.alloc hq8 _).trans (hb9.mono (by simp; omega))
  have hq9 := HB9.size
  clear hb9 HB8 p0a p0b p0c p0d p0l p1a p1b p1c p1d p1l p2a p2b p2c p2d p2l dda ddb ddc ddd ddl
  obtain ⟨p0a, p0b, p0c, p0d⟩ := p0t
  have p0l : w.heap.size < w9.heap.size := World.block_lt_of_cell? _ _ p0a
  obtain ⟨p1a, p1b, p1c, p1d⟩ := p1t
  have p1l : w.heap.size + 1 < w9.heap.size := World.block_lt_of_cell? _ _ p1a
  obtain ⟨p2a, p2b, p2c, p2d⟩ := p2t
  have p2l : w.heap.size + 1 + 1 < w9.heap.size := World.block_lt_of_cell? _ _ p2a
  obtain ⟨dda, ddb, ddc, ddd⟩ := ddt
  have ddl : w7.heap.size < w9.heap.size := World.block_lt_of_cell? _ _ dda
  obtain ⟨ppa, ppb, ppc, ppd⟩ := ppt
  have ppl : w8.heap.size < w9.heap.size := World.block_lt_of_cell? _ _ ppa
  go_wp2
  go_ret
  exact ⟨rfl, (by repeat' (first | exact HB9 | refine Below.setCell ?_ (by first | omega | (simp; done) | (simp; omega)) _ | refine below_drewN ?_ _ | refine Below.alloc ?_ (by first | omega | (simp; done) | (simp; omega)) _))⟩

set_option maxRecDepth 100000 in
set_option maxHeartbeats 1000000 in
theorem order_Paoln (a b c d g h y z t1 t2 p1 p2 q1 q2 le : Int) (w : World) (hE : Env w) (hv : (vld a b && vld c d && vld g h) = true)
    (a0 : -9223372036854775808 ≤ a) (a1 : a ≤ 9223372036854775807) (b0 : -9223372036854775808 ≤ b) (b1 : b ≤ 9223372036854775807)
    (c0 : -9223372036854775808 ≤ c) (c1 : c ≤ 9223372036854775807) (d0 : -9223372036854775808 ≤ d) (d1 : d ≤ 9223372036854775807)
    (g0 : -9223372036854775808 ≤ g) (g1 : g ≤ 9223372036854775807) (h0 : -9223372036854775808 ≤ h) (h1 : h ≤ 9223372036854775807)
    (k1 : Gives 22 #[.agg #[.int .i64 a, .int .i64 b], .agg #[.int .i64 c, .int .i64 d]] (.tuple #[.int .i64 1, .int .i64 0]))
    (k2 : Gives 22 #[.agg #[.int .i64 c, .int .i64 d], .agg #[.int .i64 g, .int .i64 h]] (.tuple #[.int .i64 y, .int .i64 0]))
    (k3 : Gives 22 #[.agg #[.int .i64 a, .int .i64 b], .agg #[.int .i64 g, .int .i64 h]] (.tuple #[.int .i64 z, .int .i64 0]))
    (k4 : Gives 22 #[.agg #[.int .i64 c, .int .i64 d], .agg #[.int .i64 a, .int .i64 b]] (.tuple #[.int .i64 (-1), .int .i64 0]))
    (k5 : Gives 16 #[.agg #[.int .i64 a, .int .i64 b], .agg #[.int .i64 c, .int .i64 d]] (.tuple #[.agg #[.int .i64 t1, .int .i64 t2], .int .i64 0]))
    (k6 : Gives 14 #[.agg #[.int .i64 a, .int .i64 b], .agg #[.int .i64 g, .int .i64 h]] (.tuple #[.agg #[.int .i64 p1, .int .i64 p2], .int .i64 0]))
    (k7 : Gives 14 #[.agg #[.int .i64 c, .int .i64 d], .agg #[.int .i64 g, .int .i64 h]] (.tuple #[.agg #[.int .i64 q1, .int .i64 q2], .int .i64 le]))
    (hne : ¬ a = c)  (hd : 0 < t1) (hl : ¬ le = 0) :
    Calls Tryd.prog 7 #[.agg #[.int .i64 a, .int .i64 b], .agg #[.int .i64 c, .int .i64 d], .agg #[.int .i64 g, .int .i64 h]] w fun e w' =>
      e = .returned (.bool true) ∧ Below w.heap.size w w' := by
  have HE := Lib.hid hE
  have HV := Lib.hid hv
  have K1 := Lib.hid k1
  have K2 := Lib.hid k2
  have K3 := Lib.hid k3
  have K4 := Lib.hid k4
  have K5 := Lib.hid k5
  have K6 := Lib.hid k6
  have K7 := Lib.hid k7
  clear hE hv k1 k2 k3 k4 k5 k6 k7
  have f3 : decide (t1 < 0) = false := by simp; omega
  have f4 : decide (0 < t1) = true := by simp; omega
  have f5 : (le != 0) = true := by simp; exact hl
  go_enter Tryd.func7, Tryd.ntmps7
  go_wp2_with fail
  refine (head_any _ (((HE.out.below ((Below.refl _ _).alloc (Nat.le_refl _) _)).below ((Below.refl _ _).alloc (Nat.le_refl _) _)).below ((Below.refl _ _).alloc (Nat.le_refl _) _))).mono ?_
  rintro e w1 ⟨rfl, hb1⟩
  have hz1 := hb1.size
  simp only [World.size_alloc] at hz1
  have T0x : At2 w1 (w.heap.size) (.int .i64 a) (.int .i64 b) := by
    have := (((At2.new w (.int .i64 a) (.int .i64 b) 23).alloc (by first | (simp; done) | (simp; omega)) (.cells #[.int .i64 c, .int .i64 d] 23)).alloc (by first | (simp; done) | (simp; omega)) (.cells #[.int .i64 g, .int .i64 h] 23)).below hb1 (by first | (simp; done) | (simp; omega))
    simpa using this
  have T1x : At2 w1 (w.heap.size + 1) (.int .i64 c) (.int .i64 d) := by
    have := ((At2.new (w.alloc (.cells #[.int .i64 a, .int .i64 b] 23)) (.int .i64 c) (.int .i64 d) 23).alloc (by first | (simp; done) | (simp; omega)) (.cells #[.int .i64 g, .int .i64 h] 23)).below hb1 (by first | (simp; done) | (simp; omega))
    simpa using this
  have T2x : At2 w1 (w.heap.size + 1 + 1) (.int .i64 g) (.int .i64 h) := by
    have := (At2.new ((w.alloc (.cells #[.int .i64 a, .int .i64 b] 23)).alloc (.cells #[.int .i64 c, .int .i64 d] 23)) (.int .i64 g) (.int .i64 h) 23).below hb1 (by first | (simp; done) | (simp; omega))
    simpa using this
  have HB1 : Below w.heap.size w w1 := ((((Below.refl _ _).alloc (by first | (exact Nat.le_refl _) | (simp; done) | (simp; omega)) _).alloc (by first | (exact Nat.le_refl _) | (simp; done) | (simp; omega)) _).alloc (by first | (exact Nat.le_refl _) | (simp; done) | (simp; omega)) _).trans (hb1.mono (by simp; omega))
  have hq1 := HB1.size
  clear hb1
  obtain ⟨p0a, p0b, p0c, p0d⟩ := T0x
  have p0l : w.heap.size < w1.heap.size := World.block_lt_of_cell? _ _ p0a
  obtain ⟨p1a, p1b, p1c, p1d⟩ := T1x
  have p1l : w.heap.size + 1 < w1.heap.size := World.block_lt_of_cell? _ _ p1a
  obtain ⟨p2a, p2b, p2c, p2d⟩ := T2x
  have p2l : w.heap.size + 1 + 1 < w1.heap.size := World.block_lt_of_cell? _ _ p2a
  go_wp2_with fail
  refine (numbers3 a b c d g h true _ HV.out a0 a1 b0 b1 c0 c1 d0 d1 g0 g1 h0 h1 _).mono ?_
  rintro e w2 ⟨rfl, hb2⟩
  have hz2 := hb2.size
  have p0t := (At2.mk p0a p0b p0c p0d).below hb2 (by omega)
  have p1t := (At2.mk p1a p1b p1c p1d).below hb2 (by omega)
  have p2t := (At2.mk p2a p2b p2c p2d).below hb2 (by omega)
  have HB2 : Below w.heap.size w w2 := HB1.trans (hb2.mono hq1)
  have hq2 := HB2.size
  clear hb2 HB1 p0a p0b p0c p0d p0l p1a p1b p1c p1d p1l p2a p2b p2c p2d p2l
  obtain ⟨p0a, p0b, p0c, p0d⟩ := p0t
  have p0l : w.heap.size < w2.heap.size := World.block_lt_of_cell? _ _ p0a
  obtain ⟨p1a, p1b, p1c, p1d⟩ := p1t
  have p1l : w.heap.size + 1 < w2.heap.size := World.block_lt_of_cell? _ _ p1a
  obtain ⟨p2a, p2b, p2c, p2d⟩ := p2t
  have p2l : w.heap.size + 1 + 1 < w2.heap.size := World.block_lt_of_cell? _ _ p2a
  go_wp2_with fail
  refine (K1.out _).mono ?_
  rintro e w3 ⟨rfl, hb3⟩
  have hz3 := hb3.size
  have p0t := (At2.mk p0a p0b p0c p0d).below hb3 (by omega)
  have p1t := (At2.mk p1a p1b p1c p1d).below hb3 (by omega)
  have p2t := (At2.mk p2a p2b p2c p2d).below hb3 (by omega)
  have HB3 : Below w.heap.size w w3 := HB2.trans (hb3.mono hq2)
  have hq3 := HB3.size
  clear hb3 HB2 p0a p0b p0c p0d p0l p1a p1b p1c p1d p1l p2a p2b p2c p2d p2l
  obtain ⟨p0a, p0b, p0c, p0d⟩ := p0t
  have p0l : w.heap.size < w3.heap.size := World.block_lt_of_cell? _ _ p0a
  obtain ⟨p1a, p1b, p1c, p1d⟩ := p1t
  have p1l : w.heap.size + 1 < w3.heap.size := World.block_lt_of_cell? _ _ p1a
  obtain ⟨p2a, p2b, p2c, p2d⟩ := p2t
  have p2l : w.heap.size + 1 + 1 < w3.heap.size := World.block_lt_of_cell? _ _ p2a
  go_wp2_with fail
  refine (K2.out _).mono ?_
  rintro e w4 ⟨rfl, hb4⟩
  have hz4 := hb4.size
  have p0t := (At2.mk p0a p0b p0c p0d).below hb4 (by omega)
  have p1t := (At2.mk p1a p1b p1c p1d).below hb4 (by omega)
  have p2t := (At2.mk p2a p2b p2c p2d).below hb4 (by omega)
  have HB4 : Below w.heap.size w w4 := HB3.trans (hb4.mono hq3)
  have hq4 := HB4.size
  clear hb4 HB3 p0a p0b p0c p0d p0l p1a p1b p1c p1d p1l p2a p2b p2c p2d p2l
  obtain ⟨p0a, p0b, p0c, p0d⟩ := p0t
  have p0l : w.heap.size < w4.heap.size := World.block_lt_of_cell? _ _ p0a
  obtain ⟨p1a, p1b, p1c, p1d⟩ := p1t
  have p1l : w.heap.size + 1 < w4.heap.size := World.block_lt_of_cell? _ _ p1a
  obtain ⟨p2a, p2b, p2c, p2d⟩ := p2t
  have p2l : w.heap.size + 1 + 1 < w4.heap.size := World.block_lt_of_cell? _ _ p2a
  go_wp2_with fail
  refine (K3.out _).mono ?_
  rintro e w5 ⟨rfl, hb5⟩
  have hz5 := hb5.size
  have p0t := (At2.mk p0a p0b p0c p0d).below hb5 (by omega)
  have p1t := (At2.mk p1a p1b p1c p1d).below hb5 (by omega)
  have p2t := (At2.mk p2a p2b p2c p2d).below hb5 (by omega)
  have HB5 : Below w.heap.size w w5 := HB4.trans (hb5.mono hq4)
  have hq5 := HB5.size
  clear hb5 HB4 p0a p0b p0c p0d p0l p1a p1b p1c p1d p1l p2a p2b p2c p2d p2l
  obtain ⟨p0a, p0b, p0c, p0d⟩ := p0t
  have p0l : w.heap.size < w5.heap.size := World.block_lt_of_cell? _ _ p0a
  obtain ⟨p1a, p1b, p1c, p1d⟩ := p1t
  have p1l : w.heap.size + 1 < w5.heap.size := World.block_lt_of_cell? _ _ p1a
  obtain ⟨p2a, p2b, p2c, p2d⟩ := p2t
  have p2l : w.heap.size + 1 + 1 < w5.heap.size := World.block_lt_of_cell? _ _ p2a
  go_wp2_with fail
  refine (K4.out _).mono ?_
  rintro e w6 ⟨rfl, hb6⟩
  have hz6 := hb6.size
  have p0t := (At2.mk p0a p0b p0c p0d).below hb6 (by omega)
  have p1t := (At2.mk p1a p1b p1c p1d).below hb6 (by omega)
  have p2t := (At2.mk p2a p2b p2c p2d).below hb6 (by omega)
  have HB6 : Below w.heap.size w w6 := HB5.trans (hb6.mono hq5)
  have hq6 := HB6.size
  clear hb6 HB5 p0a p0b p0c p0d p0l p1a p1b p1c p1d p1l p2a p2b p2c p2d p2l
  obtain ⟨p0a, p0b, p0c, p0d⟩ := p0t
  have p0l : w.heap.size < w6.heap.size := World.block_lt_of_cell? _ _ p0a
  obtain ⟨p1a, p1b, p1c, p1d⟩ := p1t
  have p1l : w.heap.size + 1 < w6.heap.size := World.block_lt_of_cell? _ _ p1a
  obtain ⟨p2a, p2b, p2c, p2d⟩ := p2t
  have p2l : w.heap.size + 1 + 1 < w6.heap.size := World.block_lt_of_cell? _ _ p2a
  go_wp2_with fail
  refine (K5.out _).mono ?_
  rintro e w7 ⟨rfl, hb7⟩
  have hz7 := hb7.size
  have p0t := (At2.mk p0a p0b p0c p0d).below hb7 (by omega)
  have p1t := (At2.mk p1a p1b p1c p1d).below hb7 (by omega)
  have p2t := (At2.mk p2a p2b p2c p2d).below hb7 (by omega)
  have HB7 : Below w.heap.size w w7 := HB6.trans (hb7.mono hq6)
  have hq7 := HB7.size
  clear hb7 HB6 p0a p0b p0c p0d p0l p1a p1b p1c p1d p1l p2a p2b p2c p2d p2l
  obtain ⟨p0a, p0b, p0c, p0d⟩ := p0t
  have p0l : w.heap.size < w7.heap.size := World.block_lt_of_cell? _ _ p0a
  obtain ⟨p1a, p1b, p1c, p1d⟩ := p1t
  have p1l : w.heap.size + 1 < w7.heap.size := World.block_lt_of_cell? _ _ p1a
  obtain ⟨p2a, p2b, p2c, p2d⟩ := p2t
  have p2l : w.heap.size + 1 + 1 < w7.heap.size := World.block_lt_of_cell? _ _ p2a
  go_wp2_with fail
  refine (K6.out _).mono ?_
  rintro e w8 ⟨rfl, hb8⟩
  have hz8 := hb8.size
  simp only [World.size_alloc] at hz8
  have p0t := ((At2.mk p0a p0b p0c p0d).alloc (by omega) _).below hb8 (by simp; omega)
  have p1t := ((At2.mk p1a p1b p1c p1d).alloc (by omega) _).below hb8 (by simp; omega)
  have p2t := ((At2.mk p2a p2b p2c p2d).alloc (by omega) _).below hb8 (by simp; omega)
  have ddt := (At2.new w7 (.int .i64 t1) (.int .i64 t2) 23).below hb8 (by simp)
  have HB8 : Below w.heap.size w w8 := (HB7.alloc hq7 _).trans (hb8.mono (by simp; omega))
  have hq8 := HB8.size
  clear hb8 HB7 p0a p0b p0c p0d p0l p1a p1b p1c p1d p1l p2a p2b p2c p2d p2l
  obtain ⟨p0a, p0b, p0c, p0d⟩ := p0t
  have p0l : w.heap.size < w8.heap.size := World.block_lt_of_cell? _ _ p0a
  obtain ⟨p1a, p1b, p1c, p1d⟩ := p1t
  have p1l : w.heap.size + 1 < w8.heap.size := World.block_lt_of_cell? _ _ p1a
  obtain ⟨p2a, p2b, p2c, p2d⟩ := p2t
  have p2l : w.heap.size + 1 + 1 < w8.heap.size := World.block_lt_of_cell? _ _ p2a
  obtain ⟨dda, ddb, ddc, ddd⟩ := ddt
  have ddl : w7.heap.size < w8.heap.size := World.block_lt_of_cell? _ _ dda
  go_wp2_with fail
  refine (K7.out _).mono ?_
  rintro e w9 ⟨rfl, hb9⟩
  have hz9 := hb9.size
  simp only [World.size_alloc] at hz9
  have p0t := ((At2.mk p0a p0b p0c p0d).alloc (by omega) _).below hb9 (by simp; omega)
  have p1t := ((At2.mk p1a p1b p1c p1d).alloc (by omega) _).below hb9 (by simp; omega)
  have p2t := ((At2.mk p2a p2b p2c p2d).alloc (by omega) _).below hb9 (by simp; omega)
  have ddt := ((At2.mk dda ddb ddc ddd).alloc (by omega) _).below hb9 (by simp; omega)
  have ppt := (At2.new w8 (.int .i64 p1) (.int .i64 p2) 23).below hb9 (by simp)
  have HB9 : Below w.heap.size w w9 := (HB8.alloc hq8 _).trans (hb9.mono (by simp; omega))
  have hq9 := HB9.size
  clear hb9 HB8 p0a p0b p0c p0d p0l p1a p1b p1c p1d p1l p2a p2b p2c p2d p2l dda ddb ddc ddd ddl
  obtain ⟨p0a, p0b, p0c, p0d⟩ := p0t
  have p0l : w.heap.size < w9.heap.size := World.block_lt_of_cell? _ _ p0a
  obtain ⟨p1a, p1b, p1c, p1d⟩ := p1t
  have p1l : w.heap.size + 1 < w9.heap.size := World.block_lt_of_cell? _ _ p1a
  obtain ⟨p2a, p2b, p2c, p2d⟩ := p2t
  have p2l : w.heap.size + 1 + 1 < w9.heap.size := World.block_lt_of_cell? _ _ p2a
  obtain ⟨dda, ddb, ddc, ddd⟩ := ddt
  have ddl : w7.heap.size < w9.heap.size := World.block_lt_of_cell? _ _ dda
  obtain ⟨ppa, ppb, ppc, ppd⟩ := ppt
  have ppl : w8.heap.size < w9.heap.size := World.block_lt_of_cell? _ _ ppa
  go_wp2
  go_ret
  exact ⟨rfl, (by repeat' (first | exact HB9 | refine Below.setCell ?_ (by first | omega | (simp; done) | (simp; omega)) _ | refine below_drewN ?_ _ | refine Below.alloc ?_ (by first | omega | (simp; done) | (simp; omega)) _))⟩

set_option maxRecDepth 100000 in
set_option maxHeartbeats 1000000 in
theorem order_Paoon (a b c d g h y z t1 t2 p1 p2 q1 q2 : Int) (w : World) (hE : Env w) (hv : (vld a b && vld c d && vld g h) = true)
    (a0 : -9223372036854775808 ≤ a) (a1 : a ≤ 9223372036854775807) (b0 : -9223372036854775808 ≤ b) (b1 : b ≤ 9223372036854775807)
    (c0 : -9223372036854775808 ≤ c) (c1 : c ≤ 9223372036854775807) (d0 : -9223372036854775808 ≤ d) (d1 : d ≤ 9223372036854775807)
    (g0 : -9223372036854775808 ≤ g) (g1 : g ≤ 9223372036854775807) (h0 : -9223372036854775808 ≤ h) (h1 : h ≤ 9223372036854775807)
    (k1 : Gives 22 #[.agg #[.int .i64 a, .int .i64 b], .agg #[.int .i64 c, .int .i64 d]] (.tuple #[.int .i64 1, .int .i64 0]))
    (k2 : Gives 22 #[.agg #[.int .i64 c, .int .i64 d], .agg #[.int .i64 g, .int .i64 h]] (.tuple #[.int .i64 y, .int .i64 0]))
    (k3 : Gives 22 #[.agg #[.int .i64 a, .int .i64 b], .agg #[.int .i64 g, .int .i64 h]] (.tuple #[.int .i64 z, .int .i64 0]))
    (k4 : Gives 22 #[.agg #[.int .i64 c, .int .i64 d], .agg #[.int .i64 a, .int .i64 b]] (.tuple #[.int .i64 (-1), .int .i64 0]))
    (k5 : Gives 16 #[.agg #[.int .i64 a, .int .i64 b], .agg #[.int .i64 c, .int .i64 d]] (.tuple #[.agg #[.int .i64 t1, .int .i64 t2], .int .i64 0]))
    (k6 : Gives 14 #[.agg #[.int .i64 a, .int .i64 b], .agg #[.int .i64 g, .int .i64 h]] (.tuple #[.agg #[.int .i64 p1, .int .i64 p2], .int .i64 0]))
    (k7 : Gives 14 #[.agg #[.int .i64 c, .int .i64 d], .agg #[.int .i64 g, .int .i64 h]] (.tuple #[.agg #[.int .i64 q1, .int .i64 q2], .int .i64 0]))
    (k8 : Gives 22 #[.agg #[.int .i64 p1, .int .i64 p2], .agg #[.int .i64 q1, .int .i64 q2]] (.tuple #[.int .i64 1, .int .i64 0]))
    (hne : ¬ a = c)  (hd : 0 < t1) :
    Calls Tryd.prog 7 #[.agg #[.int .i64 a, .int .i64 b], .agg #[.int .i64 c, .int .i64 d], .agg #[.int .i64 g, .int .i64 h]] w fun e w' =>
      e = .returned (.bool true) ∧ Below w.heap.size w w' := by
  have HE := Lib.hid hE
  have HV := Lib.hid hv
  have K1 := Lib.hid k1
  have K2 := Lib.hid k2
  have K3 := Lib.hid k3
  have K4 := Lib.hid k4
  have K5 := Lib.hid k5
  have K6 := Lib.hid k6
  have K7 := Lib.hid k7
  have K8 := Lib.hid k8
  clear hE hv k1 k2 k3 k4 k5 k6 k7 k8
  have f3 : decide (t1 < 0) = false := by simp; omega
  have f4 : decide (0 < t1) = true := by simp; omega
  go_enter Tryd.func7, Tryd.ntmps7
  go_wp2_with fail
  refine (head_any _ (((HE.out.below ((Below.refl _ _).alloc (Nat.le_refl _) _)).below ((Below.refl _ _).alloc (Nat.le_refl _) _)).below ((Below.refl _ _).alloc (Nat.le_refl _) _))).mono ?_
  rintro e w1 ⟨rfl, hb1⟩
  have hz1 := hb1.size
  simp only [World.size_alloc] at hz1
  have T0x : At2 w1 (w.heap.size) (.int .i64 a) (.int .i64 b) := by
    have := (((At2.new w (.int .i64 a) (.int .i64 b) 23).alloc (by first | (simp; done) | (simp; omega)) (.cells #[.int .i64 c, .int .i64 d] 23)).alloc (by first | (simp; done) | (simp; omega)) (.cells #[.int .i64 g, .int .i64 h] 23)).below hb1 (by first | (simp; done) | (simp; omega))
    simpa using this
  have T1x : At2 w1 (w.heap.size + 1) (.int .i64 c) (.int .i64 d) := by
    have := ((At2.new (w.alloc (.cells #[.int .i64 a, .int .i64 b] 23)) (.int .i64 c) (.int .i64 d) 23).alloc (by first | (simp; done) | (simp; omega)) (.cells #[.int .i64 g, .int .i64 h] 23)).below hb1 (by first | (simp; done) | (simp; omega))
    simpa using this
  have T2x : At2 w1 (w.heap.size + 1 + 1) (.int .i64 g) (.int .i64 h) := by
    have := (At2.new ((w.alloc (.cells #[.int .i64 a, .int .i64 b] 23)).alloc (.cells #[.int .i64 c, .int .i64 d] 23)) (.int .i64 g) (.int .i64 h) 23).below hb1 (by first | (simp; done) | (simp; omega))
    simpa using this
  have HB1 : Below w.heap.size w w1 := ((((Below.refl _ _).alloc (by first | (exact Nat.le_refl _) | (simp; done) | (simp; omega)) _).alloc (by first | (exact Nat.le_refl _) | (simp; done) | (simp; omega)) _).alloc (by first | (exact Nat.le_refl _) | (simp; done) | (simp; omega)) _).trans (hb1.mono (by simp; omega))
  have hq1 := HB1.size
  clear hb1
  obtain ⟨p0a, p0b, p0c, p0d⟩ := T0x
  have p0l : w.heap.size < w1.heap.size := World.block_lt_of_cell? _ _ p0a
  obtain ⟨p1a, p1b, p1c, p1d⟩ := T1x
  have p1l : w.heap.size + 1 < w1.heap.size := World.block_lt_of_cell? _ _ p1a
  obtain ⟨p2a, p2b, p2c, p2d⟩ := T2x
  have p2l : w.heap.size + 1 + 1 < w1.heap.size := World.block_lt_of_cell? _ _ p2a
  go_wp2_with fail
  refine (numbers3 a b c d g h true _ HV.out a0 a1 b0 b1 c0 c1 d0 d1 g0 g1 h0 h1 _).mono ?_
  rintro e w2 ⟨rfl, hb2⟩
  have hz2 := hb2.size
  have p0t := (At2.mk p0a p0b p0c p0d).below hb2 (by omega)
  have p1t := (At2.mk p1a p1b p1c p1d).below hb2 (by omega)
  have p2t := (At2.mk p2a p2b p2c p2d).below hb2 (by omega)
  have HB2 : Below w.heap.size w w2 := HB1.trans (hb2.mono hq1)
  have hq2 := HB2.size
  clear hb2 HB1 p0a p0b p0c p0d p0l p1a p1b p1c p1d p1l p2a p2b p2c p2d p2l
  obtain ⟨p0a, p0b, p0c, p0d⟩ := p0t
  have p0l : w.heap.size < w2.heap.size := World.block_lt_of_cell? _ _ p0a
  obtain ⟨p1a, p1b, p1c, p1d⟩ := p1t
  have p1l : w.heap.size + 1 < w2.heap.size := World.block_lt_of_cell? _ _ p1a
  obtain ⟨p2a, p2b, p2c, p2d⟩ := p2t
  have p2l : w.heap.size + 1 + 1 < w2.heap.size := World.block_lt_of_cell? _ _ p2a
  go_wp2_with fail
  refine (K1.out _).mono ?_
  rintro e w3 ⟨rfl, hb3⟩
  have hz3 := hb3.size
  have p0t := (At2.mk p0a p0b p0c p0d).below hb3 (by omega)
  have p1t := (At2.mk p1a p1b p1c p1d).below hb3 (by omega)
  have p2t := (At2.mk p2a p2b p2c p2d).below hb3 (by omega)
  have HB3 : Below w.heap.size w w3 := HB2.trans (hb3.mono hq2)
  have hq3 := HB3.size
  clear hb3 HB2 p0a p0b p0c p0d p0l p1a p1b p1c p1d p1l p2a p2b p2c p2d p2l
  obtain ⟨p0a, p0b, p0c, p0d⟩ := p0t
  have p0l : w.heap.size < w3.heap.size := World.block_lt_of_cell? _ _ p0a
  obtain ⟨p1a, p1b, p1c, p1d⟩ := p1t
  have p1l : w.heap.size + 1 < w3.heap.size := World.block_lt_of_cell? _ _ p1a
  obtain ⟨p2a, p2b, p2c, p2d⟩ := p2t
  have p2l : w.heap.size + 1 + 1 < w3.heap.size := World.block_lt_of_cell? _ _ p2a
  go_wp2_with fail
  refine (K2.out _).mono ?_
  rintro e w4 ⟨rfl, hb4⟩
  have hz4 := hb4.size
  have p0t := (At2.mk p0a p0b p0c p0d).below hb4 (by omega)
  have p1t := (At2.mk p1a p1b p1c p1d).below hb4 (by omega)
  have p2t := (At2.mk p2a p2b p2c p2d).below hb4 (by omega)
  have HB4 : Below w.heap.size w w4 := HB3.trans (hb4.mono hq3)
  have hq4 := HB4.size
  clear hb4 HB3 p0a p0b p0c p0d p0l p1a p1b p1c p1d p1l p2a p2b p2c p2d p2l
  obtain ⟨p0a, p0b, p0c, p0d⟩ := p0t
  have p0l : w.heap.size < w4.heap.size := World.block_lt_of_cell? _ _ p0a
  obtain ⟨p1a, p1b, p1c, p1d⟩ := p1t
  have p1l : w.heap.size + 1 < w4.heap.size := World.block_lt_of_cell? _ _ p1a
  obtain ⟨p2a, p2b, p2c, p2d⟩ := p2t
  have p2l : w.heap.size + 1 + 1 < w4.heap.size := World.block_lt_of_cell? _ _ p2a
  go_wp2_with fail
  refine (K3.out _).mono ?_
  rintro e w5 ⟨rfl, hb5⟩
  have hz5 := hb5.size
  have p0t := (At2.mk p0a p0b p0c p0d).below hb5 (by omega)
  have p1t := (At2.mk p1a p1b p1c p1d).below hb5 (by omega)
  have p2t := (At2.mk p2a p2b p2c p2d).below hb5 (by omega)
  have HB5 : Below w.heap.size w w5 := HB4.trans (hb5.mono hq4)
  have hq5 := HB5.size
  clear hb5 HB4 p0a p0b p0c p0d p0l p1a p1b p1c p1d p1l p2a p2b p2c p2d p2l
  obtain ⟨p0a, p0b, p0c, p0d⟩ := p0t
  have p0l : w.heap.size < w5.heap.size := World.block_lt_of_cell? _ _ p0a
  obtain ⟨p1a, p1b, p1c, p1d⟩ := p1t
  have p1l : w.heap.size + 1 < w5.heap.size := World.block_lt_of_cell? _ _ p1a
  obtain ⟨p2a, p2b, p2c, p2d⟩ := p2t
  have p2l : w.heap.size + 1 + 1 < w5.heap.size := World.block_lt_of_cell? _ _ p2a
  go_wp2_with fail
  refine (K4.out _).mono ?_
  rintro e w6 ⟨rfl, hb6⟩
  have hz6 := hb6.size
  have p0t := (At2.mk p0a p0b p0c p0d).below hb6 (by omega)
  have p1t := (At2.mk p1a p1b p1c p1d).below hb6 (by omega)
  have p2t := (At2.mk p2a p2b p2c p2d).below hb6 (by omega)
  have HB6 : Below w.heap.size w w6 := HB5.trans (hb6.mono hq5)
  have hq6 := HB6.size
  clear hb6 HB5 p0a p0b p0c p0d p0l p1a p1b p1c p1d p1l p2a p2b p2c p2d p2l
  obtain ⟨p0a, p0b, p0c, p0d⟩ := p0t
  have p0l : w.heap.size < w6.heap.size := World.block_lt_of_cell? _ _ p0a
  obtain ⟨p1a, p1b, p1c, p1d⟩ := p1t
  have p1l : w.heap.size + 1 < w6.heap.size := World.block_lt_of_cell? _ _ p1a
  obtain ⟨p2a, p2b, p2c, p2d⟩ := p2t
  have p2l : w.heap.size + 1 + 1 < w6.heap.size := World.block_lt_of_cell? _ _ p2a
  go_wp2_with fail
  refine (K5.out _).mono ?_
  rintro e w7 ⟨rfl, hb7⟩
  have hz7 := hb7.size
  have p0t := (At2.mk p0a p0b p0c p0d).below hb7 (by omega)
  have p1t := (At2.mk p1a p1b p1c p1d).below hb7 (by omega)
  have p2t := (At2.mk p2a p2b p2c p2d).below hb7 (by omega)
  have HB7 : Below w.heap.size w w7 := HB6.trans (hb7.mono hq6)
  have hq7 := HB7.size
  clear hb7 HB6 p0a p0b p0c p0d p0l p1a p1b p1c p1d p1l p2a p2b p2c p2d p2l
  obtain ⟨p0a, p0b, p0c, p0d⟩ := p0t
  have p0l : w.heap.size < w7.heap.size := World.block_lt_of_cell? _ _ p0a
  obtain ⟨p1a, p1b, p1c, p1d⟩ := p1t
  have p1l : w.heap.size + 1 < w7.heap.size := World.block_lt_of_cell? _ _ p1a
  obtain ⟨p2a, p2b, p2c, p2d⟩ := p2t
  have p2l : w.heap.size + 1 + 1 < w7.heap.size := World.block_lt_of_cell? _ _ p2a
  go_wp2_with fail
  refine (K6.out _).mono ?_
  rintro e w8 ⟨rfl, hb8⟩
  have hz8 := hb8.size
  simp only [World.size_alloc] at hz8
  have p0t := ((At2.mk p0a p0b p0c p0d).alloc (by omega) _).below hb8 (by simp; omega)
  have p1t := ((At2.mk p1a p1b p1c p1d).alloc (by omega) _).below hb8 (by simp; omega)
  have p2t := ((At2.mk p2a p2b p2c p2d).alloc (by omega) _).below hb8 (by simp; omega)
  have ddt := (At2.new w7 (.int .i64 t1) (.int .i64 t2) 23).below hb8 (by simp)
  have HB8 : Below w.heap.size w w8 := (HB7.alloc hq7 _).trans (hb8.mono (by simp; omega))
  have hq8 := HB8.size
  clear hb8 HB7 p0a p0b p0c p0d p0l p1a p1b p1c p1d p1l p2a p2b p2c p2d p2l
  obtain ⟨p0a, p0b, p0c, p0d⟩ := p0t
  have p0l : w.heap.size < w8.heap.size := World.block_lt_of_cell? _ _ p0a
  obtain ⟨p1a, p1b, p1c, p1d⟩ := p1t
  have p1l : w.heap.size + 1 < w8.heap.size := World.block_lt_of_cell? _ _ p1a
  obtain ⟨p2a, p2b, p2c, p2d⟩ := p2t
  have p2l : w.heap.size + 1 + 1 < w8.heap.size := World.block_lt_of_cell? _ _ p2a
  obtain ⟨dda, ddb, ddc, ddd⟩ := ddt
  have ddl : w7.heap.size < w8.heap.size := World.block_lt_of_cell? _ _ dda
  go_wp2_with fail
  refine (K7.out _).mono ?_
  rintro e w9 ⟨rfl, hb9⟩
  have hz9 := hb9.size
  simp only [World.size_alloc] at hz9
  have p0t := ((At2.mk p0a p0b p0c p0d).alloc (by omega) _).below hb9 (by simp; omega)
  have p1t := ((At2.mk p1a p1b p1c p1d).alloc (by omega) _).below hb9 (by simp; omega)
  have p2t := ((At2.mk p2a p2b p2c p2d).alloc (by omega) _).below hb9 (by simp; omega)
  have ddt := ((At2.mk dda ddb ddc ddd).alloc (by omega) _).below hb9 (by simp; omega)
  have ppt := (At2.new w8 (.int .i64 p1) (.int .i64 p2) 23).below hb9 (by simp)
  have HB9 : Below w.heap.size w w9 := (HB8.alloc hq8 _).trans (hb9.mono (by simp; omega))
  have hq9 := HB9.size
  clear hb9 HB8 p0a p0b p0c p0d p0l p1a p1b p1c p1d p1l p2a p2b p2c p2d p2l dda ddb ddc ddd ddl
  obtain ⟨p0a, p0b, p0c, p0d⟩ := p0t
  have p0l : w.heap.size < w9.heap.size := World.block_lt_of_cell? _ _ p0a
  obtain ⟨p1a, p1b, p1c, p1d⟩ := p1t
  have p1l : w.heap.size + 1 < w9.heap.size := World.block_lt_of_cell? _ _ p1a
  obtain ⟨p2a, p2b, p2c, p2d⟩ := p2t
  have p2l : w.heap.size + 1 + 1 < w9.heap.size := World.block_lt_of_cell? _ _ p2a
  obtain ⟨dda, ddb, ddc, ddd⟩ := ddt
  have ddl : w7.heap.size < w9.heap.size := World.block_lt_of_cell? _ _ dda
  obtain ⟨ppa, ppb, ppc, ppd⟩ := ppt
  have ppl : w8.heap.size < w9.heap.size := World.block_lt_of_cell? _ _ ppa
  go_wp2_with fail
  refine (K8.out _).mono ?_
  rintro e w10 ⟨rfl, hb10⟩
  have hz10 := hb10.size
  simp only [World.size_alloc] at hz10
  have p0t := ((At2.mk p0a p0b p0c p0d).alloc (by omega) _).below hb10 (by simp; omega)
  have p1t := ((At2.mk p1a p1b p1c p1d).alloc (by omega) _).below hb10 (by simp; omega)
  have p2t := ((At2.mk p2a p2b p2c p2d).alloc (by omega) _).below hb10 (by simp; omega)
  have ddt := ((At2.mk dda ddb ddc ddd).alloc (by omega) _).below hb10 (by simp; omega)
  have ppt := ((At2.mk ppa ppb ppc ppd).alloc (by omega) _).below hb10 (by simp; omega)
  have qqt := (At2.new w9 (.int .i64 q1) (.int .i64 q2) 23).below hb10 (by simp)
  have HB10 : Below w.heap.size w w10 := (HB9.alloc hq9 _).trans (hb10.mono (by simp; omega))
  have hq10 := HB10.size
  clear hb10 HB9 p0a p0b p0c p0d p0l p1a p1b p1c p1d p1l p2a p2b p2c p2d p2l dda ddb ddc ddd ddl ppa ppb ppc ppd ppl
  obtain ⟨p0a, p0b, p0c, p0d⟩ := p0t
  have p0l : w.heap.size < w10.heap.size := World.block_lt_of_cell? _ _ p0a
  obtain ⟨p1a, p1b, p1c, p1d⟩ := p1t
  have p1l : w.heap.size + 1 < w10.heap.size := World.block_lt_of_cell? _ _ p1a
  obtain ⟨p2a, p2b, p2c, p2d⟩ := p2t
  have p2l : w.heap.size + 1 + 1 < w10.heap.size := World.block_lt_of_cell? _ _ p2a
  obtain ⟨dda, ddb, ddc, ddd⟩ := ddt
  have ddl : w7.heap.size < w10.heap.size := World.block_lt_of_cell? _ _ dda
  obtain ⟨ppa, ppb, ppc, ppd⟩ := ppt
  have ppl : w8.heap.size < w10.heap.size := World.block_lt_of_cell? _ _ ppa
  obtain ⟨qqa, qqb, qqc, qqd⟩ := qqt
  have qql : w9.heap.size < w10.heap.size := World.block_lt_of_cell? _ _ qqa
  go_wp2
  go_ret
  exact ⟨rfl, (by repeat' (first | exact HB10 | refine Below.setCell ?_ (by first | omega | (simp; done) | (simp; omega)) _ | refine below_drewN ?_ _ | refine Below.alloc ?_ (by first | omega | (simp; done) | (simp; omega)) _))⟩

set_option maxRecDepth 100000 in
set_option maxHeartbeats 1000000 in
theorem order_Paoks (a b d g h y z t1 t2 p1 p2 ke q1 q2 le : Int) (w : World) (hE : Env w) (hv : (vld a b && vld a d && vld g h) = true)
    (a0 : -9223372036854775808 ≤ a) (a1 : a ≤ 9223372036854775807) (b0 : -9223372036854775808 ≤ b) (b1 : b ≤ 9223372036854775807)
    (d0 : -9223372036854775808 ≤ d) (d1 : d ≤ 9223372036854775807)
    (g0 : -9223372036854775808 ≤ g) (g1 : g ≤ 9223372036854775807) (h0 : -9223372036854775808 ≤ h) (h1 : h ≤ 9223372036854775807)
    (k1 : Gives 22 #[.agg #[.int .i64 a, .int .i64 b], .agg #[.int .i64 a, .int .i64 d]] (.tuple #[.int .i64 1, .int .i64 0]))
    (k2 : Gives 22 #[.agg #[.int .i64 a, .int .i64 d], .agg #[.int .i64 g, .int .i64 h]] (.tuple #[.int .i64 y, .int .i64 0]))
    (k3 : Gives 22 #[.agg #[.int .i64 a, .int .i64 b], .agg #[.int .i64 g, .int .i64 h]] (.tuple #[.int .i64 z, .int .i64 0]))
    (k4 : Gives 22 #[.agg #[.int .i64 a, .int .i64 d], .agg #[.int .i64 a, .int .i64 b]] (.tuple #[.int .i64 (-1), .int .i64 0]))
    (k5 : Gives 16 #[.agg #[.int .i64 a, .int .i64 b], .agg #[.int .i64 a, .int .i64 d]] (.tuple #[.agg #[.int .i64 t1, .int .i64 t2], .int .i64 0]))
    (k6 : Gives 14 #[.agg #[.int .i64 a, .int .i64 b], .agg #[.int .i64 g, .int .i64 h]] (.tuple #[.agg #[.int .i64 p1, .int .i64 p2], .int .i64 ke]))
    (k7 : Gives 14 #[.agg #[.int .i64 a, .int .i64 d], .agg #[.int .i64 g, .int .i64 h]] (.tuple #[.agg #[.int .i64 q1, .int .i64 q2], .int .i64 le]))
    (hne : ¬ b = d)  (hd : 0 < t1) (hk : ¬ ke = 0) :
    Calls Tryd.prog 7 #[.agg #[.int .i64 a, .int .i64 b], .agg #[.int .i64 a, .int .i64 d], .agg #[.int .i64 g, .int .i64 h]] w fun e w' =>
      e = .returned (.bool true) ∧ Below w.heap.size w w' := by
  have HE := Lib.hid hE
  have HV := Lib.hid hv
  have K1 := Lib.hid k1
  have K2 := Lib.hid k2
  have K3 := Lib.hid k3
  have K4 := Lib.hid k4
  have K5 := Lib.hid k5
  have K6 := Lib.hid k6
  have K7 := Lib.hid k7
  clear hE hv k1 k2 k3 k4 k5 k6 k7
  have f3 : decide (t1 < 0) = false := by simp; omega
  have f4 : decide (0 < t1) = true := by simp; omega
  have f5 : (ke != 0) = true := by simp; exact hk
  go_enter Tryd.func7, Tryd.ntmps7
  go_wp2_with fail
  refine (head_any _ (((HE.out.below ((Below.refl _ _).alloc (Nat.le_refl _) _)).below ((Below.refl _ _).alloc (Nat.le_refl _) _)).below ((Below.refl _ _).alloc (Nat.le_refl _) _))).mono ?_
  rintro e w1 ⟨rfl, hb1⟩
  have hz1 := hb1.size
  simp only [World.size_alloc] at hz1
  have T0x : At2 w1 (w.heap.size) (.int .i64 a) (.int .i64 b) := by
    have := (((At2.new w (.int .i64 a) (.int .i64 b) 23).alloc (by first | (simp; done) | (simp; omega)) (.cells #[.int .i64 a, .int .i64 d] 23)).alloc (by first | (simp; done) | (simp; omega)) (.cells #[.int .i64 g, .int .i64 h] 23)).below hb1 (by first | (simp; done) | (simp; omega))
    simpa using this
  have T1x : At2 w1 (w.heap.size + 1) (.int .i64 a) (.int .i64 d) := by
    have := ((At2.new (w.alloc (.cells #[.int .i64 a, .int .i64 b] 23)) (.int .i64 a) (.int .i64 d) 23).alloc (by first | (simp; done) | (simp; omega)) (.cells #[.int .i64 g, .int .i64 h] 23)).below hb1 (by first | (simp; done) | (simp; omega))
    simpa using this
  have T2x : At2 w1 (w.heap.size + 1 + 1) (.int .i64 g) (.int .i64 h) := by
    have := (At2.new ((w.alloc (.cells #[.int .i64 a, .int .i64 b] 23)).alloc (.cells #[.int .i64 a, .int .i64 d] 23)) (.int .i64 g) (.int .i64 h) 23).below hb1 (by first | (simp; done) | (simp; omega))
    simpa using this
  have HB1 : Below w.heap.size w w1 := ((((Below.refl _ _).alloc (by first | (exact Nat.le_refl _) | (simp; done) | (simp; omega)) _).alloc (by first | (exact Nat.le_refl _) | (simp; done) | (simp; omega)) _).alloc (by first | (exact Nat.le_refl _) | (simp; done) | (simp; omega)) _).trans (hb1.mono (by simp; omega))
  have hq1 := HB1.size
  clear hb1
  obtain ⟨p0a, p0b, p0c, p0d⟩ := T0x
  have p0l : w.heap.size < w1.heap.size := World.block_lt_of_cell? _ _ p0a
  obtain ⟨p1a, p1b, p1c, p1d⟩ := T1x
  have p1l : w.heap.size + 1 < w1.heap.size := World.block_lt_of_cell? _ _ p1a
  obtain ⟨p2a, p2b, p2c, p2d⟩ := T2x
  have p2l : w.heap.size + 1 + 1 < w1.heap.size := World.block_lt_of_cell? _ _ p2a
  go_wp2_with fail
  refine (numbers3 a b a d g h true _ HV.out a0 a1 b0 b1 a0 a1 d0 d1 g0 g1 h0 h1 _).mono ?_
  rintro e w2 ⟨rfl, hb2⟩
  have hz2 := hb2.size
  have p0t := (At2.mk p0a p0b p0c p0d).below hb2 (by omega)
  have p1t := (At2.mk p1a p1b p1c p1d).below hb2 (by omega)
  have p2t := (At2.mk p2a p2b p2c p2d).below hb2 (by omega)
  have HB2 : Below w.heap.size w w2 := HB1.trans (hb2.mono hq1)
  have hq2 := HB2.size
  clear hb2 HB1 p0a p0b p0c p0d p0l p1a p1b p1c p1d p1l p2a p2b p2c p2d p2l
  obtain ⟨p0a, p0b, p0c, p0d⟩ := p0t
  have p0l : w.heap.size < w2.heap.size := World.block_lt_of_cell? _ _ p0a
  obtain ⟨p1a, p1b, p1c, p1d⟩ := p1t
  have p1l : w.heap.size + 1 < w2.heap.size := World.block_lt_of_cell? _ _ p1a
  obtain ⟨p2a, p2b, p2c, p2d⟩ := p2t
  have p2l : w.heap.size + 1 + 1 < w2.heap.size := World.block_lt_of_cell? _ _ p2a
  go_wp2_with fail
  refine (K1.out _).mono ?_
  rintro e w3 ⟨rfl, hb3⟩
  have hz3 := hb3.size
  have p0t := (At2.mk p0a p0b p0c p0d).below hb3 (by omega)
  have p1t := (At2.mk p1a p1b p1c p1d).below hb3 (by omega)
  have p2t := (At2.mk p2a p2b p2c p2d).below hb3 (by omega)
  have HB3 : Below w.heap.size w w3 := HB2.trans (hb3.mono hq2)
  have hq3 := HB3.size
  clear hb3 HB2 p0a p0b p0c p0d p0l p1a p1b p1c p1d p1l p2a p2b p2c p2d p2l
  obtain ⟨p0a, p0b, p0c, p0d⟩ := p0t
  have p0l : w.heap.size < w3.heap.size := World.block_lt_of_cell? _ _ p0a
  obtain ⟨p1a, p1b, p1c, p1d⟩ := p1t
  have p1l : w.heap.size + 1 < w3.heap.size := World.block_lt_of_cell? _ _ p1a
  obtain ⟨p2a, p2b, p2c, p2d⟩ := p2t
  have p2l : w.heap.size + 1 + 1 < w3.heap.size := World.block_lt_of_cell? _ _ p2a
  go_wp2_with fail
  refine (K2.out _).mono ?_
  rintro e w4 ⟨rfl, hb4⟩
  have hz4 := hb4.size
  have p0t := (At2.mk p0a p0b p0c p0d).below hb4 (by omega)
  have p1t := (At2.mk p1a p1b p1c p1d).below hb4 (by omega)
  have p2t := (At2.mk p2a p2b p2c p2d).below hb4 (by omega)
  have HB4 : Below w.heap.size w w4 := HB3.trans (hb4.mono hq3)
  have hq4 := HB4.size
  clear hb4 HB3 p0a p0b p0c p0d p0l p1a p1b p1c p1d p1l p2a p2b p2c p2d p2l
  obtain ⟨p0a, p0b, p0c, p0d⟩ := p0t
  have p0l : w.heap.size < w4.heap.size := World.block_lt_of_cell? _ _ p0a
  obtain ⟨p1a, p1b, p1c, p1d⟩ := p1t
  have p1l : w.heap.size + 1 < w4.heap.size := World.block_lt_of_cell? _ _ p1a
  obtain ⟨p2a, p2b, p2c, p2d⟩ := p2t
  have p2l : w.heap.size + 1 + 1 < w4.heap.size := World.block_lt_of_cell? _ _ p2a
  go_wp2_with fail
  refine (K3.out _).mono ?_
  rintro e w5 ⟨rfl, hb5⟩
  have hz5 := hb5.size
  have p0t := (At2.mk p0a p0b p0c p0d).below hb5 (by omega)
  have p1t := (At2.mk p1a p1b p1c p1d).below hb5 (by omega)
  have p2t := (At2.mk p2a p2b p2c p2d).below hb5 (by omega)
  have HB5 : Below w.heap.size w w5 := HB4.trans (hb5.mono hq4)
  have hq5 := HB5.size
  clear hb5 HB4 p0a p0b p0c p0d p0l p1a p1b p1c p1d p1l p2a p2b p2c p2d p2l
  obtain ⟨p0a, p0b, p0c, p0d⟩ := p0t
  have p0l : w.heap.size < w5.heap.size := World.block_lt_of_cell? _ _ p0a
  obtain ⟨p1a, p1b, p1c, p1d⟩ := p1t
  have p1l : w.heap.size + 1 < w5.heap.size := World.block_lt_of_cell? _ _ p1a
  obtain ⟨p2a, p2b, p2c, p2d⟩ := p2t
  have p2l : w.heap.size + 1 + 1 < w5.heap.size := World.block_lt_of_cell? _ _ p2a
  go_wp2_with fail
  refine (K4.out _).mono ?_
  rintro e w6 ⟨rfl, hb6⟩
  have hz6 := hb6.size
  have p0t := (At2.mk p0a p0b p0c p0d).below hb6 (by omega)
  have p1t := (At2.mk p1a p1b p1c p1d).below hb6 (by omega)
  have p2t := (At2.mk p2a p2b p2c p2d).below hb6 (by omega)
  have HB6 : Below w.heap.size w w6 := HB5.trans (hb6.mono hq5)
  have hq6 := HB6.size
  clear hb6 HB5 p0a p0b p0c p0d p0l p1a p1b p1c p1d p1l p2a p2b p2c p2d p2l
  obtain ⟨p0a, p0b, p0c, p0d⟩ := p0t
  have p0l : w.heap.size < w6.heap.size := World.block_lt_of_cell? _ _ p0a
  obtain ⟨p1a, p1b, p1c, p1d⟩ := p1t
  have p1l : w.heap.size + 1 < w6.heap.size := World.block_lt_of_cell? _ _ p1a
  obtain ⟨p2a, p2b, p2c, p2d⟩ := p2t
  have p2l : w.heap.size + 1 + 1 < w6.heap.size := World.block_lt_of_cell? _ _ p2a
  go_wp2_with fail
  refine (K5.out _).mono ?_
  rintro e w7 ⟨rfl, hb7⟩
  have hz7 := hb7.size
  have p0t := (At2.mk p0a p0b p0c p0d).below hb7 (by omega)
  have p1t := (At2.mk p1a p1b p1c p1d).below hb7 (by omega)
  have p2t := (At2.mk p2a p2b p2c p2d).below hb7 (by omega)
  have HB7 : Below w.heap.size w w7 := HB6.trans (hb7.mono hq6)
  have hq7 := HB7.size
  clear hb7 HB6 p0a p0b p0c p0d p0l p1a p1b p1c p1d p1l p2a p2b p2c p2d p2l
  obtain ⟨p0a, p0b, p0c, p0d⟩ := p0t
  have p0l : w.heap.size < w7.heap.size := World.block_lt_of_cell? _ _ p0a
  obtain ⟨p1a, p1b, p1c, p1d⟩ := p1t
  have p1l : w.heap.size + 1 < w7.heap.size := World.block_lt_of_cell? _ _ p1a
  obtain ⟨p2a, p2b, p2c, p2d⟩ := p2t
  have p2l : w.heap.size + 1 + 1 < w7.heap.size := World.block_lt_of_cell? _ _ p2a
  go_wp2_with fail
  refine (K6.out _).mono ?_
  rintro e w8 ⟨rfl, hb8⟩
  have hz8 := hb8.size
  simp only [World.size_alloc] at hz8
  have p0t := ((At2.mk p0a p0b p0c p0d).alloc (by omega) _).below hb8 (by simp; omega)
  have p1t := ((At2.mk p1a p1b p1c p1d).alloc (by omega) _).below hb8 (by simp; omega)
  have p2t := ((At2.mk p2a p2b p2c p2d).alloc (by omega) _).below hb8 (by simp; omega)
  have ddt := (At2.new w7 (.int .i64 t1) (.int .i64 t2) 23).below hb8 (by simp)
  have HB8 : Below w.heap.size w w8 := (HB7.alloc hq7 _).trans (hb8.mono (by simp; omega))
  have hq8 := HB8.size
  clear hb8 HB7 p0a p0b p0c p0d p0l p1a p1b p1c p1d p1l p2a p2b p2c p2d p2l
  obtain ⟨p0a, p0b, p0c, p0d⟩ := p0t
  have p0l : w.heap.size < w8.heap.size := World.block_lt_of_cell? _ _ p0a
  obtain ⟨p1a, p1b, p1c, p1d⟩ := p1t
  have p1l : w.heap.size + 1 < w8.heap.size := World.block_lt_of_cell? _ _ p1a
  obtain ⟨p2a, p2b, p2c, p2d⟩ := p2t
  have p2l : w.heap.size + 1 + 1 < w8.heap.size := World.block_lt_of_cell? _ _ p2a
  obtain ⟨dda, ddb, ddc, ddd⟩ := ddt
  have ddl : w7.heap.size < w8.heap.size := World.block_lt_of_cell? _ _ dda
  go_wp2_with fail
  refine (K7.out _).mono ?_
  rintro e w9 ⟨rfl, hb9⟩
  have hz9 := hb9.size
  simp only [World.size_alloc] at hz9
  have p0t := ((At2.mk p0a p0b p0c p0d).alloc (by omega) _).below hb9 (by simp; omega)
  have p1t := ((At2.mk p1a p1b p1c p1d).alloc (by omega) _).below hb9 (by simp; omega)
  have p2t := ((At2.mk p2a p2b p2c p2d).alloc (by omega) _).below hb9 (by simp; omega)
  have ddt := ((At2.mk dda ddb ddc ddd).alloc (by omega) _).below hb9 (by simp; omega)
  have ppt := (At2.new w8 (.int .i64 p1) (.int .i64 p2) 23).below hb9 (by simp)
  have HB9 : Below w.heap.size w w9 := (HB8.alloc hq8 _).trans (hb9.mono (by simp; omega))
  have hq9 := HB9.size
  clear hb9 HB8 p0a p0b p0c p0d p0l p1a p1b p1c p1d p1l p2a p2b p2c p2d p2l dda ddb ddc ddd ddl
  obtain ⟨p0a, p0b, p0c, p0d⟩ := p0t
  have p0l : w.heap.size < w9.heap.size := World.block_lt_of_cell? _ _ p0a
  obtain ⟨p1a, p1b, p1c, p1d⟩ := p1t
  have p1l : w.heap.size + 1 < w9.heap.size := World.block_lt_of_cell? _ _ p1a
  obtain ⟨p2a, p2b, p2c, p2d⟩ := p2t
  have p2l : w.heap.size + 1 + 1 < w9.heap.size := World.block_lt_of_cell? _ _ p2a
  obtain ⟨dda, ddb, ddc, ddd⟩ := ddt
  have ddl : w7.heap.size < w9.heap.size := World.block_lt_of_cell? _ _ dda
  obtain ⟨ppa, ppb, ppc, ppd⟩ := ppt
  have ppl : w8.heap.size < w9.heap.size := World.block_lt_of_cell? _ _ ppa
  go_wp2
  go_ret
  exact ⟨rfl, (by repeat' (first | exact HB9 | refine Below.setCell ?_ (by first | omega | (simp; done) | (simp; omega)) _ | refine below_drewN ?_ _ | refine Below.alloc ?_ (by first | omega | (simp; done) | (simp; omega)) _))⟩

set_option maxRecDepth 100000 in
set_option maxHeartbeats 1000000 in
theorem order_Paols (a b d g h y z t1 t2 p1 p2 q1 q2 le : Int) (w : World) (hE : Env w) (hv : (vld a b && vld a d && vld g h) = true)
    (a0 : -9223372036854775808 ≤ a) (a1 : a ≤ 9223372036854775807) (b0 : -9223372036854775808 ≤ b) (b1 : b ≤ 9223372036854775807)
    (d0 : -9223372036854775808 ≤ d) (d1 : d ≤ 9223372036854775807)
    (g0 : -9223372036854775808 ≤ g) (g1 : g ≤ 9223372036854775807) (h0 : -9223372036854775808 ≤ h) (h1 : h ≤ 9223372036854775807)
    (k1 : Gives 22 #[.agg #[.int .i64 a, .int .i64 b], .agg #[.int .i64 a, .int .i64 d]] (.tuple #[.int .i64 1, .int .i64 0]))
    (k2 : Gives 22 #[.agg #[.int .i64 a, .int .i64 d], .agg #[.int .i64 g, .int .i64 h]] (.tuple #[.int .i64 y, .int .i64 0]))
    (k3 : Gives 22 #[.agg #[.int .i64 a, .int .i64 b], .agg #[.int .i64 g, .int .i64 h]] (.tuple #[.int .i64 z, .int .i64 0]))
    (k4 : Gives 22 #[.agg #[.int .i64 a, .int .i64 d], .agg #[.int .i64 a, .int .i64 b]] (.tuple #[.int .i64 (-1), .int .i64 0]))
    (k5 : Gives 16 #[.agg #[.int .i64 a, .int .i64 b], .agg #[.int .i64 a, .int .i64 d]] (.tuple #[.agg #[.int .i64 t1, .int .i64 t2], .int .i64 0]))
    (k6 : Gives 14 #[.agg #[.int .i64 a, .int .i64 b], .agg #[.int .i64 g, .int .i64 h]] (.tuple #[.agg #[.int .i64 p1, .int .i64 p2], .int .i64 0]))
    (k7 : Gives 14 #[.agg #[.int .i64 a, .int .i64 d], .agg #[.int .i64 g, .int .i64 h]] (.tuple #[.agg #[.int .i64 q1, .int .i64 q2], .int .i64 le]))
    (hne : ¬ b = d)  (hd : 0 < t1) (hl : ¬ le = 0) :
    Calls Tryd.prog 7 #[.agg #[.int .i64 a, .int .i64 b], .agg #[.int .i64 a, .int .i64 d], .agg #[.int .i64 g, .int .i64 h]] w fun e w' =>
      e = .returned (.bool true) ∧ Below w.heap.size w w' := by
  have HE := Lib.hid hE
  have HV := Lib.hid hv
  have K1 := Lib.hid k1
  have K2 := Lib.hid k2
  have K3 := Lib.hid k3
  have K4 := Lib.hid k4
  have K5 := Lib.hid k5
  have K6 := Lib.hid k6
  have K7 := Lib.hid k7
  clear hE hv k1 k2 k3 k4 k5 k6 k7
  have f3 : decide (t1 < 0) = false := by simp; omega
  have f4 : decide (0 < t1) = true := by simp; omega
  have f5 : (le != 0) = true := by simp; exact hl
  go_enter Tryd.func7, Tryd.ntmps7
  go_wp2_with fail
  refine (head_any _ (((HE.out.below ((Below.refl _ _).alloc (Nat.le_refl _) _)).below ((Below.refl _ _).alloc (Nat.le_refl _) _)).below ((Below.refl _ _).alloc (Nat.le_refl _) _))).mono ?_
  rintro e w1 ⟨rfl, hb1⟩
  have hz1 := hb1.size
  simp only [World.size_alloc] at hz1
  have T0x : At2 w1 (w.heap.size) (.int .i64 a) (.int .i64 b) := by
    have := (((At2.new w (.int .i64 a) (.int .i64 b) 23).alloc (by first | (simp; done) | (simp; omega)) (.cells #[.int .i64 a, .int .i64 d] 23)).alloc (by first | (simp; done) | (simp; omega)) (.cells #[.int .i64 g, .int .i64 h] 23)).below hb1 (by first | (simp; done) | (simp; omega))
    simpa using this
  have T1x : At2 w1 (w.heap.size + 1) (.int .i64 a) (.int .i64 d) := by
    have := ((At2.new (w.alloc (.cells #[.int .i64 a, .int .i64 b] 23)) (.int .i64 a) (.int .i64 d) 23).alloc (by first | (simp; done) | (simp; omega)) (.cells #[.int .i64 g, .int .i64 h] 23)).below hb1 (by first | (simp; done) | (simp; omega))
    simpa using this
  have T2x : At2 w1 (w.heap.size + 1 + 1) (.int .i64 g) (.int .i64 h) := by
    have := (At2.new ((w.alloc (.cells #[.int .i64 a, .int .i64 b] 23)).alloc (.cells #[.int .i64 a, .int .i64 d] 23)) (.int .i64 g) (.int .i64 h) 23).below hb1 (by first | (simp; done) | (simp; omega))
    simpa using this
  have HB1 : Below w.heap.size w w1 := ((((Below.refl _ _).alloc (by first | (exact Nat.le_refl _) | (simp; done) | (simp; omega)) _).alloc (by first | (exact Nat.le_refl _) | (simp; done) | (simp; omega)) _).alloc (by first | (exact Nat.le_refl _) | (simp; done) | (simp; omega)) _).trans (hb1.mono (by simp; omega))
  have hq1 := HB1.size
  clear hb1
  obtain ⟨p0a, p0b, p0c, p0d⟩ := T0x
  have p0l : w.heap.size < w1.heap.size := World.block_lt_of_cell? _ _ p0a
  obtain ⟨p1a, p1b, p1c, p1d⟩ := T1x
  have p1l : w.heap.size + 1 < w1.heap.size := World.block_lt_of_cell? _ _ p1a
  obtain ⟨p2a, p2b, p2c, p2d⟩ := T2x
  have p2l : w.heap.size + 1 + 1 < w1.heap.size := World.block_lt_of_cell? _ _ p2a
  go_wp2_with fail
  refine (numbers3 a b a d g h true _ HV.out a0 a1 b0 b1 a0 a1 d0 d1 g0 g1 h0 h1 _).mono ?_
  rintro e w2 ⟨rfl, hb2⟩
  have hz2 := hb2.size
  have p0t := (At2.mk p0a p0b p0c p0d).below hb2 (by omega)
  have p1t := (At2.mk p1a p1b p1c p1d).below hb2 (by omega)
  have p2t := (At2.mk p2a p2b p2c p2d).below hb2 (by omega)
  have HB2 : Below w.heap.size w w2 := HB1.trans (hb2.mono hq1)
  have hq2 := HB2.size
  clear hb2 HB1 p0a p0b p0c p0d p0l p1a p1b p1c p1d p1l p2a p2b p2c p2d p2l
  obtain ⟨p0a, p0b, p0c, p0d⟩ := p0t
  have p0l : w.heap.size < w2.heap.size := World.block_lt_of_cell? _ _ p0a
  obtain ⟨p1a, p1b, p1c, p1d⟩ := p1t
  have p1l : w.heap.size + 1 < w2.heap.size := World.block_lt_of_cell? _ _ p1a
  obtain ⟨p2a, p2b, p2c, p2d⟩ := p2t
  have p2l : w.heap.size + 1 + 1 < w2.heap.size := World.block_lt_of_cell? _ _ p2a
  go_wp2_with fail
  refine (K1.out _).mono ?_
  rintro e w3 ⟨rfl, hb3⟩
  have hz3 := hb3.size
  have p0t := (At2.mk p0a p0b p0c p0d).below hb3 (by omega)
  have p1t := (At2.mk p1a p1b p1c p1d).below hb3 (by omega)
  have p2t := (At2.mk p2a p2b p2c p2d).below hb3 (by omega)
  have HB3 : Below w.heap.size w w3 := HB2.trans (hb3.mono hq2)
  have hq3 := HB3.size
  clear hb3 HB2 p0a p0b p0c p0d p0l p1a p1b p1c p1d p1l p2a p2b p2c p2d p2l
  obtain ⟨p0a, p0b, p0c, p0d⟩ := p0t
  have p0l : w.heap.size < w3.heap.size := World.block_lt_of_cell? _ _ p0a
  obtain ⟨p1a, p1b, p1c, p1d⟩ := p1t
  have p1l : w.heap.size + 1 < w3.heap.size := World.block_lt_of_cell? _ _ p1a
  obtain ⟨p2a, p2b, p2c, p2d⟩ := p2t
  have p2l : w.heap.size + 1 + 1 < w3.heap.size := World.block_lt_of_cell? _ _ p2a
  go_wp2_with fail
  refine (K2.out _).mono ?_
  rintro e w4 ⟨rfl, hb4⟩
  have hz4 := hb4.size
  have p0t := (At2.mk p0a p0b p0c p0d).below hb4 (by omega)
  have p1t := (At2.mk p1a p1b p1c p1d).below hb4 (by omega)
  have p2t := (At2.mk p2a p2b p2c p2d).below hb4 (by omega)
  have HB4 : Below w.heap.size w w4 := HB3.trans (hb4.mono hq3)
  have hq4 := HB4.size
  clear hb4 HB3 p0a p0b p0c p0d p0l p1a p1b p1c p1d p1l p2a p2b p2c p2d p2l
  obtain ⟨p0a, p0b, p0c, p0d⟩ := p0t
  have p0l : w.heap.size < w4.heap.size := World.block_lt_of_cell? _ _ p0a
  obtain ⟨p1a, p1b, p1c, p1d⟩ := p1t
  have p1l : w.heap.size + 1 < w4.heap.size := World.block_lt_of_cell? _ _ p1a
  obtain ⟨p2a, p2b, p2c, p2d⟩ := p2t
  have p2l : w.heap.size + 1 + 1 < w4.heap.size := World.block_lt_of_cell? _ _ p2a
  go_wp2_with fail
  refine (K3.out _).mono ?_
  rintro e w5 ⟨rfl, hb5⟩
  have hz5 := hb5.size
  have p0t := (At2.mk p0a p0b p0c p0d).below hb5 (by omega)
  have p1t := (At2.mk p1a p1b p1c p1d).below hb5 (by omega)
  have p2t := (At2.mk p2a p2b p2c p2d).below hb5 (by omega)
  have HB5 : Below w.heap.size w w5 := HB4.trans (hb5.mono hq4)
  have hq5 := HB5.size
  clear hb5 HB4 p0a p0b p0c p0d p0l p1a p1b p1c p1d p1l p2a p2b p2c p2d p2l
  obtain ⟨p0a, p0b, p0c, p0d⟩ := p0t
  have p0l : w.heap.size < w5.heap.size := World.block_lt_of_cell? _ _ p0a
  obtain ⟨p1a, p1b, p1c, p1d⟩ := p1t
  have p1l : w.heap.size + 1 < w5.heap.size := World.block_lt_of_cell? _ _ p1a
  obtain ⟨p2a, p2b, p2c, p2d⟩ := p2t
  have p2l : w.heap.size + 1 + 1 < w5.heap.size := World.block_lt_of_cell? _ _ p2a
  go_wp2_with fail
  refine (K4.out _).mono ?_
  rintro e w6 ⟨rfl, hb6⟩
  have hz6 := hb6.size
  have p0t := (At2.mk p0a p0b p0c p0d).below hb6 (by omega)
  have p1t := (At2.mk p1a p1b p1c p1d).below hb6 (by omega)
  have p2t := (At2.mk p2a p2b p2c p2d).below hb6 (by omega)
  have HB6 : Below w.heap.size w w6 := HB5.trans (hb6.mono hq5)
  have hq6 := HB6.size
  clear hb6 HB5 p0a p0b p0c p0d p0l p1a p1b p1c p1d p1l p2a p2b p2c p2d p2l
  obtain ⟨p0a, p0b, p0c, p0d⟩ := p0t
  have p0l : w.heap.size < w6.heap.size := World.block_lt_of_cell? _ _ p0a
  obtain ⟨p1a, p1b, p1c, p1d⟩ := p1t
  have p1l : w.heap.size + 1 < w6.heap.size := World.block_lt_of_cell? _ _ p1a
  obtain ⟨p2a, p2b, p2c, p2d⟩ := p2t
  have p2l : w.heap.size + 1 + 1 < w6.heap.size := World.block_lt_of_cell? _ _ p2a
  go_wp2_with fail
  refine (K5.out _).mono ?_
  rintro e w7 ⟨rfl, hb7⟩
  have hz7 := hb7.size
  have p0t := (At2.mk p0a p0b p0c p0d).below hb7 (by omega)
  have p1t := (At2.mk p1a p1b p1c p1d).below hb7 (by omega)
  have p2t := (At2.mk p2a p2b p2c p2d).below hb7 (by omega)
  have HB7 : Below w.heap.size w w7 := HB6.trans (hb7.mono hq6)
  have hq7 := HB7.size
  clear hb7 HB6 p0a p0b p0c p0d p0l p1a p1b p1c p1d p1l p2a p2b p2c p2d p2l
  obtain ⟨p0a, p0b, p0c, p0d⟩ := p0t
  have p0l : w.heap.size < w7.heap.size := World.block_lt_of_cell? _ _ p0a
  obtain ⟨p1a, p1b, p1c, p1d⟩ := p1t
  have p1l : w.heap.size + 1 < w7.heap.size := World.block_lt_of_cell? _ _ p1a
  obtain ⟨p2a, p2b, p2c, p2d⟩ := p2t
  have p2l : w.heap.size + 1 + 1 < w7.heap.size := World.block_lt_of_cell? _ _ p2a
  go_wp2_with fail
  refine (K6.out _).mono ?_
  rintro e w8 ⟨rfl, hb8⟩
  have hz8 := hb8.size
  simp only [World.size_alloc] at hz8
  have p0t := ((At2.mk p0a p0b p0c p0d).alloc (by omega) _).below hb8 (by simp; omega)
  have p1t := ((At2.mk p1a p1b p1c p1d).alloc (by omega) _).below hb8 (by simp; omega)
  have p2t := ((At2.mk p2a p2b p2c p2d).alloc (by omega) _).below hb8 (by simp; omega)
  have ddt := (At2.new w7 (.int .i64 t1) (.int .i64 t2) 23).below hb8 (by simp)
  have HB8 : Below w.heap.size w w8 := (HB7.alloc hq7 _).trans (hb8.mono (by simp; omega))
  have hq8 := HB8.size
  clear hb8 HB7 p0a p0b p0c p0d p0l p1a p1b p1c p1d p1l p2a p2b p2c p2d p2l
  obtain ⟨p0a, p0b, p0c, p0d⟩ := p0t
  have p0l : w.heap.size < w8.heap.size := World.block_lt_of_cell? _ _ p0a
  obtain ⟨p1a, p1b, p1c, p1d⟩ := p1t
  have p1l : w.heap.size + 1 < w8.heap.size := World.block_lt_of_cell? _ _ p1a
  obtain ⟨p2a, p2b, p2c, p2d⟩ := p2t
  have p2l : w.heap.size + 1 + 1 < w8.heap.size := World.block_lt_of_cell? _ _ p2a
  obtain ⟨dda, ddb, ddc, ddd⟩ := ddt
  have ddl : w7.heap.size < w8.heap.size := World.block_lt_of_cell? _ _ dda
  go_wp2_with fail
  refine (K7.out _).mono ?_
  rintro e w9 ⟨rfl, hb9⟩
  have hz9 := hb9.size
  simp only [World.size_alloc] at hz9
  have p0t := ((At2.mk p0a p0b p0c p0d).alloc (by omega) _).below hb9 (by simp; omega)
  have p1t := ((At2.mk p1a p1b p1c p1d).alloc (by omega) _).below hb9 (by simp; omega)
  have p2t := ((At2.mk p2a p2b p2c p2d).alloc (by omega) _).below hb9 (by simp; omega)
  have ddt := ((At2.mk dda ddb ddc ddd).alloc (by omega) _).below hb9 (by simp; omega)
  have ppt := (At2.new w8 (.int .i64 p1) (.int .i64 p2) 23).below hb9 (by simp)
  have HB9 : Below w.heap.size w w9 := (HB8.alloc hq8 _).trans (hb9.mono (by simp; omega))
  have hq9 := HB9.size
  clear hb9 HB8 p0a p0b p0c p0d p0l p1a p1b p1c p1d p1l p2a p2b p2c p2d p2l dda ddb ddc ddd ddl
  obtain ⟨p0a, p0b, p0c, p0d⟩ := p0t
  have p0l : w.heap.size < w9.heap.size := World.block_lt_of_cell? _ _ p0a
  obtain ⟨p1a, p1b, p1c, p1d⟩ := p1t
  have p1l : w.heap.size + 1 < w9.heap.size := World.block_lt_of_cell? _ _ p1a
  obtain ⟨p2a, p2b, p2c, p2d⟩ := p2t
  have p2l : w.heap.size + 1 + 1 < w9.heap.size := World.block_lt_of_cell? _ _ p2a
  obtain ⟨dda, ddb, ddc, ddd⟩ := ddt
  have ddl : w7.heap.size < w9.heap.size := World.block_lt_of_cell? _ _ dda
  obtain ⟨ppa, ppb, ppc, ppd⟩ := ppt
  have ppl : w8.heap.size < w9.heap.size := World.block_lt_of_cell? _ _ ppa
  go_wp2
  go_ret
  exact ⟨rfl, (by repeat' (first | exact HB9 | refine Below.setCell ?_ (by first | omega | (simp; done) | (simp; omega)) _ | refine below_drewN ?_ _ | refine Below.alloc ?_ (by first | omega | (simp; done) | (simp; omega)) _))⟩

set_option maxRecDepth 100000 in
set_option maxHeartbeats 1000000 in
theorem order_Paoos (a b d g h y z t1 t2 p1 p2 q1 q2 : Int) (w : World) (hE : Env w) (hv : (vld a b && vld a d && vld g h) = true)
    (a0 : -9223372036854775808 ≤ a) (a1 : a ≤ 9223372036854775807) (b0 : -9223372036854775808 ≤ b) (b1 : b ≤ 9223372036854775807)
    (d0 : -9223372036854775808 ≤ d) (d1 : d ≤ 9223372036854775807)
    (g0 : -9223372036854775808 ≤ g) (g1 : g ≤ 9223372036854775807) (h0 : -9223372036854775808 ≤ h) (h1 : h ≤ 9223372036854775807)
    (k1 : Gives 22 #[.agg #[.int .i64 a, .int .i64 b], .agg #[.int .i64 a, .int .i64 d]] (.tuple #[.int .i64 1, .int .i64 0]))
    (k2 : Gives 22 #[.agg #[.int .i64 a, .int .i64 d], .agg #[.int .i64 g, .int .i64 h]] (.tuple #[.int .i64 y, .int .i64 0]))
    (k3 : Gives 22 #[.agg #[.int .i64 a, .int .i64 b], .agg #[.int .i64 g, .int .i64 h]] (.tuple #[.int .i64 z, .int .i64 0]))
    (k4 : Gives 22 #[.agg #[.int .i64 a, .int .i64 d], .agg #[.int .i64 a, .int .i64 b]] (.tuple #[.int .i64 (-1), .int .i64 0]))
    (k5 : Gives 16 #[.agg #[.int .i64 a, .int .i64 b], .agg #[.int .i64 a, .int .i64 d]] (.tuple #[.agg #[.int .i64 t1, .int .i64 t2], .int .i64 0]))
    (k6 : Gives 14 #[.agg #[.int .i64 a, .int .i64 b], .agg #[.int .i64 g, .int .i64 h]] (.tuple #[.agg #[.int .i64 p1, .int .i64 p2], .int .i64 0]))
    (k7 : Gives 14 #[.agg #[.int .i64 a, .int .i64 d], .agg #[.int .i64 g, .int .i64 h]] (.tuple #[.agg #[.int .i64 q1, .int .i64 q2], .int .i64 0]))
    (k8 : Gives 22 #[.agg #[.int .i64 p1, .int .i64 p2], .agg #[.int .i64 q1, .int .i64 q2]] (.tuple #[.int .i64 1, .int .i64 0]))
    (hne : ¬ b = d)  (hd : 0 < t1) :
    Calls Tryd.prog 7 #[.agg #[.int .i64 a, .int .i64 b], .agg #[.int .i64 a, .int .i64 d], .agg #[.int .i64 g, .int .i64 h]] w fun e w' =>
      e = .returned (.bool true) ∧ Below w.heap.size w w' := by
  have HE := Lib.hid hE
  have HV := Lib.hid hv
  have K1 := Lib.hid k1
  have K2 := Lib.hid k2
  have K3 := Lib.hid k3
  have K4 := Lib.hid k4
  have K5 := Lib.hid k5
  have K6 := Lib.hid k6
  have K7 := Lib.hid k7
  have K8 := Lib.hid k8
  clear hE hv k1 k2 k3 k4 k5 k6 k7 k8
  have f3 : decide (t1 < 0) = false := by simp; omega
  have f4 : decide (0 < t1) = true := by simp; omega
  go_enter Tryd.func7, Tryd.ntmps7
  go_wp2_with fail
  refine (head_any _ (((HE.out.below ((Below.refl _ _).alloc (Nat.le_refl _) _)).below ((Below.refl _ _).alloc (Nat.le_refl _) _)).below ((Below.refl _ _).alloc (Nat.le_refl _) _))).mono ?_
  rintro e w1 ⟨rfl, hb1⟩
  have hz1 := hb1.size
  simp only [World.size_alloc] at hz1
  have T0x : At2 w1 (w.heap.size) (.int .i64 a) (.int .i64 b) := by
    have := (((At2.new w (.int .i64 a) (.int .i64 b) 23).alloc (by first | (simp; done) | (simp; omega)) (.cells #[.int .i64 a, .int .i64 d] 23)).alloc (by first | (simp; done) | (simp; omega)) (.cells #[.int .i64 g, .int .i64 h] 23)).below hb1 (by first | (simp; done) | (simp; omega))
    simpa using this
  have T1x : At2 w1 (w.heap.size + 1) (.int .i64 a) (.int .i64 d) := by
    have := ((At2.new (w.alloc (.cells #[.int .i64 a, .int .i64 b] 23)) (.int .i64 a) (.int .i64 d) 23).alloc (by first | (simp; done) | (simp; omega)) (.cells #[.int .i64 g, .int .i64 h] 23)).below hb1 (by first | (simp; done) | (simp; omega))
    simpa using this
  have T2x : At2 w1 (w.heap.size + 1 + 1) (.int .i64 g) (.int .i64 h) := by
    have := (At2.new ((w.alloc (.cells #[.int .i64 a, .int .i64 b] 23)).alloc (.cells #[.int .i64 a, .int .i64 d] 23)) (.int .i64 g) (.int .i64 h) 23).below hb1 (by first | (simp; done) | (simp; omega))
    simpa using this
  have HB1 : Below w.heap.size w w1 := ((((Below.refl _ _).alloc (by first | (exact Nat.le_refl _) | (simp; done) | (simp; omega)) _).alloc (by first | (exact Nat.le_refl _) | (simp; done) | (simp; omega)) _).alloc (by first | (exact Nat.le_refl _) | (simp; done) | (simp; omega)) _).trans (hb1.mono (by simp; omega))
  have hq1 := HB1.size
  clear hb1
  obtain ⟨p0a, p0b, p0c, p0d⟩ := T0x
  have p0l : w.heap.size < w1.heap.size := World.block_lt_of_cell? _ _ p0a
  obtain ⟨p1a, p1b, p1c, p1d⟩ := T1x
  have p1l : w.heap.size + 1 < w1.heap.size := World.block_lt_of_cell? _ _ p1a
  obtain ⟨p2a, p2b, p2c, p2d⟩ := T2x
  have p2l : w.heap.size + 1 + 1 < w1.heap.size := World.block_lt_of_cell? _ _ p2a
  go_wp2_with fail
  refine (numbers3 a b a d g h true _ HV.out a0 a1 b0 b1 a0 a1 d0 d1 g0 g1 h0 h1 _).mono ?_
  rintro e w2 ⟨rfl, hb2⟩
  have hz2 := hb2.size
  have p0t := (At2.mk p0a p0b p0c p0d).below hb2 (by omega)
  have p1t := (At2.mk p1a p1b p1c p1d).below hb2 (by omega)
  have p2t := (At2.mk p2a p2b p2c p2d).below hb2 (by omega)
  have HB2 : Below w.heap.size w w2 := HB1.trans (hb2.mono hq1)
  have hq2 := HB2.size
  clear hb2 HB1 p0a p0b p0c p0d p0l p1a p1b p1c p1d p1l p2a p2b p2c p2d p2l
  obtain ⟨p0a, p0b, p0c, p0d⟩ := p0t
  have p0l : w.heap.size < w2.heap.size := World.block_lt_of_cell? _ _ p0a
  obtain ⟨p1a, p1b, p1c, p1d⟩ := p1t
  have p1l : w.heap.size + 1 < w2.heap.size := World.block_lt_of_cell? _ _ p1a
  obtain ⟨p2a, p2b, p2c, p2d⟩ := p2t
  have p2l : w.heap.size + 1 + 1 < w2.heap.size := World.block_lt_of_cell? _ _ p2a
  go_wp2_with fail
  refine (K1.out _).mono ?_
  rintro e w3 ⟨rfl, hb3⟩
  have hz3 := hb3.size
  have p0t := (At2.mk p0a p0b p0c p0d).below hb3 (by omega)
  have p1t := (At2.mk p1a p1b p1c p1d).below hb3 (by omega)
  have p2t := (At2.mk p2a p2b p2c p2d).below hb3 (by omega)
  have HB3 : Below w.heap.size w w3 := HB2.trans (hb3.mono hq2)
  have hq3 := HB3.size
  clear hb3 HB2 p0a p0b p0c p0d p0l p1a p1b p1c p1d p1l p2a p2b p2c p2d p2l
  obtain ⟨p0a, p0b, p0c, p0d⟩ := p0t
  have p0l : w.heap.size < w3.heap.size := World.block_lt_of_cell? _ _ p0a
  obtain ⟨p1a, p1b, p1c, p1d⟩ := p1t
  have p1l : w.heap.size + 1 < w3.heap.size := World.block_lt_of_cell? _ _ p1a
  obtain ⟨p2a, p2b, p2c, p2d⟩ := p2t
  have p2l : w.heap.size + 1 + 1 < w3.heap.size := World.block_lt_of_cell? _ _ p2a
  go_wp2_with fail
  refine (K2.out _).mono ?_
  rintro e w4 ⟨rfl, hb4⟩
  have hz4 := hb4.size
  have p0t := (At2.mk p0a p0b p0c p0d).below hb4 (by omega)
  have p1t := (At2.mk p1a p1b p1c p1d).below hb4 (by omega)
  have p2t := (At2.mk p2a p2b p2c p2d).below hb4 (by omega)
  have HB4 : Below w.heap.size w w4 := HB3.trans (hb4.mono hq3)
  have hq4 := HB4.size
  clear hb4 HB3 p0a p0b p0c p0d p0l p1a p1b p1c p1d p1l p2a p2b p2c p2d p2l
  obtain ⟨p0a, p0b, p0c, p0d⟩ := p0t
  have p0l : w.heap.size < w4.heap.size := World.block_lt_of_cell? _ _ p0a
  obtain ⟨p1a, p1b, p1c, p1d⟩ := p1t
  have p1l : w.heap.size + 1 < w4.heap.size := World.block_lt_of_cell? _ _ p1a
  obtain ⟨p2a, p2b, p2c, p2d⟩ := p2t
  have p2l : w.heap.size + 1 + 1 < w4.heap.size := World.block_lt_of_cell? _ _ p2a
  go_wp2_with fail
  refine (K3.out _).mono ?_
  rintro e w5 ⟨rfl, hb5⟩
  have hz5 := hb5.size
  have p0t := (At2.mk p0a p0b p0c p0d).below hb5 (by omega)
  have p1t := (At2.mk p1a p1b p1c p1d).below hb5 (by omega)
  have p2t := (At2.mk p2a p2b p2c p2d).below hb5 (by omega)
  have HB5 : Below w.heap.size w w5 := HB4.trans (hb5.mono hq4)
  have hq5 := HB5.size
  clear hb5 HB4 p0a p0b p0c p0d p0l p1a p1b p1c p1d p1l p2a p2b p2c p2d p2l
  obtain ⟨p0a, p0b, p0c, p0d⟩ := p0t
  have p0l : w.heap.size < w5.heap.size := World.block_lt_of_cell? _ _ p0a
  obtain ⟨p1a, p1b, p1c, p1d⟩ := p1t
  have p1l : w.heap.size + 1 < w5.heap.size := World.block_lt_of_cell? _ _ p1a
  obtain ⟨p2a, p2b, p2c, p2d⟩ := p2t
  have p2l : w.heap.size + 1 + 1 < w5.heap.size := World.block_lt_of_cell? _ _ p2a
  go_wp2_with fail
  refine (K4.out _).mono ?_
  rintro e w6 ⟨rfl, hb6⟩
  have hz6 := hb6.size
  have p0t := (At2.mk p0a p0b p0c p0d).below hb6 (by omega)
  have p1t := (At2.mk p1a p1b p1c p1d).below hb6 (by omega)
  have p2t := (At2.mk p2a p2b p2c p2d).below hb6 (by omega)
  have HB6 : Below w.heap.size w w6 := HB5.trans (hb6.mono hq5)
  have hq6 := HB6.size
  clear hb6 HB5 p0a p0b p0c p0d p0l p1a p1b p1c p1d p1l p2a p2b p2c p2d p2l
  obtain ⟨p0a, p0b, p0c, p0d⟩ := p0t
  have p0l : w.heap.size < w6.heap.size := World.block_lt_of_cell? _ _ p0a
  obtain ⟨p1a, p1b, p1c, p1d⟩ := p1t
  have p1l : w.heap.size + 1 < w6.heap.size := World.block_lt_of_cell? _ _ p1a
  obtain ⟨p2a, p2b, p2c, p2d⟩ := p2t
  have p2l : w.heap.size + 1 + 1 < w6.heap.size := World.block_lt_of_cell? _ _ p2a
  go_wp2_with fail
  refine (K5.out _).mono ?_
  rintro e w7 ⟨rfl, hb7⟩
  have hz7 := hb7.size
  have p0t := (At2.mk p0a p0b p0c p0d).below hb7 (by omega)
  have p1t := (At2.mk p1a p1b p1c p1d).below hb7 (by omega)
  have p2t := (At2.mk p2a p2b p2c p2d).below hb7 (by omega)
  have HB7 : Below w.heap.size w w7 := HB6.trans (hb7.mono hq6)
  have hq7 := HB7.size
  clear hb7 HB6 p0a p0b p0c p0d p0l p1a p1b p1c p1d p1l p2a p2b p2c p2d p2l
  obtain ⟨p0a, p0b, p0c, p0d⟩ := p0t
  have p0l : w.heap.size < w7.heap.size := World.block_lt_of_cell? _ _ p0a
  obtain ⟨p1a, p1b, p1c, p1d⟩ := p1t
  have p1l : w.heap.size + 1 < w7.heap.size := World.block_lt_of_cell? _ _ p1a
  obtain ⟨p2a, p2b, p2c, p2d⟩ := p2t
  have p2l : w.heap.size + 1 + 1 < w7.heap.size := World.block_lt_of_cell? _ _ p2a
  go_wp2_with fail
  refine (K6.out _).mono ?_
  rintro e w8 ⟨rfl, hb8⟩
  have hz8 := hb8.size
  simp only [World.size_alloc] at hz8
  have p0t := ((At2.mk p0a p0b p0c p0d).alloc (by omega) _).below hb8 (by simp; omega)
  have p1t := ((At2.mk p1a p1b p1c p1d).alloc (by omega) _).below hb8 (by simp; omega)
  have p2t := ((At2.mk p2a p2b p2c p2d).alloc (by omega) _).below hb8 (by simp; omega)
  have ddt := (At2.new w7 (.int .i64 t1) (.int .i64 t2) 23).below hb8 (by simp)
  have HB8 : Below w.heap.size w w8 := (HB7.alloc hq7 _).trans (hb8.mono (by simp; omega))
  have hq8 := HB8.size
  clear hb8 HB7 p0a p0b p0c p0d p0l p1a p1b p1c p1d p1l p2a p2b p2c p2d p2l
  obtain ⟨p0a, p0b, p0c, p0d⟩ := p0t
  have p0l : w.heap.size < w8.heap.size := World.block_lt_of_cell? _ _ p0a
  obtain ⟨p1a, p1b, p1c, p1d⟩ := p1t
  have p1l : w.heap.size + 1 < w8.heap.size := World.block_lt_of_cell? _ _ p1a
  obtain ⟨p2a, p2b, p2c, p2d⟩ := p2t
  have p2l : w.heap.size + 1 + 1 < w8.heap.size := World.block_lt_of_cell? _ _ p2a
  obtain ⟨dda, ddb, ddc, ddd⟩ := ddt
  have ddl : w7.heap.size < w8.heap.size := World.block_lt_of_cell? _ _ dda
  go_wp2_with fail
  refine (K7.out _).mono ?_
  rintro e w9 ⟨rfl, hb9⟩
  have hz9 := hb9.size
  simp only [World.size_alloc] at hz9
  have p0t := ((At2.mk p0a p0b p0c p0d).alloc (by omega) _).below hb9 (by simp; omega)
  have p1t := ((At2.mk p1a p1b p1c p1d).alloc (by omega) _).below hb9 (by simp; omega)
  have p2t := ((At2.mk p2a p2b p2c p2d).alloc (by omega) _).below hb9 (by simp; omega)
  have ddt := ((At2.mk dda ddb ddc ddd).alloc (by omega) _).below hb9 (by simp; omega)
  have ppt := (At2.new w8 (.int .i64 p1) (.int .i64 p2) 23).below hb9 (by simp)
  have HB9 : Below w.heap.size w w9 := (HB8.alloc hq8 _).trans (hb9.mono (by simp; omega))
  have hq9 := HB9.size
  clear hb9 HB8 p0a p0b p0c p0d p0l p1a p1b p1c p1d p1l p2a p2b p2c p2d p2l dda ddb ddc ddd ddl
  obtain ⟨p0a, p0b, p0c, p0d⟩ := p0t
  have p0l : w.heap.size < w9.heap.size := World.block_lt_of_cell? _ _ p0a
  obtain ⟨p1a, p1b, p1c, p1d⟩ := p1t
  have p1l : w.heap.size + 1 < w9.heap.size := World.block_lt_of_cell? _ _ p1a
  obtain ⟨p2a, p2b, p2c, p2d⟩ := p2t
  have p2l : w.heap.size + 1 + 1 < w9.heap.size := World.block_lt_of_cell? _ _ p2a
  obtain ⟨dda, ddb, ddc, ddd⟩ := ddt
  have ddl : w7.heap.size < w9.heap.size := World.block_lt_of_cell? _ _ dda
  obtain ⟨ppa, ppb, ppc, ppd⟩ := ppt
  have ppl : w8.heap.size < w9.heap.size := World.block_lt_of_cell? _ _ ppa
  go_wp2_with fail
  refine (K8.out _).mono ?_
  rintro e w10 ⟨rfl, hb10⟩
  have hz10 := hb10.size
  simp only [World.size_alloc] at hz10
  have p0t := ((At2.mk p0a p0b p0c p0d).alloc (by omega) _).below hb10 (by simp; omega)
  have p1t := ((At2.mk p1a p1b p1c p1d).alloc (by omega) _).below hb10 (by simp; omega)
  have p2t := ((At2.mk p2a p2b p2c p2d).alloc (by omega) _).below hb10 (by simp; omega)
  have ddt := ((At2.mk dda ddb ddc ddd).alloc (by omega) _).below hb10 (by simp; omega)
  have ppt := ((At2.mk ppa ppb ppc ppd).alloc (by omega) _).below hb10 (by simp; omega)
  have qqt := (At2.new w9 (.int .i64 q1) (.int .i64 q2) 23).below hb10 (by simp)
  have HB10 : Below w.heap.size w w10 := (HB9.alloc hq9 _).trans (hb10.mono (by simp; omega))
  have hq10 := HB10.size
  clear hb10 HB9 p0a p0b p0c p0d p0l p1a p1b p1c p1d p1l p2a p2b p2c p2d p2l dda ddb ddc ddd ddl ppa ppb ppc ppd ppl
  obtain ⟨p0a, p0b, p0c, p0d⟩ := p0t
  have p0l : w.heap.size < w10.heap.size := World.block_lt_of_cell? _ _ p0a
  obtain ⟨p1a, p1b, p1c, p1d⟩ := p1t
  have p1l : w.heap.size + 1 < w10.heap.size := World.block_lt_of_cell? _ _ p1a
  obtain ⟨p2a, p2b, p2c, p2d⟩ := p2t
  have p2l : w.heap.size + 1 + 1 < w10.heap.size := World.block_lt_of_cell? _ _ p2a
  obtain ⟨dda, ddb, ddc, ddd⟩ := ddt
  have ddl : w7.heap.size < w10.heap.size := World.block_lt_of_cell? _ _ dda
  obtain ⟨ppa, ppb, ppc, ppd⟩ := ppt
  have ppl : w8.heap.size < w10.heap.size := World.block_lt_of_cell? _ _ ppa
  obtain ⟨qqa, qqb, qqc, qqd⟩ := qqt
  have qql : w9.heap.size < w10.heap.size := World.block_lt_of_cell? _ _ qqa
  go_wp2
  go_ret
  exact ⟨rfl, (by repeat' (first | exact HB10 | refine Below.setCell ?_ (by first | omega | (simp; done) | (simp; omega)) _ | refine below_drewN ?_ _ | refine Below.alloc ?_ (by first | omega | (simp; done) | (simp; omega)) _))⟩

end Go.Proofs.YtohnmffokichkaaDoor
