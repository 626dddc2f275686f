/-
  The walk of the law on floors.
-/
import Derived.Test.YtohnmffokichkaaDoorWalks9
import Derived.Test.YtohnmffokichkaaDoorWalksA
import Derived.Test.YtohnmffokichkaaDoorWalksS
namespace Go.Proofs.YtohnmffokichkaaDoor
open Go.RowKit

set_option maxRecDepth 100000 in
set_option maxHeartbeats 1000000 in
theorem floor_law_no (a b c d : Int) (w : World) (hE : Env w) (hv : (vld a b && vld c d) = false)
    (a0 : -9223372036854775808 ≤ a) (a1 : a ≤ 9223372036854775807) (b0 : -9223372036854775808 ≤ b) (b1 : b ≤ 9223372036854775807)
    (c0 : -9223372036854775808 ≤ c) (c1 : c ≤ 9223372036854775807) (d0 : -9223372036854775808 ≤ d) (d1 : d ≤ 9223372036854775807) :
    Calls Tryd.prog 8 #[.agg #[.int .i64 a, .int .i64 b], .agg #[.int .i64 c, .int .i64 d]] w fun e w' =>
      e = .returned (.bool true) ∧ Below w.heap.size w w' := by
  have HE := Lib.hid hE
  have HV := Lib.hid hv
  clear hE hv
  go_enter Tryd.func8, Tryd.ntmps8
  go_wp2_with fail
  refine (head_any _ ((HE.out.below ((Below.refl _ _).alloc (Nat.le_refl _) _)).below ((Below.refl _ _).alloc (Nat.le_refl _) _))).mono ?_
  rintro e w1 ⟨rfl, hb1⟩
  have hz1 := hb1.size
  simp only [World.size_alloc] at hz1
  have T0x : At2 w1 (w.heap.size) (.int .i64 a) (.int .i64 b) := by
    have := ((At2.new w (.int .i64 a) (.int .i64 b) 23).alloc (by first | (simp; done) | (simp; omega)) (.cells #[.int .i64 c, .int .i64 d] 23)).below hb1 (by first | (simp; done) | (simp; omega))
    simpa using this
  have T1x : At2 w1 (w.heap.size + 1) (.int .i64 c) (.int .i64 d) := by
    have := (At2.new (w.alloc (.cells #[.int .i64 a, .int .i64 b] 23)) (.int .i64 c) (.int .i64 d) 23).below hb1 (by first | (simp; done) | (simp; omega))
    simpa using this
  have HB1 : Below w.heap.size w w1 := (((Below.refl _ _).alloc (by first | (exact Nat.le_refl _) | (simp; done) | (simp; omega)) _).alloc (by first | (exact Nat.le_refl _) | (simp; done) | (simp; omega)) _).trans (hb1.mono (by simp; omega))
  have hq1 := HB1.size
  clear hb1
  obtain ⟨p0a, p0b, p0c, p0d⟩ := T0x
  have p0l : w.heap.size < w1.heap.size := World.block_lt_of_cell? _ _ p0a
  obtain ⟨p1a, p1b, p1c, p1d⟩ := T1x
  have p1l : w.heap.size + 1 < w1.heap.size := World.block_lt_of_cell? _ _ p1a
  go_wp2_with fail
  refine (numbers2 a b c d false _ HV.out a0 a1 b0 b1 c0 c1 d0 d1 _).mono ?_
  rintro e w2 ⟨rfl, hb2⟩
  have hz2 := hb2.size
  have p0t := (At2.mk p0a p0b p0c p0d).below hb2 (by omega)
  have p1t := (At2.mk p1a p1b p1c p1d).below hb2 (by omega)
  have HB2 : Below w.heap.size w w2 := HB1.trans (hb2.mono hq1)
  have hq2 := HB2.size
  clear hb2 HB1 p0a p0b p0c p0d p0l p1a p1b p1c p1d p1l
  obtain ⟨p0a, p0b, p0c, p0d⟩ := p0t
  have p0l : w.heap.size < w2.heap.size := World.block_lt_of_cell? _ _ p0a
  obtain ⟨p1a, p1b, p1c, p1d⟩ := p1t
  have p1l : w.heap.size + 1 < w2.heap.size := World.block_lt_of_cell? _ _ p1a
  go_wp2
  go_ret
  exact ⟨rfl, (by repeat' (first | exact HB2 | refine Below.setCell ?_ (by first | omega | (simp; done) | (simp; omega)) _ | refine below_drewN ?_ _ | refine Below.alloc ?_ (by first | omega | (simp; done) | (simp; omega)) _))⟩

/-- What a call returns, whatever the world. -/
def Gives (f : Nat) (args : Array Value) (v : Value) : Prop := ∀ w : World, Calls Tryd.prog f args w fun e w' => e = .returned v ∧ Below w.heap.size w w'

set_option maxRecDepth 100000 in
set_option maxHeartbeats 1000000 in
theorem floor_law_lt (a b c d n m r x : Int) (w : World) (hE : Env w) (hv : (vld a b && vld c d) = true)
    (a0 : -9223372036854775808 ≤ a) (a1 : a ≤ 9223372036854775807) (b0 : -9223372036854775808 ≤ b) (b1 : b ≤ 9223372036854775807)
    (c0 : -9223372036854775808 ≤ c) (c1 : c ≤ 9223372036854775807) (d0 : -9223372036854775808 ≤ d) (d1 : d ≤ 9223372036854775807)
    (k1 : Gives 24 #[.agg #[.int .i64 a, .int .i64 b]] (.tuple #[.int .i64 n, .int .i64 0]))
    (k2 : Gives 24 #[.agg #[.int .i64 c, .int .i64 d]] (.tuple #[.int .i64 m, .int .i64 0]))
    (k3 : Gives 16 #[.agg #[.int .i64 a, .int .i64 b], .agg #[.int .i64 n, .int .i64 1]] (.tuple #[.agg #[.int .i64 r, .int .i64 b], .int .i64 0]))
    (k4 : Gives 22 #[.agg #[.int .i64 a, .int .i64 b], .agg #[.int .i64 c, .int .i64 d]] (.tuple #[.int .i64 x, .int .i64 0]))
    (hr0 : 0 ≤ r) (hr1 : r < b) (hx : x < 0) (hnm : n ≤ m) :
    Calls Tryd.prog 8 #[.agg #[.int .i64 a, .int .i64 b], .agg #[.int .i64 c, .int .i64 d]] w fun e w' =>
      e = .returned (.bool true) ∧ Below w.heap.size w w' := by
  have HE := Lib.hid hE
  have HV := Lib.hid hv
  have K1 := Lib.hid k1
  have K2 := Lib.hid k2
  have K3 := Lib.hid k3
  have K4 := Lib.hid k4
  clear hE hv k1 k2 k3 k4
  have f1 : decide (0 < x) = false := by simp; omega
  have f2 : decide (x < 0) = true := by simp; omega
  have f3 : decide (n ≤ m) = true := by simp; omega
  go_enter Tryd.func8, Tryd.ntmps8
  go_wp2_with fail
  refine (head_any _ ((HE.out.below ((Below.refl _ _).alloc (Nat.le_refl _) _)).below ((Below.refl _ _).alloc (Nat.le_refl _) _))).mono ?_
  rintro e w1 ⟨rfl, hb1⟩
  have hz1 := hb1.size
  simp only [World.size_alloc] at hz1
  have T0x : At2 w1 (w.heap.size) (.int .i64 a) (.int .i64 b) := by
    have := ((At2.new w (.int .i64 a) (.int .i64 b) 23).alloc (by first | (simp; done) | (simp; omega)) (.cells #[.int .i64 c, .int .i64 d] 23)).below hb1 (by first | (simp; done) | (simp; omega))
    simpa using this
  have T1x : At2 w1 (w.heap.size + 1) (.int .i64 c) (.int .i64 d) := by
    have := (At2.new (w.alloc (.cells #[.int .i64 a, .int .i64 b] 23)) (.int .i64 c) (.int .i64 d) 23).below hb1 (by first | (simp; done) | (simp; omega))
    simpa using this
  have HB1 : Below w.heap.size w w1 := (((Below.refl _ _).alloc (by first | (exact Nat.le_refl _) | (simp; done) | (simp; omega)) _).alloc (by first | (exact Nat.le_refl _) | (simp; done) | (simp; omega)) _).trans (hb1.mono (by simp; omega))
  have hq1 := HB1.size
  clear hb1
  obtain ⟨p0a, p0b, p0c, p0d⟩ := T0x
  have p0l : w.heap.size < w1.heap.size := World.block_lt_of_cell? _ _ p0a
  obtain ⟨p1a, p1b, p1c, p1d⟩ := T1x
  have p1l : w.heap.size + 1 < w1.heap.size := World.block_lt_of_cell? _ _ p1a
  go_wp2_with fail
  refine (numbers2 a b c d true _ HV.out a0 a1 b0 b1 c0 c1 d0 d1 _).mono ?_
  rintro e w2 ⟨rfl, hb2⟩
  have hz2 := hb2.size
  have p0t := (At2.mk p0a p0b p0c p0d).below hb2 (by omega)
  have p1t := (At2.mk p1a p1b p1c p1d).below hb2 (by omega)
  have HB2 : Below w.heap.size w w2 := HB1.trans (hb2.mono hq1)
  have hq2 := HB2.size
  clear hb2 HB1 p0a p0b p0c p0d p0l p1a p1b p1c p1d p1l
  obtain ⟨p0a, p0b, p0c, p0d⟩ := p0t
  have p0l : w.heap.size < w2.heap.size := World.block_lt_of_cell? _ _ p0a
  obtain ⟨p1a, p1b, p1c, p1d⟩ := p1t
  have p1l : w.heap.size + 1 < w2.heap.size := World.block_lt_of_cell? _ _ p1a
  go_wp2_with fail
  refine (K1.out _).mono ?_
  rintro e w3 ⟨rfl, hb3⟩
  have hz3 := hb3.size
  have p0t := (At2.mk p0a p0b p0c p0d).below hb3 (by omega)
  have p1t := (At2.mk p1a p1b p1c p1d).below hb3 (by omega)
  have HB3 : Below w.heap.size w w3 := HB2.trans (hb3.mono hq2)
  have hq3 := HB3.size
  clear hb3 HB2 p0a p0b p0c p0d p0l p1a p1b p1c p1d p1l
  obtain ⟨p0a, p0b, p0c, p0d⟩ := p0t
  have p0l : w.heap.size < w3.heap.size := World.block_lt_of_cell? _ _ p0a
  obtain ⟨p1a, p1b, p1c, p1d⟩ := p1t
  have p1l : w.heap.size + 1 < w3.heap.size := World.block_lt_of_cell? _ _ p1a
  go_wp2_with fail
  refine (K2.out _).mono ?_
  rintro e w4 ⟨rfl, hb4⟩
  have hz4 := hb4.size
  have p0t := (At2.mk p0a p0b p0c p0d).below hb4 (by omega)
  have p1t := (At2.mk p1a p1b p1c p1d).below hb4 (by omega)
  have HB4 : Below w.heap.size w w4 := HB3.trans (hb4.mono hq3)
  have hq4 := HB4.size
  clear hb4 HB3 p0a p0b p0c p0d p0l p1a p1b p1c p1d p1l
  obtain ⟨p0a, p0b, p0c, p0d⟩ := p0t
  have p0l : w.heap.size < w4.heap.size := World.block_lt_of_cell? _ _ p0a
  obtain ⟨p1a, p1b, p1c, p1d⟩ := p1t
  have p1l : w.heap.size + 1 < w4.heap.size := World.block_lt_of_cell? _ _ p1a
  go_wp2_with fail
  refine (K3.out _).mono ?_
  rintro e w5 ⟨rfl, hb5⟩
  have hz5 := hb5.size
  have p0t := (At2.mk p0a p0b p0c p0d).below hb5 (by omega)
  have p1t := (At2.mk p1a p1b p1c p1d).below hb5 (by omega)
  have HB5 : Below w.heap.size w w5 := HB4.trans (hb5.mono hq4)
  have hq5 := HB5.size
  clear hb5 HB4 p0a p0b p0c p0d p0l p1a p1b p1c p1d p1l
  obtain ⟨p0a, p0b, p0c, p0d⟩ := p0t
  have p0l : w.heap.size < w5.heap.size := World.block_lt_of_cell? _ _ p0a
  obtain ⟨p1a, p1b, p1c, p1d⟩ := p1t
  have p1l : w.heap.size + 1 < w5.heap.size := World.block_lt_of_cell? _ _ p1a
  go_wp2_with fail
  refine (K4.out _).mono ?_
  rintro e w6 ⟨rfl, hb6⟩
  have hz6 := hb6.size
  simp only [World.size_alloc] at hz6
  have p0t := ((At2.mk p0a p0b p0c p0d).alloc (by omega) _).below hb6 (by simp; omega)
  have p1t := ((At2.mk p1a p1b p1c p1d).alloc (by omega) _).below hb6 (by simp; omega)
  have qt := (At2.new w5 (.int .i64 r) (.int .i64 b) 23).below hb6 (by simp)
  have HB6 : Below w.heap.size w w6 := (HB5.alloc hq5 _).trans (hb6.mono (by simp; omega))
  have hq6 := HB6.size
  clear hb6 HB5 p0a p0b p0c p0d p0l p1a p1b p1c p1d p1l
  obtain ⟨p0a, p0b, p0c, p0d⟩ := p0t
  have p0l : w.heap.size < w6.heap.size := World.block_lt_of_cell? _ _ p0a
  obtain ⟨p1a, p1b, p1c, p1d⟩ := p1t
  have p1l : w.heap.size + 1 < w6.heap.size := World.block_lt_of_cell? _ _ p1a
  obtain ⟨qa, qb, qc, qd⟩ := qt
  have ql : w5.heap.size < w6.heap.size := World.block_lt_of_cell? _ _ qa
  go_wp2
  go_ret
  exact ⟨rfl, (by repeat' (first | exact HB6 | refine Below.setCell ?_ (by first | omega | (simp; done) | (simp; omega)) _ | refine below_drewN ?_ _ | refine Below.alloc ?_ (by first | omega | (simp; done) | (simp; omega)) _))⟩

set_option maxRecDepth 100000 in
set_option maxHeartbeats 1000000 in
theorem floor_law_eq (a b c d n m r x : Int) (w : World) (hE : Env w) (hv : (vld a b && vld c d) = true)
    (a0 : -9223372036854775808 ≤ a) (a1 : a ≤ 9223372036854775807) (b0 : -9223372036854775808 ≤ b) (b1 : b ≤ 9223372036854775807)
    (c0 : -9223372036854775808 ≤ c) (c1 : c ≤ 9223372036854775807) (d0 : -9223372036854775808 ≤ d) (d1 : d ≤ 9223372036854775807)
    (k1 : Gives 24 #[.agg #[.int .i64 a, .int .i64 b]] (.tuple #[.int .i64 n, .int .i64 0]))
    (k2 : Gives 24 #[.agg #[.int .i64 c, .int .i64 d]] (.tuple #[.int .i64 m, .int .i64 0]))
    (k3 : Gives 16 #[.agg #[.int .i64 a, .int .i64 b], .agg #[.int .i64 n, .int .i64 1]] (.tuple #[.agg #[.int .i64 r, .int .i64 b], .int .i64 0]))
    (k4 : Gives 22 #[.agg #[.int .i64 a, .int .i64 b], .agg #[.int .i64 c, .int .i64 d]] (.tuple #[.int .i64 x, .int .i64 0]))
    (hr0 : 0 ≤ r) (hr1 : r < b) (hx : x = 0) (hnm : n = m) :
    Calls Tryd.prog 8 #[.agg #[.int .i64 a, .int .i64 b], .agg #[.int .i64 c, .int .i64 d]] w fun e w' =>
      e = .returned (.bool true) ∧ Below w.heap.size w w' := by
  have HE := Lib.hid hE
  have HV := Lib.hid hv
  have K1 := Lib.hid k1
  have K2 := Lib.hid k2
  have K3 := Lib.hid k3
  have K4 := Lib.hid k4
  clear hE hv k1 k2 k3 k4
  subst hx
  subst hnm
  go_enter Tryd.func8, Tryd.ntmps8
  go_wp2_with fail
  refine (head_any _ ((HE.out.below ((Below.refl _ _).alloc (Nat.le_refl _) _)).below ((Below.refl _ _).alloc (Nat.le_refl _) _))).mono ?_
  rintro e w1 ⟨rfl, hb1⟩
  have hz1 := hb1.size
  simp only [World.size_alloc] at hz1
  have T0x : At2 w1 (w.heap.size) (.int .i64 a) (.int .i64 b) := by
    have := ((At2.new w (.int .i64 a) (.int .i64 b) 23).alloc (by first | (simp; done) | (simp; omega)) (.cells #[.int .i64 c, .int .i64 d] 23)).below hb1 (by first | (simp; done) | (simp; omega))
    simpa using this
  have T1x : At2 w1 (w.heap.size + 1) (.int .i64 c) (.int .i64 d) := by
    have := (At2.new (w.alloc (.cells #[.int .i64 a, .int .i64 b] 23)) (.int .i64 c) (.int .i64 d) 23).below hb1 (by first | (simp; done) | (simp; omega))
    simpa using this
  have HB1 : Below w.heap.size w w1 := (((Below.refl _ _).alloc (by first | (exact Nat.le_refl _) | (simp; done) | (simp; omega)) _).alloc (by first | (exact Nat.le_refl _) | (simp; done) | (simp; omega)) _).trans (hb1.mono (by simp; omega))
  have hq1 := HB1.size
  clear hb1
  obtain ⟨p0a, p0b, p0c, p0d⟩ := T0x
  have p0l : w.heap.size < w1.heap.size := World.block_lt_of_cell? _ _ p0a
  obtain ⟨p1a, p1b, p1c, p1d⟩ := T1x
  have p1l : w.heap.size + 1 < w1.heap.size := World.block_lt_of_cell? _ _ p1a
  go_wp2_with fail
  refine (numbers2 a b c d true _ HV.out a0 a1 b0 b1 c0 c1 d0 d1 _).mono ?_
  rintro e w2 ⟨rfl, hb2⟩
  have hz2 := hb2.size
  have p0t := (At2.mk p0a p0b p0c p0d).below hb2 (by omega)
  have p1t := (At2.mk p1a p1b p1c p1d).below hb2 (by omega)
  have HB2 : Below w.heap.size w w2 := HB1.trans (hb2.mono hq1)
  have hq2 := HB2.size
  clear hb2 HB1 p0a p0b p0c p0d p0l p1a p1b p1c p1d p1l
  obtain ⟨p0a, p0b, p0c, p0d⟩ := p0t
  have p0l : w.heap.size < w2.heap.size := World.block_lt_of_cell? _ _ p0a
  obtain ⟨p1a, p1b, p1c, p1d⟩ := p1t
  have p1l : w.heap.size + 1 < w2.heap.size := World.block_lt_of_cell? _ _ p1a
  go_wp2_with fail
  refine (K1.out _).mono ?_
  rintro e w3 ⟨rfl, hb3⟩
  have hz3 := hb3.size
  have p0t := (At2.mk p0a p0b p0c p0d).below hb3 (by omega)
  have p1t := (At2.mk p1a p1b p1c p1d).below hb3 (by omega)
  have HB3 : Below w.heap.size w w3 := HB2.trans (hb3.mono hq2)
  have hq3 := HB3.size
  clear hb3 HB2 p0a p0b p0c p0d p0l p1a p1b p1c p1d p1l
  obtain ⟨p0a, p0b, p0c, p0d⟩ := p0t
  have p0l : w.heap.size < w3.heap.size := World.block_lt_of_cell? _ _ p0a
  obtain ⟨p1a, p1b, p1c, p1d⟩ := p1t
  have p1l : w.heap.size + 1 < w3.heap.size := World.block_lt_of_cell? _ _ p1a
  go_wp2_with fail
  refine (K2.out _).mono ?_
  rintro e w4 ⟨rfl, hb4⟩
  have hz4 := hb4.size
  have p0t := (At2.mk p0a p0b p0c p0d).below hb4 (by omega)
  have p1t := (At2.mk p1a p1b p1c p1d).below hb4 (by omega)
  have HB4 : Below w.heap.size w w4 := HB3.trans (hb4.mono hq3)
  have hq4 := HB4.size
  clear hb4 HB3 p0a p0b p0c p0d p0l p1a p1b p1c p1d p1l
  obtain ⟨p0a, p0b, p0c, p0d⟩ := p0t
  have p0l : w.heap.size < w4.heap.size := World.block_lt_of_cell? _ _ p0a
  obtain ⟨p1a, p1b, p1c, p1d⟩ := p1t
  have p1l : w.heap.size + 1 < w4.heap.size := World.block_lt_of_cell? _ _ p1a
  go_wp2_with fail
  refine (K3.out _).mono ?_
  rintro e w5 ⟨rfl, hb5⟩
  have hz5 := hb5.size
  have p0t := (At2.mk p0a p0b p0c p0d).below hb5 (by omega)
  have p1t := (At2.mk p1a p1b p1c p1d).below hb5 (by omega)
  have HB5 : Below w.heap.size w w5 := HB4.trans (hb5.mono hq4)
  have hq5 := HB5.size
  clear hb5 HB4 p0a p0b p0c p0d p0l p1a p1b p1c p1d p1l
  obtain ⟨p0a, p0b, p0c, p0d⟩ := p0t
  have p0l : w.heap.size < w5.heap.size := World.block_lt_of_cell? _ _ p0a
  obtain ⟨p1a, p1b, p1c, p1d⟩ := p1t
  have p1l : w.heap.size + 1 < w5.heap.size := World.block_lt_of_cell? _ _ p1a
  go_wp2_with fail
  refine (K4.out _).mono ?_
  rintro e w6 ⟨rfl, hb6⟩
  have hz6 := hb6.size
  simp only [World.size_alloc] at hz6
  have p0t := ((At2.mk p0a p0b p0c p0d).alloc (by omega) _).below hb6 (by simp; omega)
  have p1t := ((At2.mk p1a p1b p1c p1d).alloc (by omega) _).below hb6 (by simp; omega)
  have qt := (At2.new w5 (.int .i64 r) (.int .i64 b) 23).below hb6 (by simp)
  have HB6 : Below w.heap.size w w6 := (HB5.alloc hq5 _).trans (hb6.mono (by simp; omega))
  have hq6 := HB6.size
  clear hb6 HB5 p0a p0b p0c p0d p0l p1a p1b p1c p1d p1l
  obtain ⟨p0a, p0b, p0c, p0d⟩ := p0t
  have p0l : w.heap.size < w6.heap.size := World.block_lt_of_cell? _ _ p0a
  obtain ⟨p1a, p1b, p1c, p1d⟩ := p1t
  have p1l : w.heap.size + 1 < w6.heap.size := World.block_lt_of_cell? _ _ p1a
  obtain ⟨qa, qb, qc, qd⟩ := qt
  have ql : w5.heap.size < w6.heap.size := World.block_lt_of_cell? _ _ qa
  go_wp2
  go_ret
  exact ⟨rfl, (by repeat' (first | exact HB6 | refine Below.setCell ?_ (by first | omega | (simp; done) | (simp; omega)) _ | refine below_drewN ?_ _ | refine Below.alloc ?_ (by first | omega | (simp; done) | (simp; omega)) _))⟩

set_option maxRecDepth 100000 in
set_option maxHeartbeats 1000000 in
theorem floor_law_gt (a b c d n m r x : Int) (w : World) (hE : Env w) (hv : (vld a b && vld c d) = true)
    (a0 : -9223372036854775808 ≤ a) (a1 : a ≤ 9223372036854775807) (b0 : -9223372036854775808 ≤ b) (b1 : b ≤ 9223372036854775807)
    (c0 : -9223372036854775808 ≤ c) (c1 : c ≤ 9223372036854775807) (d0 : -9223372036854775808 ≤ d) (d1 : d ≤ 9223372036854775807)
    (k1 : Gives 24 #[.agg #[.int .i64 a, .int .i64 b]] (.tuple #[.int .i64 n, .int .i64 0]))
    (k2 : Gives 24 #[.agg #[.int .i64 c, .int .i64 d]] (.tuple #[.int .i64 m, .int .i64 0]))
    (k3 : Gives 16 #[.agg #[.int .i64 a, .int .i64 b], .agg #[.int .i64 n, .int .i64 1]] (.tuple #[.agg #[.int .i64 r, .int .i64 b], .int .i64 0]))
    (k4 : Gives 22 #[.agg #[.int .i64 a, .int .i64 b], .agg #[.int .i64 c, .int .i64 d]] (.tuple #[.int .i64 x, .int .i64 0]))
    (hr0 : 0 ≤ r) (hr1 : r < b) (hx : 0 < x) (hnm : m ≤ n) :
    Calls Tryd.prog 8 #[.agg #[.int .i64 a, .int .i64 b], .agg #[.int .i64 c, .int .i64 d]] w fun e w' =>
      e = .returned (.bool true) ∧ Below w.heap.size w w' := by
  have HE := Lib.hid hE
  have HV := Lib.hid hv
  have K1 := Lib.hid k1
  have K2 := Lib.hid k2
  have K3 := Lib.hid k3
  have K4 := Lib.hid k4
  clear hE hv k1 k2 k3 k4
  have f1 : decide (0 < x) = true := by simp; omega
  have f2 : decide (x < 0) = false := by simp; omega
  have f3 : decide (m ≤ n) = true := by simp; omega
  go_enter Tryd.func8, Tryd.ntmps8
  go_wp2_with fail
  refine (head_any _ ((HE.out.below ((Below.refl _ _).alloc (Nat.le_refl _) _)).below ((Below.refl _ _).alloc (Nat.le_refl _) _))).mono ?_
  rintro e w1 ⟨rfl, hb1⟩
  have hz1 := hb1.size
  simp only [World.size_alloc] at hz1
  have T0x : At2 w1 (w.heap.size) (.int .i64 a) (.int .i64 b) := by
    have := ((At2.new w (.int .i64 a) (.int .i64 b) 23).alloc (by first | (simp; done) | (simp; omega)) (.cells #[.int .i64 c, .int .i64 d] 23)).below hb1 (by first | (simp; done) | (simp; omega))
    simpa using this
  have T1x : At2 w1 (w.heap.size + 1) (.int .i64 c) (.int .i64 d) := by
    have := (At2.new (w.alloc (.cells #[.int .i64 a, .int .i64 b] 23)) (.int .i64 c) (.int .i64 d) 23).below hb1 (by first | (simp; done) | (simp; omega))
    simpa using this
  have HB1 : Below w.heap.size w w1 := (((Below.refl _ _).alloc (by first | (exact Nat.le_refl _) | (simp; done) | (simp; omega)) _).alloc (by first | (exact Nat.le_refl _) | (simp; done) | (simp; omega)) _).trans (hb1.mono (by simp; omega))
  have hq1 := HB1.size
  clear hb1
  obtain ⟨p0a, p0b, p0c, p0d⟩ := T0x
  have p0l : w.heap.size < w1.heap.size := World.block_lt_of_cell? _ _ p0a
  obtain ⟨p1a, p1b, p1c, p1d⟩ := T1x
  have p1l : w.heap.size + 1 < w1.heap.size := World.block_lt_of_cell? _ _ p1a
  go_wp2_with fail
  refine (numbers2 a b c d true _ HV.out a0 a1 b0 b1 c0 c1 d0 d1 _).mono ?_
  rintro e w2 ⟨rfl, hb2⟩
  have hz2 := hb2.size
  have p0t := (At2.mk p0a p0b p0c p0d).below hb2 (by omega)
  have p1t := (At2.mk p1a p1b p1c p1d).below hb2 (by omega)
  have HB2 : Below w.heap.size w w2 := HB1.trans (hb2.mono hq1)
  have hq2 := HB2.size
  clear hb2 HB1 p0a p0b p0c p0d p0l p1a p1b p1c p1d p1l
  obtain ⟨p0a, p0b, p0c, p0d⟩ := p0t
  have p0l : w.heap.size < w2.heap.size := World.block_lt_of_cell? _ _ p0a
  obtain ⟨p1a, p1b, p1c, p1d⟩ := p1t
  have p1l : w.heap.size + 1 < w2.heap.size := World.block_lt_of_cell? _ _ p1a
  go_wp2_with fail
  refine (K1.out _).mono ?_
  rintro e w3 ⟨rfl, hb3⟩
  have hz3 := hb3.size
  have p0t := (At2.mk p0a p0b p0c p0d).below hb3 (by omega)
  have p1t := (At2.mk p1a p1b p1c p1d).below hb3 (by omega)
  have HB3 : Below w.heap.size w w3 := HB2.trans (hb3.mono hq2)
  have hq3 := HB3.size
  clear hb3 HB2 p0a p0b p0c p0d p0l p1a p1b p1c p1d p1l
  obtain ⟨p0a, p0b, p0c, p0d⟩ := p0t
  have p0l : w.heap.size < w3.heap.size := World.block_lt_of_cell? _ _ p0a
  obtain ⟨p1a, p1b, p1c, p1d⟩ := p1t
  have p1l : w.heap.size + 1 < w3.heap.size := World.block_lt_of_cell? _ _ p1a
  go_wp2_with fail
  refine (K2.out _).mono ?_
  rintro e w4 ⟨rfl, hb4⟩
  have hz4 := hb4.size
  have p0t := (At2.mk p0a p0b p0c p0d).below hb4 (by omega)
  have p1t := (At2.mk p1a p1b p1c p1d).below hb4 (by omega)
  have HB4 : Below w.heap.size w w4 := HB3.trans (hb4.mono hq3)
  have hq4 := HB4.size
  clear hb4 HB3 p0a p0b p0c p0d p0l p1a p1b p1c p1d p1l
  obtain ⟨p0a, p0b, p0c, p0d⟩ := p0t
  have p0l : w.heap.size < w4.heap.size := World.block_lt_of_cell? _ _ p0a
  obtain ⟨p1a, p1b, p1c, p1d⟩ := p1t
  have p1l : w.heap.size + 1 < w4.heap.size := World.block_lt_of_cell? _ _ p1a
  go_wp2_with fail
  refine (K3.out _).mono ?_
  rintro e w5 ⟨rfl, hb5⟩
  have hz5 := hb5.size
  have p0t := (At2.mk p0a p0b p0c p0d).below hb5 (by omega)
  have p1t := (At2.mk p1a p1b p1c p1d).below hb5 (by omega)
  have HB5 : Below w.heap.size w w5 := HB4.trans (hb5.mono hq4)
  have hq5 := HB5.size
  clear hb5 HB4 p0a p0b p0c p0d p0l p1a p1b p1c p1d p1l
  obtain ⟨p0a, p0b, p0c, p0d⟩ := p0t
  have p0l : w.heap.size < w5.heap.size := World.block_lt_of_cell? _ _ p0a
  obtain ⟨p1a, p1b, p1c, p1d⟩ := p1t
  have p1l : w.heap.size + 1 < w5.heap.size := World.block_lt_of_cell? _ _ p1a
  go_wp2_with fail
  refine (K4.out _).mono ?_
  rintro e w6 ⟨rfl, hb6⟩
  have hz6 := hb6.size
  simp only [World.size_alloc] at hz6
  have p0t := ((At2.mk p0a p0b p0c p0d).alloc (by omega) _).below hb6 (by simp; omega)
  have p1t := ((At2.mk p1a p1b p1c p1d).alloc (by omega) _).below hb6 (by simp; omega)
  have qt := (At2.new w5 (.int .i64 r) (.int .i64 b) 23).below hb6 (by simp)
  have HB6 : Below w.heap.size w w6 := (HB5.alloc hq5 _).trans (hb6.mono (by simp; omega))
  have hq6 := HB6.size
  clear hb6 HB5 p0a p0b p0c p0d p0l p1a p1b p1c p1d p1l
  obtain ⟨p0a, p0b, p0c, p0d⟩ := p0t
  have p0l : w.heap.size < w6.heap.size := World.block_lt_of_cell? _ _ p0a
  obtain ⟨p1a, p1b, p1c, p1d⟩ := p1t
  have p1l : w.heap.size + 1 < w6.heap.size := World.block_lt_of_cell? _ _ p1a
  obtain ⟨qa, qb, qc, qd⟩ := qt
  have ql : w5.heap.size < w6.heap.size := World.block_lt_of_cell? _ _ qa
  go_wp2
  go_ret
  exact ⟨rfl, (by repeat' (first | exact HB6 | refine Below.setCell ?_ (by first | omega | (simp; done) | (simp; omega)) _ | refine below_drewN ?_ _ | refine Below.alloc ?_ (by first | omega | (simp; done) | (simp; omega)) _))⟩

theorem val_small {n : Int} (h0 : -1000000000 ≤ n) (h1 : n ≤ 1000000000) : Q.Val n 1 := ⟨h0, h1, by omega, by omega, by simp⟩
theorem floor_bounds {a b : Int} (a0 : -1000000000 ≤ a) (a1 : a ≤ 1000000000) (hb : 1 ≤ b) : -1000000000 ≤ a / b ∧ a / b ≤ 1000000000 := by
  have f1 := Int.ediv_mul_le a (show b ≠ 0 by omega)
  have f2 := Int.lt_ediv_add_one_mul_self a (show 0 < b by omega)
  refine ⟨?_, ?_⟩
  · rcases Int.lt_or_le (a / b) (-1000000000) with h2 | h2
    · exfalso
      have h3 : (a / b + 1) * b ≤ (-1000000000) * b := Int.mul_le_mul_of_nonneg_right (by omega) (by omega)
      omega
    · exact h2
  · rcases Int.lt_or_le 1000000000 (a / b) with h2 | h2
    · exfalso
      have h3 : 1000000001 * b ≤ a / b * b := Int.mul_le_mul_of_nonneg_right (by omega) (by omega)
      omega
    · exact h2
theorem sub_floor {a b : Int} (h : Q.Val a b) : op2 a b (a / b) 1 (a * 1 - a / b * b) (b * 1) = (a % b, b, 0) := by
  obtain ⟨h1, h2, h3, h4, h5⟩ := h
  have fb := floor_bounds h1 h2 h3
  have e1 : a * 1 - a / b * b = a % b := by rw [Int.mul_one, Int.emod_def, Int.mul_comm]
  have r0 := Int.emod_nonneg a (show b ≠ 0 by omega)
  have r1 := Int.emod_lt_of_pos a (show 0 < b by omega)
  unfold op2
  rw [if_pos ⟨(vld_iff a b).2 ⟨h1, h2, h3, h4, h5⟩, (vld_iff _ _).2 (val_small fb.1 fb.2)⟩, e1, Int.mul_one]
  unfold mk
  have hg : Int.gcd (a % b) b = 1 := by
    have d1 : ((Int.gcd (a % b) b : Nat) : Int) ∣ a % b := Int.gcd_dvd_left ..
    have d2 : ((Int.gcd (a % b) b : Nat) : Int) ∣ b := Int.gcd_dvd_right ..
    have d3 : ((Int.gcd (a % b) b : Nat) : Int) ∣ a := by
      have e := Int.emod_add_mul_ediv a b
      have d4 := Int.dvd_add d1 (Int.dvd_mul_of_dvd_left (c := a / b) d2)
      rw [e] at d4; exact d4
    have d5 := Int.dvd_coe_gcd d3 d2
    have e5 : Int.gcd a b = 1 := h5
    rw [e5] at d5
    have d6 := Int.natCast_dvd_natCast.1 d5
    exact Nat.dvd_one.1 d6
  have hv : Q.Val (a % b) b := ⟨by omega, by omega, h3, h4, hg⟩
  rw [if_neg (by omega), Q.red_of (by omega) hv rfl]

theorem floor_mono {a b c d : Int} (hb : 1 ≤ b) (hd : 1 ≤ d) (h : a * d ≤ c * b) : a / b ≤ c / d := by
  have f1 := Int.ediv_mul_le a (show b ≠ 0 by omega)
  refine Int.le_ediv_of_mul_le (by omega) ?_
  have h1 : a / b * b * d ≤ a * d := Int.mul_le_mul_of_nonneg_right f1 (by omega)
  have h2 : a / b * d * b ≤ c * b := by
    have : a / b * d * b = a / b * b * d := by rw [Int.mul_assoc, Int.mul_comm d b, ← Int.mul_assoc]
    omega
  exact Int.le_of_mul_le_mul_right h2 (by omega)

theorem gives_of {f : Nat} {args : Array Value} {v v' : Value} (h : Gives f args v) (e : v = v') : Gives f args v' := by subst e; exact h

theorem floor_law (a b c d : Int) (w : World) (hE : Env w)
    (a0 : -9223372036854775808 ≤ a) (a1 : a ≤ 9223372036854775807) (b0 : -9223372036854775808 ≤ b) (b1 : b ≤ 9223372036854775807)
    (c0 : -9223372036854775808 ≤ c) (c1 : c ≤ 9223372036854775807) (d0 : -9223372036854775808 ≤ d) (d1 : d ≤ 9223372036854775807) :
    Calls Tryd.prog 8 #[.agg #[.int .i64 a, .int .i64 b], .agg #[.int .i64 c, .int .i64 d]] w fun e w' =>
      e = .returned (.bool true) ∧ Below w.heap.size w w' := by
  cases hv : (vld a b && vld c d)
  · exact floor_law_no a b c d w hE hv a0 a1 b0 b1 c0 c1 d0 d1
  obtain ⟨hv1, hv2⟩ := Bool.and_eq_true_iff.1 hv
  have V1 := (vld_iff a b).1 hv1
  have V2 := (vld_iff c d).1 hv2
  have n0 := floor_bounds V1.1 V1.2.1 V1.2.2.1
  have k1 : Gives 24 #[.agg #[.int .i64 a, .int .i64 b]] (.tuple #[.int .i64 (a / b), .int .i64 0]) :=
    gives_of (fun w => floor_any a b w a0 a1 b0 b1) (by unfold flr; rw [if_pos hv1])
  have k2 : Gives 24 #[.agg #[.int .i64 c, .int .i64 d]] (.tuple #[.int .i64 (c / d), .int .i64 0]) :=
    gives_of (fun w => floor_any c d w c0 c1 d0 d1) (by unfold flr; rw [if_pos hv2])
  have k3 : Gives 16 #[.agg #[.int .i64 a, .int .i64 b], .agg #[.int .i64 (a / b), .int .i64 1]] (.tuple #[.agg #[.int .i64 (a % b), .int .i64 b], .int .i64 0]) :=
    gives_of (fun w => sub_any a b (a / b) 1 w a0 a1 b0 b1 (by omega) (by omega) (by omega) (by omega)) (by rw [sub_floor V1])
  have k4 : Gives 22 #[.agg #[.int .i64 a, .int .i64 b], .agg #[.int .i64 c, .int .i64 d]] (.tuple #[.int .i64 (cmp3 (a * d) (c * b)), .int .i64 0]) :=
    gives_of (fun w => compare_any a b c d w a0 a1 b0 b1 c0 c1 d0 d1) (by unfold cmpR; rw [if_pos ⟨hv1, hv2⟩])
  have r0 := Int.emod_nonneg a (show b ≠ 0 by have := V1.2.2.1; omega)
  have r1 := Int.emod_lt_of_pos a (show 0 < b by have := V1.2.2.1; omega)
  have hb := V1.2.2.1
  have hd := V2.2.2.1
  rcases Int.lt_trichotomy (a * d) (c * b) with h | h | h
  · have e : cmp3 (a * d) (c * b) = -1 := by unfold cmp3; rw [if_pos h]
    rw [e] at k4
    exact floor_law_lt a b c d _ _ _ _ w hE hv a0 a1 b0 b1 c0 c1 d0 d1 k1 k2 k3 k4 r0 r1 (by omega) (floor_mono hb hd (by omega))
  · have e : cmp3 (a * d) (c * b) = 0 := by unfold cmp3; rw [if_neg (by omega), if_pos h]
    rw [e] at k4
    have e1 := floor_mono hb hd (by omega : a * d ≤ c * b)
    have e2 := floor_mono hd hb (by omega : c * b ≤ a * d)
    exact floor_law_eq a b c d _ _ _ _ w hE hv a0 a1 b0 b1 c0 c1 d0 d1 k1 k2 k3 k4 r0 r1 rfl (by omega)
  · have e : cmp3 (a * d) (c * b) = 1 := by unfold cmp3; rw [if_neg (by omega), if_neg (by omega)]
    rw [e] at k4
    exact floor_law_gt a b c d _ _ _ _ w hE hv a0 a1 b0 b1 c0 c1 d0 d1 k1 k2 k3 k4 r0 r1 (by omega) (floor_mono hd hb (by omega))
end Go.Proofs.YtohnmffokichkaaDoor
