/-
  Walks of the law on products.
-/
import Derived.Test.YtohnmffokichkaaDoorSets
namespace Go.Proofs.YtohnmffokichkaaDoor
open Go.RowKit

set_option maxRecDepth 100000 in
set_option maxHeartbeats 2000000 in
theorem products_nhh (a b c d g h p1 p2 r1 r2 u1 u2 v1 v2 he ie ke R1 R2 U1 U2 s1 s2 V1 V2 He Ie Le Ke : Int) (w : World) (hE : Env w) (hv : (vld a b && vld c d && vld g h) = true)
    (a0 : -9223372036854775808 ≤ a) (a1 : a ≤ 9223372036854775807) (b0 : -9223372036854775808 ≤ b) (b1 : b ≤ 9223372036854775807)
    (c0 : -9223372036854775808 ≤ c) (c1 : c ≤ 9223372036854775807) (d0 : -9223372036854775808 ≤ d) (d1 : d ≤ 9223372036854775807)
    (g0 : -9223372036854775808 ≤ g) (g1 : g ≤ 9223372036854775807) (h0 : -9223372036854775808 ≤ h) (h1 : h ≤ 9223372036854775807)
    (k1 : Gives 18 #[.agg #[.int .i64 a, .int .i64 b], .agg #[.int .i64 c, .int .i64 d]] (.tuple #[.agg #[.int .i64 p1, .int .i64 p2], .int .i64 0]))
    (k2 : Gives 18 #[.agg #[.int .i64 c, .int .i64 d], .agg #[.int .i64 a, .int .i64 b]] (.tuple #[.agg #[.int .i64 p1, .int .i64 p2], .int .i64 0]))
    (k3 : Gives 20 #[.agg #[.int .i64 p1, .int .i64 p2], .agg #[.int .i64 c, .int .i64 d]] (.tuple #[.agg #[.int .i64 a, .int .i64 b], .int .i64 0]))
    (k4 : Gives 18 #[.agg #[.int .i64 c, .int .i64 d], .agg #[.int .i64 g, .int .i64 h]] (.tuple #[.agg #[.int .i64 r1, .int .i64 r2], .int .i64 he]))
    (k5 : Gives 18 #[.agg #[.int .i64 p1, .int .i64 p2], .agg #[.int .i64 g, .int .i64 h]] (.tuple #[.agg #[.int .i64 u1, .int .i64 u2], .int .i64 ie]))
    (k6 : Gives 18 #[.agg #[.int .i64 a, .int .i64 b], .agg #[.int .i64 r1, .int .i64 r2]] (.tuple #[.agg #[.int .i64 v1, .int .i64 v2], .int .i64 ke]))
    (k7 : Gives 14 #[.agg #[.int .i64 c, .int .i64 d], .agg #[.int .i64 g, .int .i64 h]] (.tuple #[.agg #[.int .i64 R1, .int .i64 R2], .int .i64 He]))
    (k8 : Gives 18 #[.agg #[.int .i64 a, .int .i64 b], .agg #[.int .i64 R1, .int .i64 R2]] (.tuple #[.agg #[.int .i64 U1, .int .i64 U2], .int .i64 Ie]))
    (k9 : Gives 18 #[.agg #[.int .i64 a, .int .i64 b], .agg #[.int .i64 g, .int .i64 h]] (.tuple #[.agg #[.int .i64 s1, .int .i64 s2], .int .i64 Le]))
    (k10 : Gives 14 #[.agg #[.int .i64 p1, .int .i64 p2], .agg #[.int .i64 s1, .int .i64 s2]] (.tuple #[.agg #[.int .i64 V1, .int .i64 V2], .int .i64 Ke]))
    (hc : ¬ c = 0)  (hb1 : ¬ he = 0) (hb2 : ¬ He = 0) :
    Calls Tryd.prog 6 #[.agg #[.int .i64 a, .int .i64 b], .agg #[.int .i64 c, .int .i64 d], .agg #[.int .i64 g, .int .i64 h]] w fun e w' =>
      e = .returned (.bool true) ∧ Below w.heap.size w w' := by
  have HE := Lib.hid hE
  have HV := Lib.hid hv
  have K1 := Lib.hid k1
  have K2 := Lib.hid k2
  have K3 := Lib.hid k3
  have K4 := Lib.hid k4
  have K5 := Lib.hid k5
  have K6 := Lib.hid k6
  have K7 := Lib.hid k7
  have K8 := Lib.hid k8
  have K9 := Lib.hid k9
  have K10 := Lib.hid k10
  clear hE hv k1 k2 k3 k4 k5 k6 k7 k8 k9 k10
  have f0 : (c == 0) = false := by simp; exact hc
  have f00 : (c != 0) = true := by simp; exact hc
  have f1 : (he != 0) = true := by simp; exact hb1
  have f11 : (he == 0) = false := by simp; exact hb1
  have f2 : (He != 0) = true := by simp; exact hb2
  have f22 : (He == 0) = false := by simp; exact hb2
  go_enter Tryd.func6, Tryd.ntmps6
  go_wp2_with fail
  refine (head_any _ (((HE.out.below ((Below.refl _ _).alloc (Nat.le_refl _) _)).below ((Below.refl _ _).alloc (Nat.le_refl _) _)).below ((Below.refl _ _).alloc (Nat.le_refl _) _))).mono ?_
  rintro e w1 ⟨rfl, hb1⟩
  have hz1 := hb1.size
  simp only [World.size_alloc] at hz1
  have T0x : At2 w1 (w.heap.size) (.int .i64 a) (.int .i64 b) := by
    have := (((At2.new w (.int .i64 a) (.int .i64 b) 23).alloc (by first | (simp; done) | (simp; omega)) (.cells #[.int .i64 c, .int .i64 d] 23)).alloc (by first | (simp; done) | (simp; omega)) (.cells #[.int .i64 g, .int .i64 h] 23)).below hb1 (by first | (simp; done) | (simp; omega))
    simpa using this
  have T1x : At2 w1 (w.heap.size + 1) (.int .i64 c) (.int .i64 d) := by
    have := ((At2.new (w.alloc (.cells #[.int .i64 a, .int .i64 b] 23)) (.int .i64 c) (.int .i64 d) 23).alloc (by first | (simp; done) | (simp; omega)) (.cells #[.int .i64 g, .int .i64 h] 23)).below hb1 (by first | (simp; done) | (simp; omega))
    simpa using this
  have T2x : At2 w1 (w.heap.size + 1 + 1) (.int .i64 g) (.int .i64 h) := by
    have := (At2.new ((w.alloc (.cells #[.int .i64 a, .int .i64 b] 23)).alloc (.cells #[.int .i64 c, .int .i64 d] 23)) (.int .i64 g) (.int .i64 h) 23).below hb1 (by first | (simp; done) | (simp; omega))
    simpa using this
  have HB1 : Below w.heap.size w w1 := ((((Below.refl _ _).alloc (by first | (exact Nat.le_refl _) | (simp; done) | (simp; omega)) _).alloc (by first | (exact Nat.le_refl _) | (simp; done) | (simp; omega)) _).alloc (by first | (exact Nat.le_refl _) | (simp; done) | (simp; omega)) _).trans (hb1.mono (by simp; omega))
  have hq1 := HB1.size
  clear hb1
  obtain ⟨p0a, p0b, p0c, p0d⟩ := T0x
  have p0l : w.heap.size < w1.heap.size := World.block_lt_of_cell? _ _ p0a
  obtain ⟨p1a, p1b, p1c, p1d⟩ := T1x
  have p1l : w.heap.size + 1 < w1.heap.size := World.block_lt_of_cell? _ _ p1a
  obtain ⟨p2a, p2b, p2c, p2d⟩ := T2x
  have p2l : w.heap.size + 1 + 1 < w1.heap.size := World.block_lt_of_cell? _ _ p2a
  go_wp2_with fail
  refine (numbers3 a b c d g h true _ HV.out a0 a1 b0 b1 c0 c1 d0 d1 g0 g1 h0 h1 _).mono ?_
  rintro e w2 ⟨rfl, hb2⟩
  have hz2 := hb2.size
  have p0t := (At2.mk p0a p0b p0c p0d).below hb2 (by omega)
  have p1t := (At2.mk p1a p1b p1c p1d).below hb2 (by omega)
  have p2t := (At2.mk p2a p2b p2c p2d).below hb2 (by omega)
  have HB2 : Below w.heap.size w w2 := HB1.trans (hb2.mono hq1)
  have hq2 := HB2.size
  clear hb2 HB1 p0a p0b p0c p0d p0l p1a p1b p1c p1d p1l p2a p2b p2c p2d p2l
  obtain ⟨p0a, p0b, p0c, p0d⟩ := p0t
  have p0l : w.heap.size < w2.heap.size := World.block_lt_of_cell? _ _ p0a
  obtain ⟨p1a, p1b, p1c, p1d⟩ := p1t
  have p1l : w.heap.size + 1 < w2.heap.size := World.block_lt_of_cell? _ _ p1a
  obtain ⟨p2a, p2b, p2c, p2d⟩ := p2t
  have p2l : w.heap.size + 1 + 1 < w2.heap.size := World.block_lt_of_cell? _ _ p2a
  go_wp2_with fail
  refine (K1.out _).mono ?_
  rintro e w3 ⟨rfl, hb3⟩
  have hz3 := hb3.size
  have p0t := (At2.mk p0a p0b p0c p0d).below hb3 (by omega)
  have p1t := (At2.mk p1a p1b p1c p1d).below hb3 (by omega)
  have p2t := (At2.mk p2a p2b p2c p2d).below hb3 (by omega)
  have HB3 : Below w.heap.size w w3 := HB2.trans (hb3.mono hq2)
  have hq3 := HB3.size
  clear hb3 HB2 p0a p0b p0c p0d p0l p1a p1b p1c p1d p1l p2a p2b p2c p2d p2l
  obtain ⟨p0a, p0b, p0c, p0d⟩ := p0t
  have p0l : w.heap.size < w3.heap.size := World.block_lt_of_cell? _ _ p0a
  obtain ⟨p1a, p1b, p1c, p1d⟩ := p1t
  have p1l : w.heap.size + 1 < w3.heap.size := World.block_lt_of_cell? _ _ p1a
  obtain ⟨p2a, p2b, p2c, p2d⟩ := p2t
  have p2l : w.heap.size + 1 + 1 < w3.heap.size := World.block_lt_of_cell? _ _ p2a
  go_wp2_with fail
  refine (K2.out _).mono ?_
  rintro e w4 ⟨rfl, hb4⟩
  have hz4 := hb4.size
  simp only [World.size_alloc] at hz4
  have p0t := ((At2.mk p0a p0b p0c p0d).alloc (by omega) _).below hb4 (by simp; omega)
  have p1t := ((At2.mk p1a p1b p1c p1d).alloc (by omega) _).below hb4 (by simp; omega)
  have p2t := ((At2.mk p2a p2b p2c p2d).alloc (by omega) _).below hb4 (by simp; omega)
  have pt := (At2.new w3 (.int .i64 p1) (.int .i64 p2) 23).below hb4 (by simp)
  have HB4 : Below w.heap.size w w4 := (HB3.alloc hq3 _).trans (hb4.mono (by simp; omega))
  have hq4 := HB4.size
  clear hb4 HB3 p0a p0b p0c p0d p0l p1a p1b p1c p1d p1l p2a p2b p2c p2d p2l
  obtain ⟨p0a, p0b, p0c, p0d⟩ := p0t
  have p0l : w.heap.size < w4.heap.size := World.block_lt_of_cell? _ _ p0a
  obtain ⟨p1a, p1b, p1c, p1d⟩ := p1t
  have p1l : w.heap.size + 1 < w4.heap.size := World.block_lt_of_cell? _ _ p1a
  obtain ⟨p2a, p2b, p2c, p2d⟩ := p2t
  have p2l : w.heap.size + 1 + 1 < w4.heap.size := World.block_lt_of_cell? _ _ p2a
  obtain ⟨pa, pb, pc, pd⟩ := pt
  have pl : w3.heap.size < w4.heap.size := World.block_lt_of_cell? _ _ pa
  go_wp2_with fail
  refine (K3.out _).mono ?_
  rintro e w5 ⟨rfl, hb5⟩
  have hz5 := hb5.size
  simp only [World.size_alloc] at hz5
  have p0t := ((At2.mk p0a p0b p0c p0d).alloc (by omega) _).below hb5 (by simp; omega)
  have p1t := ((At2.mk p1a p1b p1c p1d).alloc (by omega) _).below hb5 (by simp; omega)
  have p2t := ((At2.mk p2a p2b p2c p2d).alloc (by omega) _).below hb5 (by simp; omega)
  have pt := ((At2.mk pa pb pc pd).alloc (by omega) _).below hb5 (by simp; omega)
  have qt := (At2.new w4 (.int .i64 p1) (.int .i64 p2) 23).below hb5 (by simp)
  have HB5 : Below w.heap.size w w5 := (HB4.alloc hq4 _).trans (hb5.mono (by simp; omega))
  have hq5 := HB5.size
  clear hb5 HB4 p0a p0b p0c p0d p0l p1a p1b p1c p1d p1l p2a p2b p2c p2d p2l pa pb pc pd pl
  obtain ⟨p0a, p0b, p0c, p0d⟩ := p0t
  have p0l : w.heap.size < w5.heap.size := World.block_lt_of_cell? _ _ p0a
  obtain ⟨p1a, p1b, p1c, p1d⟩ := p1t
  have p1l : w.heap.size + 1 < w5.heap.size := World.block_lt_of_cell? _ _ p1a
  obtain ⟨p2a, p2b, p2c, p2d⟩ := p2t
  have p2l : w.heap.size + 1 + 1 < w5.heap.size := World.block_lt_of_cell? _ _ p2a
  obtain ⟨pa, pb, pc, pd⟩ := pt
  have pl : w3.heap.size < w5.heap.size := World.block_lt_of_cell? _ _ pa
  obtain ⟨qa, qb, qc, qd⟩ := qt
  have ql : w4.heap.size < w5.heap.size := World.block_lt_of_cell? _ _ qa
  go_wp2_with fail
  refine (K4.out _).mono ?_
  rintro e w6 ⟨rfl, hb6⟩
  have hz6 := hb6.size
  simp only [World.size_alloc] at hz6
  have p0t := ((At2.mk p0a p0b p0c p0d).alloc (by omega) _).below hb6 (by simp; omega)
  have p1t := ((At2.mk p1a p1b p1c p1d).alloc (by omega) _).below hb6 (by simp; omega)
  have p2t := ((At2.mk p2a p2b p2c p2d).alloc (by omega) _).below hb6 (by simp; omega)
  have pt := ((At2.mk pa pb pc pd).alloc (by omega) _).below hb6 (by simp; omega)
  have kt := (At2.new w5 (.int .i64 a) (.int .i64 b) 23).below hb6 (by simp)
  have HB6 : Below w.heap.size w w6 := (HB5.alloc hq5 _).trans (hb6.mono (by simp; omega))
  have hq6 := HB6.size
  clear hb6 HB5 p0a p0b p0c p0d p0l p1a p1b p1c p1d p1l p2a p2b p2c p2d p2l pa pb pc pd pl qa qb qc qd ql
  obtain ⟨p0a, p0b, p0c, p0d⟩ := p0t
  have p0l : w.heap.size < w6.heap.size := World.block_lt_of_cell? _ _ p0a
  obtain ⟨p1a, p1b, p1c, p1d⟩ := p1t
  have p1l : w.heap.size + 1 < w6.heap.size := World.block_lt_of_cell? _ _ p1a
  obtain ⟨p2a, p2b, p2c, p2d⟩ := p2t
  have p2l : w.heap.size + 1 + 1 < w6.heap.size := World.block_lt_of_cell? _ _ p2a
  obtain ⟨pa, pb, pc, pd⟩ := pt
  have pl : w3.heap.size < w6.heap.size := World.block_lt_of_cell? _ _ pa
  obtain ⟨ka, kb, kc, kd⟩ := kt
  have kl : w5.heap.size < w6.heap.size := World.block_lt_of_cell? _ _ ka
  go_wp2_with fail
  refine (K5.out _).mono ?_
  rintro e w7 ⟨rfl, hb7⟩
  have hz7 := hb7.size
  simp only [World.size_alloc] at hz7
  have p0t := ((At2.mk p0a p0b p0c p0d).alloc (by omega) _).below hb7 (by simp; omega)
  have p1t := ((At2.mk p1a p1b p1c p1d).alloc (by omega) _).below hb7 (by simp; omega)
  have p2t := ((At2.mk p2a p2b p2c p2d).alloc (by omega) _).below hb7 (by simp; omega)
  have pt := ((At2.mk pa pb pc pd).alloc (by omega) _).below hb7 (by simp; omega)
  have rt := (At2.new w6 (.int .i64 r1) (.int .i64 r2) 23).below hb7 (by simp)
  have HB7 : Below w.heap.size w w7 := (HB6.alloc hq6 _).trans (hb7.mono (by simp; omega))
  have hq7 := HB7.size
  clear hb7 HB6 p0a p0b p0c p0d p0l p1a p1b p1c p1d p1l p2a p2b p2c p2d p2l pa pb pc pd pl ka kb kc kd kl
  obtain ⟨p0a, p0b, p0c, p0d⟩ := p0t
  have p0l : w.heap.size < w7.heap.size := World.block_lt_of_cell? _ _ p0a
  obtain ⟨p1a, p1b, p1c, p1d⟩ := p1t
  have p1l : w.heap.size + 1 < w7.heap.size := World.block_lt_of_cell? _ _ p1a
  obtain ⟨p2a, p2b, p2c, p2d⟩ := p2t
  have p2l : w.heap.size + 1 + 1 < w7.heap.size := World.block_lt_of_cell? _ _ p2a
  obtain ⟨pa, pb, pc, pd⟩ := pt
  have pl : w3.heap.size < w7.heap.size := World.block_lt_of_cell? _ _ pa
  obtain ⟨ra, rb, rc, rd⟩ := rt
  have rl : w6.heap.size < w7.heap.size := World.block_lt_of_cell? _ _ ra
  go_wp2_with fail
  refine (K6.out _).mono ?_
  rintro e w8 ⟨rfl, hb8⟩
  have hz8 := hb8.size
  simp only [World.size_alloc] at hz8
  have p0t := ((At2.mk p0a p0b p0c p0d).alloc (by omega) _).below hb8 (by simp; omega)
  have p1t := ((At2.mk p1a p1b p1c p1d).alloc (by omega) _).below hb8 (by simp; omega)
  have p2t := ((At2.mk p2a p2b p2c p2d).alloc (by omega) _).below hb8 (by simp; omega)
  have pt := ((At2.mk pa pb pc pd).alloc (by omega) _).below hb8 (by simp; omega)
  have rt := ((At2.mk ra rb rc rd).alloc (by omega) _).below hb8 (by simp; omega)
  have ut := (At2.new w7 (.int .i64 u1) (.int .i64 u2) 23).below hb8 (by simp)
  have HB8 : Below w.heap.size w w8 := (HB7.alloc hq7 _).trans (hb8.mono (by simp; omega))
  have hq8 := HB8.size
  clear hb8 HB7 p0a p0b p0c p0d p0l p1a p1b p1c p1d p1l p2a p2b p2c p2d p2l pa pb pc pd pl ra rb rc rd rl
  obtain ⟨p0a, p0b, p0c, p0d⟩ := p0t
  have p0l : w.heap.size < w8.heap.size := World.block_lt_of_cell? _ _ p0a
  obtain ⟨p1a, p1b, p1c, p1d⟩ := p1t
  have p1l : w.heap.size + 1 < w8.heap.size := World.block_lt_of_cell? _ _ p1a
  obtain ⟨p2a, p2b, p2c, p2d⟩ := p2t
  have p2l : w.heap.size + 1 + 1 < w8.heap.size := World.block_lt_of_cell? _ _ p2a
  obtain ⟨pa, pb, pc, pd⟩ := pt
  have pl : w3.heap.size < w8.heap.size := World.block_lt_of_cell? _ _ pa
  obtain ⟨ra, rb, rc, rd⟩ := rt
  have rl : w6.heap.size < w8.heap.size := World.block_lt_of_cell? _ _ ra
  obtain ⟨ua, ub, uc, ud⟩ := ut
  have ul : w7.heap.size < w8.heap.size := World.block_lt_of_cell? _ _ ua
  go_wp2_with fail
  refine (K7.out _).mono ?_
  rintro e w9 ⟨rfl, hb9⟩
  have hz9 := hb9.size
  simp only [World.size_alloc] at hz9
  have p0t := ((At2.mk p0a p0b p0c p0d).alloc (by omega) _).below hb9 (by simp; omega)
  have p1t := ((At2.mk p1a p1b p1c p1d).alloc (by omega) _).below hb9 (by simp; omega)
  have p2t := ((At2.mk p2a p2b p2c p2d).alloc (by omega) _).below hb9 (by simp; omega)
  have pt := ((At2.mk pa pb pc pd).alloc (by omega) _).below hb9 (by simp; omega)
  have rt := ((At2.mk ra rb rc rd).alloc (by omega) _).below hb9 (by simp; omega)
  have ut := ((At2.mk ua ub uc ud).alloc (by omega) _).below hb9 (by simp; omega)
  have vt := (At2.new w8 (.int .i64 v1) (.int .i64 v2) 23).below hb9 (by simp)
  have HB9 : Below w.heap.size w w9 := (HB8.alloc hq8 _).trans (hb9.mono (by simp; omega))
  have hq9 := HB9.size
  clear hb9 HB8 p0a p0b p0c p0d p0l p1a p1b p1c p1d p1l p2a p2b p2c p2d p2l pa pb pc pd pl ra rb rc rd rl ua ub uc ud ul
  obtain ⟨p0a, p0b, p0c, p0d⟩ := p0t
  have p0l : w.heap.size < w9.heap.size := World.block_lt_of_cell? _ _ p0a
  obtain ⟨p1a, p1b, p1c, p1d⟩ := p1t
  have p1l : w.heap.size + 1 < w9.heap.size := World.block_lt_of_cell? _ _ p1a
  obtain ⟨p2a, p2b, p2c, p2d⟩ := p2t
  have p2l : w.heap.size + 1 + 1 < w9.heap.size := World.block_lt_of_cell? _ _ p2a
  obtain ⟨pa, pb, pc, pd⟩ := pt
  have pl : w3.heap.size < w9.heap.size := World.block_lt_of_cell? _ _ pa
  obtain ⟨ra, rb, rc, rd⟩ := rt
  have rl : w6.heap.size < w9.heap.size := World.block_lt_of_cell? _ _ ra
  obtain ⟨ua, ub, uc, ud⟩ := ut
  have ul : w7.heap.size < w9.heap.size := World.block_lt_of_cell? _ _ ua
  obtain ⟨va, vb, vc, vd⟩ := vt
  have vl : w8.heap.size < w9.heap.size := World.block_lt_of_cell? _ _ va
  go_wp2_with fail
  refine (K8.out _).mono ?_
  rintro e w10 ⟨rfl, hb10⟩
  have hz10 := hb10.size
  simp only [World.size_setCell] at hz10
  have p0t := ((At2.mk p0a p0b p0c p0d).other (b' := w6.heap.size) (by omega) (.int .i64 R1) (.int .i64 R2)).below hb10 (by first | omega | (simp; omega))
  have p1t := ((At2.mk p1a p1b p1c p1d).other (b' := w6.heap.size) (by omega) (.int .i64 R1) (.int .i64 R2)).below hb10 (by first | omega | (simp; omega))
  have p2t := ((At2.mk p2a p2b p2c p2d).other (b' := w6.heap.size) (by omega) (.int .i64 R1) (.int .i64 R2)).below hb10 (by first | omega | (simp; omega))
  have pt := ((At2.mk pa pb pc pd).other (b' := w6.heap.size) (by omega) (.int .i64 R1) (.int .i64 R2)).below hb10 (by first | omega | (simp; omega))
  have rt := ((At2.mk ra rb rc rd).set (.int .i64 R1) (.int .i64 R2)).below hb10 (by first | omega | (simp; omega))
  have ut := ((At2.mk ua ub uc ud).other (b' := w6.heap.size) (by omega) (.int .i64 R1) (.int .i64 R2)).below hb10 (by first | omega | (simp; omega))
  have vt := ((At2.mk va vb vc vd).other (b' := w6.heap.size) (by omega) (.int .i64 R1) (.int .i64 R2)).below hb10 (by first | omega | (simp; omega))
  have HB10 : Below w.heap.size w w10 := ((HB9.setCell (p := ⟨w6.heap.size, 0, none⟩) (by first | omega | (simp; omega)) (.int .i64 R1)).setCell (p := ⟨w6.heap.size, 1, none⟩) (by first | omega | (simp; omega)) (.int .i64 R2)).trans (hb10.mono (by first | omega | (simp; omega)))
  have hq10 := HB10.size
  clear hb10 HB9 p0a p0b p0c p0d p0l p1a p1b p1c p1d p1l p2a p2b p2c p2d p2l pa pb pc pd pl ra rb rc rd rl ua ub uc ud ul va vb vc vd vl
  obtain ⟨p0a, p0b, p0c, p0d⟩ := p0t
  have p0l : w.heap.size < w10.heap.size := World.block_lt_of_cell? _ _ p0a
  obtain ⟨p1a, p1b, p1c, p1d⟩ := p1t
  have p1l : w.heap.size + 1 < w10.heap.size := World.block_lt_of_cell? _ _ p1a
  obtain ⟨p2a, p2b, p2c, p2d⟩ := p2t
  have p2l : w.heap.size + 1 + 1 < w10.heap.size := World.block_lt_of_cell? _ _ p2a
  obtain ⟨pa, pb, pc, pd⟩ := pt
  have pl : w3.heap.size < w10.heap.size := World.block_lt_of_cell? _ _ pa
  obtain ⟨ra, rb, rc, rd⟩ := rt
  have rl : w6.heap.size < w10.heap.size := World.block_lt_of_cell? _ _ ra
  obtain ⟨ua, ub, uc, ud⟩ := ut
  have ul : w7.heap.size < w10.heap.size := World.block_lt_of_cell? _ _ ua
  obtain ⟨va, vb, vc, vd⟩ := vt
  have vl : w8.heap.size < w10.heap.size := World.block_lt_of_cell? _ _ va
  go_wp2_with fail
  refine (K9.out _).mono ?_
  rintro e w11 ⟨rfl, hb11⟩
  have hz11 := hb11.size
  simp only [World.size_setCell] at hz11
  have p0t := ((At2.mk p0a p0b p0c p0d).other (b' := w7.heap.size) (by omega) (.int .i64 U1) (.int .i64 U2)).below hb11 (by first | omega | (simp; omega))
  have p1t := ((At2.mk p1a p1b p1c p1d).other (b' := w7.heap.size) (by omega) (.int .i64 U1) (.int .i64 U2)).below hb11 (by first | omega | (simp; omega))
  have p2t := ((At2.mk p2a p2b p2c p2d).other (b' := w7.heap.size) (by omega) (.int .i64 U1) (.int .i64 U2)).below hb11 (by first | omega | (simp; omega))
  have pt := ((At2.mk pa pb pc pd).other (b' := w7.heap.size) (by omega) (.int .i64 U1) (.int .i64 U2)).below hb11 (by first | omega | (simp; omega))
  have rt := ((At2.mk ra rb rc rd).other (b' := w7.heap.size) (by omega) (.int .i64 U1) (.int .i64 U2)).below hb11 (by first | omega | (simp; omega))
  have ut := ((At2.mk ua ub uc ud).set (.int .i64 U1) (.int .i64 U2)).below hb11 (by first | omega | (simp; omega))
  have vt := ((At2.mk va vb vc vd).other (b' := w7.heap.size) (by omega) (.int .i64 U1) (.int .i64 U2)).below hb11 (by first | omega | (simp; omega))
  have HB11 : Below w.heap.size w w11 := ((HB10.setCell (p := ⟨w7.heap.size, 0, none⟩) (by first | omega | (simp; omega)) (.int .i64 U1)).setCell (p := ⟨w7.heap.size, 1, none⟩) (by first | omega | (simp; omega)) (.int .i64 U2)).trans (hb11.mono (by first | omega | (simp; omega)))
  have hq11 := HB11.size
  clear hb11 HB10 p0a p0b p0c p0d p0l p1a p1b p1c p1d p1l p2a p2b p2c p2d p2l pa pb pc pd pl ra rb rc rd rl ua ub uc ud ul va vb vc vd vl
  obtain ⟨p0a, p0b, p0c, p0d⟩ := p0t
  have p0l : w.heap.size < w11.heap.size := World.block_lt_of_cell? _ _ p0a
  obtain ⟨p1a, p1b, p1c, p1d⟩ := p1t
  have p1l : w.heap.size + 1 < w11.heap.size := World.block_lt_of_cell? _ _ p1a
  obtain ⟨p2a, p2b, p2c, p2d⟩ := p2t
  have p2l : w.heap.size + 1 + 1 < w11.heap.size := World.block_lt_of_cell? _ _ p2a
  obtain ⟨pa, pb, pc, pd⟩ := pt
  have pl : w3.heap.size < w11.heap.size := World.block_lt_of_cell? _ _ pa
  obtain ⟨ra, rb, rc, rd⟩ := rt
  have rl : w6.heap.size < w11.heap.size := World.block_lt_of_cell? _ _ ra
  obtain ⟨ua, ub, uc, ud⟩ := ut
  have ul : w7.heap.size < w11.heap.size := World.block_lt_of_cell? _ _ ua
  obtain ⟨va, vb, vc, vd⟩ := vt
  have vl : w8.heap.size < w11.heap.size := World.block_lt_of_cell? _ _ va
  go_wp2_with fail
  refine (K10.out _).mono ?_
  rintro e w12 ⟨rfl, hb12⟩
  have hz12 := hb12.size
  simp only [World.size_alloc] at hz12
  have p0t := ((At2.mk p0a p0b p0c p0d).alloc (by omega) _).below hb12 (by simp; omega)
  have p1t := ((At2.mk p1a p1b p1c p1d).alloc (by omega) _).below hb12 (by simp; omega)
  have p2t := ((At2.mk p2a p2b p2c p2d).alloc (by omega) _).below hb12 (by simp; omega)
  have pt := ((At2.mk pa pb pc pd).alloc (by omega) _).below hb12 (by simp; omega)
  have rt := ((At2.mk ra rb rc rd).alloc (by omega) _).below hb12 (by simp; omega)
  have ut := ((At2.mk ua ub uc ud).alloc (by omega) _).below hb12 (by simp; omega)
  have vt := ((At2.mk va vb vc vd).alloc (by omega) _).below hb12 (by simp; omega)
  have st := (At2.new w11 (.int .i64 s1) (.int .i64 s2) 23).below hb12 (by simp)
  have HB12 : Below w.heap.size w w12 := (HB11.alloc hq11 _).trans (hb12.mono (by simp; omega))
  have hq12 := HB12.size
  clear hb12 HB11 p0a p0b p0c p0d p0l p1a p1b p1c p1d p1l p2a p2b p2c p2d p2l pa pb pc pd pl ra rb rc rd rl ua ub uc ud ul va vb vc vd vl
  obtain ⟨p0a, p0b, p0c, p0d⟩ := p0t
  have p0l : w.heap.size < w12.heap.size := World.block_lt_of_cell? _ _ p0a
  obtain ⟨p1a, p1b, p1c, p1d⟩ := p1t
  have p1l : w.heap.size + 1 < w12.heap.size := World.block_lt_of_cell? _ _ p1a
  obtain ⟨p2a, p2b, p2c, p2d⟩ := p2t
  have p2l : w.heap.size + 1 + 1 < w12.heap.size := World.block_lt_of_cell? _ _ p2a
  obtain ⟨pa, pb, pc, pd⟩ := pt
  have pl : w3.heap.size < w12.heap.size := World.block_lt_of_cell? _ _ pa
  obtain ⟨ra, rb, rc, rd⟩ := rt
  have rl : w6.heap.size < w12.heap.size := World.block_lt_of_cell? _ _ ra
  obtain ⟨ua, ub, uc, ud⟩ := ut
  have ul : w7.heap.size < w12.heap.size := World.block_lt_of_cell? _ _ ua
  obtain ⟨va, vb, vc, vd⟩ := vt
  have vl : w8.heap.size < w12.heap.size := World.block_lt_of_cell? _ _ va
  obtain ⟨sa, sb, sc, sd⟩ := st
  have sl : w11.heap.size < w12.heap.size := World.block_lt_of_cell? _ _ sa
  go_wp2
  go_ret
  exact ⟨rfl, (by repeat' (first | exact HB12 | refine Below.setCell ?_ (by first | omega | (simp; done) | (simp; omega)) _ | refine below_drewN ?_ _ | refine Below.alloc ?_ (by first | omega | (simp; done) | (simp; omega)) _))⟩

set_option maxRecDepth 100000 in
set_option maxHeartbeats 2000000 in
theorem products_nhi (a b c d g h p1 p2 r1 r2 u1 u2 v1 v2 he ie ke R1 R2 U1 U2 s1 s2 V1 V2 Ie Le Ke : Int) (w : World) (hE : Env w) (hv : (vld a b && vld c d && vld g h) = true)
    (a0 : -9223372036854775808 ≤ a) (a1 : a ≤ 9223372036854775807) (b0 : -9223372036854775808 ≤ b) (b1 : b ≤ 9223372036854775807)
    (c0 : -9223372036854775808 ≤ c) (c1 : c ≤ 9223372036854775807) (d0 : -9223372036854775808 ≤ d) (d1 : d ≤ 9223372036854775807)
    (g0 : -9223372036854775808 ≤ g) (g1 : g ≤ 9223372036854775807) (h0 : -9223372036854775808 ≤ h) (h1 : h ≤ 9223372036854775807)
    (k1 : Gives 18 #[.agg #[.int .i64 a, .int .i64 b], .agg #[.int .i64 c, .int .i64 d]] (.tuple #[.agg #[.int .i64 p1, .int .i64 p2], .int .i64 0]))
    (k2 : Gives 18 #[.agg #[.int .i64 c, .int .i64 d], .agg #[.int .i64 a, .int .i64 b]] (.tuple #[.agg #[.int .i64 p1, .int .i64 p2], .int .i64 0]))
    (k3 : Gives 20 #[.agg #[.int .i64 p1, .int .i64 p2], .agg #[.int .i64 c, .int .i64 d]] (.tuple #[.agg #[.int .i64 a, .int .i64 b], .int .i64 0]))
    (k4 : Gives 18 #[.agg #[.int .i64 c, .int .i64 d], .agg #[.int .i64 g, .int .i64 h]] (.tuple #[.agg #[.int .i64 r1, .int .i64 r2], .int .i64 he]))
    (k5 : Gives 18 #[.agg #[.int .i64 p1, .int .i64 p2], .agg #[.int .i64 g, .int .i64 h]] (.tuple #[.agg #[.int .i64 u1, .int .i64 u2], .int .i64 ie]))
    (k6 : Gives 18 #[.agg #[.int .i64 a, .int .i64 b], .agg #[.int .i64 r1, .int .i64 r2]] (.tuple #[.agg #[.int .i64 v1, .int .i64 v2], .int .i64 ke]))
    (k7 : Gives 14 #[.agg #[.int .i64 c, .int .i64 d], .agg #[.int .i64 g, .int .i64 h]] (.tuple #[.agg #[.int .i64 R1, .int .i64 R2], .int .i64 0]))
    (k8 : Gives 18 #[.agg #[.int .i64 a, .int .i64 b], .agg #[.int .i64 R1, .int .i64 R2]] (.tuple #[.agg #[.int .i64 U1, .int .i64 U2], .int .i64 Ie]))
    (k9 : Gives 18 #[.agg #[.int .i64 a, .int .i64 b], .agg #[.int .i64 g, .int .i64 h]] (.tuple #[.agg #[.int .i64 s1, .int .i64 s2], .int .i64 Le]))
    (k10 : Gives 14 #[.agg #[.int .i64 p1, .int .i64 p2], .agg #[.int .i64 s1, .int .i64 s2]] (.tuple #[.agg #[.int .i64 V1, .int .i64 V2], .int .i64 Ke]))
    (hc : ¬ c = 0)  (hb1 : ¬ he = 0) (hb2 : ¬ Ie = 0) :
    Calls Tryd.prog 6 #[.agg #[.int .i64 a, .int .i64 b], .agg #[.int .i64 c, .int .i64 d], .agg #[.int .i64 g, .int .i64 h]] w fun e w' =>
      e = .returned (.bool true) ∧ Below w.heap.size w w' := by
  have HE := Lib.hid hE
  have HV := Lib.hid hv
  have K1 := Lib.hid k1
  have K2 := Lib.hid k2
  have K3 := Lib.hid k3
  have K4 := Lib.hid k4
  have K5 := Lib.hid k5
  have K6 := Lib.hid k6
  have K7 := Lib.hid k7
  have K8 := Lib.hid k8
  have K9 := Lib.hid k9
  have K10 := Lib.hid k10
  clear hE hv k1 k2 k3 k4 k5 k6 k7 k8 k9 k10
  have f0 : (c == 0) = false := by simp; exact hc
  have f00 : (c != 0) = true := by simp; exact hc
  have f1 : (he != 0) = true := by simp; exact hb1
  have f11 : (he == 0) = false := by simp; exact hb1
  have f2 : (Ie != 0) = true := by simp; exact hb2
  have f22 : (Ie == 0) = false := by simp; exact hb2
  go_enter Tryd.func6, Tryd.ntmps6
  go_wp2_with fail
  refine (head_any _ (((HE.out.below ((Below.refl _ _).alloc (Nat.le_refl _) _)).below ((Below.refl _ _).alloc (Nat.le_refl _) _)).below ((Below.refl _ _).alloc (Nat.le_refl _) _))).mono ?_
  rintro e w1 ⟨rfl, hb1⟩
  have hz1 := hb1.size
  simp only [World.size_alloc] at hz1
  have T0x : At2 w1 (w.heap.size) (.int .i64 a) (.int .i64 b) := by
    have := (((At2.new w (.int .i64 a) (.int .i64 b) 23).alloc (by first | (simp; done) | (simp; omega)) (.cells #[.int .i64 c, .int .i64 d] 23)).alloc (by first | (simp; done) | (simp; omega)) (.cells #[.int .i64 g, .int .i64 h] 23)).below hb1 (by first | (simp; done) | (simp; omega))
    simpa using this
  have T1x : At2 w1 (w.heap.size + 1) (.int .i64 c) (.int .i64 d) := by
    have := ((At2.new (w.alloc (.cells #[.int .i64 a, .int .i64 b] 23)) (.int .i64 c) (.int .i64 d) 23).alloc (by first | (simp; done) | (simp; omega)) (.cells #[.int .i64 g, .int .i64 h] 23)).below hb1 (by first | (simp; done) | (simp; omega))
    simpa using this
  have T2x : At2 w1 (w.heap.size + 1 + 1) (.int .i64 g) (.int .i64 h) := by
    have := (At2.new ((w.alloc (.cells #[.int .i64 a, .int .i64 b] 23)).alloc (.cells #[.int .i64 c, .int .i64 d] 23)) (.int .i64 g) (.int .i64 h) 23).below hb1 (by first | (simp; done) | (simp; omega))
    simpa using this
  have HB1 : Below w.heap.size w w1 := ((((Below.refl _ _).alloc (by first | (exact Nat.le_refl _) | (simp; done) | (simp; omega)) _).alloc (by first | (exact Nat.le_refl _) | (simp; done) | (simp; omega)) _).alloc (by first | (exact Nat.le_refl _) | (simp; done) | (simp; omega)) _).trans (hb1.mono (by simp; omega))
  have hq1 := HB1.size
  clear hb1
  obtain ⟨p0a, p0b, p0c, p0d⟩ := T0x
  have p0l : w.heap.size < w1.heap.size := World.block_lt_of_cell? _ _ p0a
  obtain ⟨p1a, p1b, p1c, p1d⟩ := T1x
  have p1l : w.heap.size + 1 < w1.heap.size := World.block_lt_of_cell? _ _ p1a
  obtain ⟨p2a, p2b, p2c, p2d⟩ := T2x
  have p2l : w.heap.size + 1 + 1 < w1.heap.size := World.block_lt_of_cell? _ _ p2a
  go_wp2_with fail
  refine (numbers3 a b c d g h true _ HV.out a0 a1 b0 b1 c0 c1 d0 d1 g0 g1 h0 h1 _).mono ?_
  rintro e w2 ⟨rfl, hb2⟩
  have hz2 := hb2.size
  have p0t := (At2.mk p0a p0b p0c p0d).below hb2 (by omega)
  have p1t := (At2.mk p1a p1b p1c p1d).below hb2 (by omega)
  have p2t := (At2.mk p2a p2b p2c p2d).below hb2 (by omega)
  have HB2 : Below w.heap.size w w2 := HB1.trans (hb2.mono hq1)
  have hq2 := HB2.size
  clear hb2 HB1 p0a p0b p0c p0d p0l p1a p1b p1c p1d p1l p2a p2b p2c p2d p2l
  obtain ⟨p0a, p0b, p0c, p0d⟩ := p0t
  have p0l : w.heap.size < w2.heap.size := World.block_lt_of_cell? _ _ p0a
  obtain ⟨p1a, p1b, p1c, p1d⟩ := p1t
  have p1l : w.heap.size + 1 < w2.heap.size := World.block_lt_of_cell? _ _ p1a
  obtain ⟨p2a, p2b, p2c, p2d⟩ := p2t
  have p2l : w.heap.size + 1 + 1 < w2.heap.size := World.block_lt_of_cell? _ _ p2a
  go_wp2_with fail
  refine (K1.out _).mono ?_
  rintro e w3 ⟨rfl, hb3⟩
  have hz3 := hb3.size
  have p0t := (At2.mk p0a p0b p0c p0d).below hb3 (by omega)
  have p1t := (At2.mk p1a p1b p1c p1d).below hb3 (by omega)
  have p2t := (At2.mk p2a p2b p2c p2d).below hb3 (by omega)
  have HB3 : Below w.heap.size w w3 := HB2.trans (hb3.mono hq2)
  have hq3 := HB3.size
  clear hb3 HB2 p0a p0b p0c p0d p0l p1a p1b p1c p1d p1l p2a p2b p2c p2d p2l
  obtain ⟨p0a, p0b, p0c, p0d⟩ := p0t
  have p0l : w.heap.size < w3.heap.size := World.block_lt_of_cell? _ _ p0a
  obtain ⟨p1a, p1b, p1c, p1d⟩ := p1t
  have p1l : w.heap.size + 1 < w3.heap.size := World.block_lt_of_cell? _ _ p1a
  obtain ⟨p2a, p2b, p2c, p2d⟩ := p2t
  have p2l : w.heap.size + 1 + 1 < w3.heap.size := World.block_lt_of_cell? _ _ p2a
  go_wp2_with fail
  refine (K2.out _).mono ?_
  rintro e w4 ⟨rfl, hb4⟩
  have hz4 := hb4.size
  simp only [World.size_alloc] at hz4
  have p0t := ((At2.mk p0a p0b p0c p0d).alloc (by omega) _).below hb4 (by simp; omega)
  have p1t := ((At2.mk p1a p1b p1c p1d).alloc (by omega) _).below hb4 (by simp; omega)
  have p2t := ((At2.mk p2a p2b p2c p2d).alloc (by omega) _).below hb4 (by simp; omega)
  have pt := (At2.new w3 (.int .i64 p1) (.int .i64 p2) 23).below hb4 (by simp)
  have HB4 : Below w.heap.size w w4 := (HB3.alloc hq3 _).trans (hb4.mono (by simp; omega))
  have hq4 := HB4.size
  clear hb4 HB3 p0a p0b p0c p0d p0l p1a p1b p1c p1d p1l p2a p2b p2c p2d p2l
  obtain ⟨p0a, p0b, p0c, p0d⟩ := p0t
  have p0l : w.heap.size < w4.heap.size := World.block_lt_of_cell? _ _ p0a
  obtain ⟨p1a, p1b, p1c, p1d⟩ := p1t
  have p1l : w.heap.size + 1 < w4.heap.size := World.block_lt_of_cell? _ _ p1a
  obtain ⟨p2a, p2b, p2c, p2d⟩ := p2t
  have p2l : w.heap.size + 1 + 1 < w4.heap.size := World.block_lt_of_cell? _ _ p2a
  obtain ⟨pa, pb, pc, pd⟩ := pt
  have pl : w3.heap.size < w4.heap.size := World.block_lt_of_cell? _ _ pa
  go_wp2_with fail
  refine (K3.out _).mono ?_
  rintro e w5 ⟨rfl, hb5⟩
  have hz5 := hb5.size
  simp only [World.size_alloc] at hz5
  have p0t := ((At2.mk p0a p0b p0c p0d).alloc (by omega) _).below hb5 (by simp; omega)
  have p1t := ((At2.mk p1a p1b p1c p1d).alloc (by omega) _).below hb5 (by simp; omega)
  have p2t := ((At2.mk p2a p2b p2c p2d).alloc (by omega) _).below hb5 (by simp; omega)
  have pt := ((At2.mk pa pb pc pd).alloc (by omega) _).below hb5 (by simp; omega)
  have qt := (At2.new w4 (.int .i64 p1) (.int .i64 p2) 23).below hb5 (by simp)
  have HB5 : Below w.heap.size w w5 := (HB4.alloc hq4 _).trans (hb5.mono (by simp; omega))
  have hq5 := HB5.size
  clear hb5 HB4 p0a p0b p0c p0d p0l p1a p1b p1c p1d p1l p2a p2b p2c p2d p2l pa pb pc pd pl
  obtain ⟨p0a, p0b, p0c, p0d⟩ := p0t
  have p0l : w.heap.size < w5.heap.size := World.block_lt_of_cell? _ _ p0a
  obtain ⟨p1a, p1b, p1c, p1d⟩ := p1t
  have p1l : w.heap.size + 1 < w5.heap.size := World.block_lt_of_cell? _ _ p1a
  obtain ⟨p2a, p2b, p2c, p2d⟩ := p2t
  have p2l : w.heap.size + 1 + 1 < w5.heap.size := World.block_lt_of_cell? _ _ p2a
  obtain ⟨pa, pb, pc, pd⟩ := pt
  have pl : w3.heap.size < w5.heap.size := World.block_lt_of_cell? _ _ pa
  obtain ⟨qa, qb, qc, qd⟩ := qt
  have ql : w4.heap.size < w5.heap.size := World.block_lt_of_cell? _ _ qa
  go_wp2_with fail
  refine (K4.out _).mono ?_
  rintro e w6 ⟨rfl, hb6⟩
  have hz6 := hb6.size
  simp only [World.size_alloc] at hz6
  have p0t := ((At2.mk p0a p0b p0c p0d).alloc (by omega) _).below hb6 (by simp; omega)
  have p1t := ((At2.mk p1a p1b p1c p1d).alloc (by omega) _).below hb6 (by simp; omega)
  have p2t := ((At2.mk p2a p2b p2c p2d).alloc (by omega) _).below hb6 (by simp; omega)
  have pt := ((At2.mk pa pb pc pd).alloc (by omega) _).below hb6 (by simp; omega)
  have kt := (At2.new w5 (.int .i64 a) (.int .i64 b) 23).below hb6 (by simp)
  have HB6 : Below w.heap.size w w6 := (HB5.alloc hq5 _).trans (hb6.mono (by simp; omega))
  have hq6 := HB6.size
  clear hb6 HB5 p0a p0b p0c p0d p0l p1a p1b p1c p1d p1l p2a p2b p2c p2d p2l pa pb pc pd pl qa qb qc qd ql
  obtain ⟨p0a, p0b, p0c, p0d⟩ := p0t
  have p0l : w.heap.size < w6.heap.size := World.block_lt_of_cell? _ _ p0a
  obtain ⟨p1a, p1b, p1c, p1d⟩ := p1t
  have p1l : w.heap.size + 1 < w6.heap.size := World.block_lt_of_cell? _ _ p1a
  obtain ⟨p2a, p2b, p2c, p2d⟩ := p2t
  have p2l : w.heap.size + 1 + 1 < w6.heap.size := World.block_lt_of_cell? _ _ p2a
  obtain ⟨pa, pb, pc, pd⟩ := pt
  have pl : w3.heap.size < w6.heap.size := World.block_lt_of_cell? _ _ pa
  obtain ⟨ka, kb, kc, kd⟩ := kt
  have kl : w5.heap.size < w6.heap.size := World.block_lt_of_cell? _ _ ka
  go_wp2_with fail
  refine (K5.out _).mono ?_
  rintro e w7 ⟨rfl, hb7⟩
  have hz7 := hb7.size
  simp only [World.size_alloc] at hz7
  have p0t := ((At2.mk p0a p0b p0c p0d).alloc (by omega) _).below hb7 (by simp; omega)
  have p1t := ((At2.mk p1a p1b p1c p1d).alloc (by omega) _).below hb7 (by simp; omega)
  have p2t := ((At2.mk p2a p2b p2c p2d).alloc (by omega) _).below hb7 (by simp; omega)
  have pt := ((At2.mk pa pb pc pd).alloc (by omega) _).below hb7 (by simp; omega)
  have rt := (At2.new w6 (.int .i64 r1) (.int .i64 r2) 23).below hb7 (by simp)
  have HB7 : Below w.heap.size w w7 := (HB6.alloc hq6 _).trans (hb7.mono (by simp; omega))
  have hq7 := HB7.size
  clear hb7 HB6 p0a p0b p0c p0d p0l p1a p1b p1c p1d p1l p2a p2b p2c p2d p2l pa pb pc pd pl ka kb kc kd kl
  obtain ⟨p0a, p0b, p0c, p0d⟩ := p0t
  have p0l : w.heap.size < w7.heap.size := World.block_lt_of_cell? _ _ p0a
  obtain ⟨p1a, p1b, p1c, p1d⟩ := p1t
  have p1l : w.heap.size + 1 < w7.heap.size := World.block_lt_of_cell? _ _ p1a
  obtain ⟨p2a, p2b, p2c, p2d⟩ := p2t
  have p2l : w.heap.size + 1 + 1 < w7.heap.size := World.block_lt_of_cell? _ _ p2a
  obtain ⟨pa, pb, pc, pd⟩ := pt
  have pl : w3.heap.size < w7.heap.size := World.block_lt_of_cell? _ _ pa
  obtain ⟨ra, rb, rc, rd⟩ := rt
  have rl : w6.heap.size < w7.heap.size := World.block_lt_of_cell? _ _ ra
  go_wp2_with fail
  refine (K6.out _).mono ?_
  rintro e w8 ⟨rfl, hb8⟩
  have hz8 := hb8.size
  simp only [World.size_alloc] at hz8
  have p0t := ((At2.mk p0a p0b p0c p0d).alloc (by omega) _).below hb8 (by simp; omega)
  have p1t := ((At2.mk p1a p1b p1c p1d).alloc (by omega) _).below hb8 (by simp; omega)
  have p2t := ((At2.mk p2a p2b p2c p2d).alloc (by omega) _).below hb8 (by simp; omega)
  have pt := ((At2.mk pa pb pc pd).alloc (by omega) _).below hb8 (by simp; omega)
  have rt := ((At2.mk ra rb rc rd).alloc (by omega) _).below hb8 (by simp; omega)
  have ut := (At2.new w7 (.int .i64 u1) (.int .i64 u2) 23).below hb8 (by simp)
  have HB8 : Below w.heap.size w w8 := (HB7.alloc hq7 _).trans (hb8.mono (by simp; omega))
  have hq8 := HB8.size
  clear hb8 HB7 p0a p0b p0c p0d p0l p1a p1b p1c p1d p1l p2a p2b p2c p2d p2l pa pb pc pd pl ra rb rc rd rl
  obtain ⟨p0a, p0b, p0c, p0d⟩ := p0t
  have p0l : w.heap.size < w8.heap.size := World.block_lt_of_cell? _ _ p0a
  obtain ⟨p1a, p1b, p1c, p1d⟩ := p1t
  have p1l : w.heap.size + 1 < w8.heap.size := World.block_lt_of_cell? _ _ p1a
  obtain ⟨p2a, p2b, p2c, p2d⟩ := p2t
  have p2l : w.heap.size + 1 + 1 < w8.heap.size := World.block_lt_of_cell? _ _ p2a
  obtain ⟨pa, pb, pc, pd⟩ := pt
  have pl : w3.heap.size < w8.heap.size := World.block_lt_of_cell? _ _ pa
  obtain ⟨ra, rb, rc, rd⟩ := rt
  have rl : w6.heap.size < w8.heap.size := World.block_lt_of_cell? _ _ ra
  obtain ⟨ua, ub, uc, ud⟩ := ut
  have ul : w7.heap.size < w8.heap.size := World.block_lt_of_cell? _ _ ua
  go_wp2_with fail
  refine (K7.out _).mono ?_
  rintro e w9 ⟨rfl, hb9⟩
  have hz9 := hb9.size
  simp only [World.size_alloc] at hz9
  have p0t := ((At2.mk p0a p0b p0c p0d).alloc (by omega) _).below hb9 (by simp; omega)
  have p1t := ((At2.mk p1a p1b p1c p1d).alloc (by omega) _).below hb9 (by simp; omega)
  have p2t := ((At2.mk p2a p2b p2c p2d).alloc (by omega) _).below hb9 (by simp; omega)
  have pt := ((At2.mk pa pb pc pd).alloc (by omega) _).below hb9 (by simp; omega)
  have rt := ((At2.mk ra rb rc rd).alloc (by omega) _).below hb9 (by simp; omega)
  have ut := ((At2.mk ua ub uc ud).alloc (by omega) _).below hb9 (by simp; omega)
  have vt := (At2.new w8 (.int .i64 v1) (.int .i64 v2) 23).below hb9 (by simp)
  have HB9 : Below w.heap.size w w9 := (HB8.alloc hq8 _).trans (hb9.mono (by simp; omega))
  have hq9 := HB9.size
  clear hb9 HB8 p0a p0b p0c p0d p0l p1a p1b p1c p1d p1l p2a p2b p2c p2d p2l pa pb pc pd pl ra rb rc rd rl ua ub uc ud ul
  obtain ⟨p0a, p0b, p0c, p0d⟩ := p0t
  have p0l : w.heap.size < w9.heap.size := World.block_lt_of_cell? _ _ p0a
  obtain ⟨p1a, p1b, p1c, p1d⟩ := p1t
  have p1l : w.heap.size + 1 < w9.heap.size := World.block_lt_of_cell? _ _ p1a
  obtain ⟨p2a, p2b, p2c, p2d⟩ := p2t
  have p2l : w.heap.size + 1 + 1 < w9.heap.size := World.block_lt_of_cell? _ _ p2a
  obtain ⟨pa, pb, pc, pd⟩ := pt
  have pl : w3.heap.size < w9.heap.size := World.block_lt_of_cell? _ _ pa
  obtain ⟨ra, rb, rc, rd⟩ := rt
  have rl : w6.heap.size < w9.heap.size := World.block_lt_of_cell? _ _ ra
  obtain ⟨ua, ub, uc, ud⟩ := ut
  have ul : w7.heap.size < w9.heap.size := World.block_lt_of_cell? _ _ ua
  obtain ⟨va, vb, vc, vd⟩ := vt
  have vl : w8.heap.size < w9.heap.size := World.block_lt_of_cell? _ _ va
  go_wp2_with fail
  refine (K8.out _).mono ?_
  rintro e w10 ⟨rfl, hb10⟩
  have hz10 := hb10.size
  simp only [World.size_setCell] at hz10
  have p0t := ((At2.mk p0a p0b p0c p0d).other (b' := w6.heap.size) (by omega) (.int .i64 R1) (.int .i64 R2)).below hb10 (by first | omega | (simp; omega))
  have p1t := ((At2.mk p1a p1b p1c p1d).other (b' := w6.heap.size) (by omega) (.int .i64 R1) (.int .i64 R2)).below hb10 (by first | omega | (simp; omega))
  have p2t := ((At2.mk p2a p2b p2c p2d).other (b' := w6.heap.size) (by omega) (.int .i64 R1) (.int .i64 R2)).below hb10 (by first | omega | (simp; omega))
  have pt := ((At2.mk pa pb pc pd).other (b' := w6.heap.size) (by omega) (.int .i64 R1) (.int .i64 R2)).below hb10 (by first | omega | (simp; omega))
  have rt := ((At2.mk ra rb rc rd).set (.int .i64 R1) (.int .i64 R2)).below hb10 (by first | omega | (simp; omega))
  have ut := ((At2.mk ua ub uc ud).other (b' := w6.heap.size) (by omega) (.int .i64 R1) (.int .i64 R2)).below hb10 (by first | omega | (simp; omega))
  have vt := ((At2.mk va vb vc vd).other (b' := w6.heap.size) (by omega) (.int .i64 R1) (.int .i64 R2)).below hb10 (by first | omega | (simp; omega))
  have HB10 : Below w.heap.size w w10 := ((HB9.setCell (p := ⟨w6.heap.size, 0, none⟩) (by first | omega | (simp; omega)) (.int .i64 R1)).setCell (p := ⟨w6.heap.size, 1, none⟩) (by first | omega | (simp; omega)) (.int .i64 R2)).trans (hb10.mono (by first | omega | (simp; omega)))
  have hq10 := HB10.size
  clear hb10 HB9 p0a p0b p0c p0d p0l p1a p1b p1c p1d p1l p2a p2b p2c p2d p2l pa pb pc pd pl ra rb rc rd rl ua ub uc ud ul va vb vc vd vl
  obtain ⟨p0a, p0b, p0c, p0d⟩ := p0t
  have p0l : w.heap.size < w10.heap.size := World.block_lt_of_cell? _ _ p0a
  obtain ⟨p1a, p1b, p1c, p1d⟩ := p1t
  have p1l : w.heap.size + 1 < w10.heap.size := World.block_lt_of_cell? _ _ p1a
  obtain ⟨p2a, p2b, p2c, p2d⟩ := p2t
  have p2l : w.heap.size + 1 + 1 < w10.heap.size := World.block_lt_of_cell? _ _ p2a
  obtain ⟨pa, pb, pc, pd⟩ := pt
  have pl : w3.heap.size < w10.heap.size := World.block_lt_of_cell? _ _ pa
  obtain ⟨ra, rb, rc, rd⟩ := rt
  have rl : w6.heap.size < w10.heap.size := World.block_lt_of_cell? _ _ ra
  obtain ⟨ua, ub, uc, ud⟩ := ut
  have ul : w7.heap.size < w10.heap.size := World.block_lt_of_cell? _ _ ua
  obtain ⟨va, vb, vc, vd⟩ := vt
  have vl : w8.heap.size < w10.heap.size := World.block_lt_of_cell? _ _ va
  go_wp2_with fail
  refine (K9.out _).mono ?_
  rintro e w11 ⟨rfl, hb11⟩
  have hz11 := hb11.size
  simp only [World.size_setCell] at hz11
  have p0t := ((At2.mk p0a p0b p0c p0d).other (b' := w7.heap.size) (by omega) (.int .i64 U1) (.int .i64 U2)).below hb11 (by first | omega | (simp; omega))
  have p1t := ((At2.mk p1a p1b p1c p1d).other (b' := w7.heap.size) (by omega) (.int .i64 U1) (.int .i64 U2)).below hb11 (by first | omega | (simp; omega))
  have p2t := ((At2.mk p2a p2b p2c p2d).other (b' := w7.heap.size) (by omega) (.int .i64 U1) (.int .i64 U2)).below hb11 (by first | omega | (simp; omega))
  have pt := ((At2.mk pa pb pc pd).other (b' := w7.heap.size) (by omega) (.int .i64 U1) (.int .i64 U2)).below hb11 (by first | omega | (simp; omega))
  have rt := ((At2.mk ra rb rc rd).other (b' := w7.heap.size) (by omega) (.int .i64 U1) (.int .i64 U2)).below hb11 (by first | omega | (simp; omega))
  have ut := ((At2.mk ua ub uc ud).set (.int .i64 U1) (.int .i64 U2)).below hb11 (by first | omega | (simp; omega))
  have vt := ((At2.mk va vb vc vd).other (b' := w7.heap.size) (by omega) (.int .i64 U1) (.int .i64 U2)).below hb11 (by first | omega | (simp; omega))
  have HB11 : Below w.heap.size w w11 := ((HB10.setCell (p := ⟨w7.heap.size, 0, none⟩) (by first | omega | (simp; omega)) (.int .i64 U1)).setCell (p := ⟨w7.heap.size, 1, none⟩) (by first | omega | (simp; omega)) (.int .i64 U2)).trans (hb11.mono (by first | omega | (simp; omega)))
  have hq11 := HB11.size
  clear hb11 HB10 p0a p0b p0c p0d p0l p1a p1b p1c p1d p1l p2a p2b p2c p2d p2l pa pb pc pd pl ra rb rc rd rl ua ub uc ud ul va vb vc vd vl
  obtain ⟨p0a, p0b, p0c, p0d⟩ := p0t
  have p0l : w.heap.size < w11.heap.size := World.block_lt_of_cell? _ _ p0a
  obtain ⟨p1a, p1b, p1c, p1d⟩ := p1t
  have p1l : w.heap.size + 1 < w11.heap.size := World.block_lt_of_cell? _ _ p1a
  obtain ⟨p2a, p2b, p2c, p2d⟩ := p2t
  have p2l : w.heap.size + 1 + 1 < w11.heap.size := World.block_lt_of_cell? _ _ p2a
  obtain ⟨pa, pb, pc, pd⟩ := pt
  have pl : w3.heap.size < w11.heap.size := World.block_lt_of_cell? _ _ pa
  obtain ⟨ra, rb, rc, rd⟩ := rt
  have rl : w6.heap.size < w11.heap.size := World.block_lt_of_cell? _ _ ra
  obtain ⟨ua, ub, uc, ud⟩ := ut
  have ul : w7.heap.size < w11.heap.size := World.block_lt_of_cell? _ _ ua
  obtain ⟨va, vb, vc, vd⟩ := vt
  have vl : w8.heap.size < w11.heap.size := World.block_lt_of_cell? _ _ va
  go_wp2_with fail
  refine (K10.out _).mono ?_
  rintro e w12 ⟨rfl, hb12⟩
  have hz12 := hb12.size
  simp only [World.size_alloc] at hz12
  have p0t := ((At2.mk p0a p0b p0c p0d).alloc (by omega) _).below hb12 (by simp; omega)
  have p1t := ((At2.mk p1a p1b p1c p1d).alloc (by omega) _).below hb12 (by simp; omega)
  have p2t := ((At2.mk p2a p2b p2c p2d).alloc (by omega) _).below hb12 (by simp; omega)
  have pt := ((At2.mk pa pb pc pd).alloc (by omega) _).below hb12 (by simp; omega)
  have rt := ((At2.mk ra rb rc rd).alloc (by omega) _).below hb12 (by simp; omega)
  have ut := ((At2.mk ua ub uc ud).alloc (by omega) _).below hb12 (by simp; omega)
  have vt := ((At2.mk va vb vc vd).alloc (by omega) _).below hb12 (by simp; omega)
  have st := (At2.new w11 (.int .i64 s1) (.int .i64 s2) 23).below hb12 (by simp)
  have HB12 : Below w.heap.size w w12 := (HB11.alloc hq11 _).trans (hb12.mono (by simp; omega))
  have hq12 := HB12.size
  clear hb12 HB11 p0a p0b p0c p0d p0l p1a p1b p1c p1d p1l p2a p2b p2c p2d p2l pa pb pc pd pl ra rb rc rd rl ua ub uc ud ul va vb vc vd vl
  obtain ⟨p0a, p0b, p0c, p0d⟩ := p0t
  have p0l : w.heap.size < w12.heap.size := World.block_lt_of_cell? _ _ p0a
  obtain ⟨p1a, p1b, p1c, p1d⟩ := p1t
  have p1l : w.heap.size + 1 < w12.heap.size := World.block_lt_of_cell? _ _ p1a
  obtain ⟨p2a, p2b, p2c, p2d⟩ := p2t
  have p2l : w.heap.size + 1 + 1 < w12.heap.size := World.block_lt_of_cell? _ _ p2a
  obtain ⟨pa, pb, pc, pd⟩ := pt
  have pl : w3.heap.size < w12.heap.size := World.block_lt_of_cell? _ _ pa
  obtain ⟨ra, rb, rc, rd⟩ := rt
  have rl : w6.heap.size < w12.heap.size := World.block_lt_of_cell? _ _ ra
  obtain ⟨ua, ub, uc, ud⟩ := ut
  have ul : w7.heap.size < w12.heap.size := World.block_lt_of_cell? _ _ ua
  obtain ⟨va, vb, vc, vd⟩ := vt
  have vl : w8.heap.size < w12.heap.size := World.block_lt_of_cell? _ _ va
  obtain ⟨sa, sb, sc, sd⟩ := st
  have sl : w11.heap.size < w12.heap.size := World.block_lt_of_cell? _ _ sa
  go_wp2
  go_ret
  exact ⟨rfl, (by repeat' (first | exact HB12 | refine Below.setCell ?_ (by first | omega | (simp; done) | (simp; omega)) _ | refine below_drewN ?_ _ | refine Below.alloc ?_ (by first | omega | (simp; done) | (simp; omega)) _))⟩

set_option maxRecDepth 100000 in
set_option maxHeartbeats 2000000 in
theorem products_nhl (a b c d g h p1 p2 r1 r2 u1 u2 v1 v2 he ie ke R1 R2 U1 U2 s1 s2 V1 V2 Le Ke : Int) (w : World) (hE : Env w) (hv : (vld a b && vld c d && vld g h) = true)
    (a0 : -9223372036854775808 ≤ a) (a1 : a ≤ 9223372036854775807) (b0 : -9223372036854775808 ≤ b) (b1 : b ≤ 9223372036854775807)
    (c0 : -9223372036854775808 ≤ c) (c1 : c ≤ 9223372036854775807) (d0 : -9223372036854775808 ≤ d) (d1 : d ≤ 9223372036854775807)
    (g0 : -9223372036854775808 ≤ g) (g1 : g ≤ 9223372036854775807) (h0 : -9223372036854775808 ≤ h) (h1 : h ≤ 9223372036854775807)
    (k1 : Gives 18 #[.agg #[.int .i64 a, .int .i64 b], .agg #[.int .i64 c, .int .i64 d]] (.tuple #[.agg #[.int .i64 p1, .int .i64 p2], .int .i64 0]))
    (k2 : Gives 18 #[.agg #[.int .i64 c, .int .i64 d], .agg #[.int .i64 a, .int .i64 b]] (.tuple #[.agg #[.int .i64 p1, .int .i64 p2], .int .i64 0]))
    (k3 : Gives 20 #[.agg #[.int .i64 p1, .int .i64 p2], .agg #[.int .i64 c, .int .i64 d]] (.tuple #[.agg #[.int .i64 a, .int .i64 b], .int .i64 0]))
    (k4 : Gives 18 #[.agg #[.int .i64 c, .int .i64 d], .agg #[.int .i64 g, .int .i64 h]] (.tuple #[.agg #[.int .i64 r1, .int .i64 r2], .int .i64 he]))
    (k5 : Gives 18 #[.agg #[.int .i64 p1, .int .i64 p2], .agg #[.int .i64 g, .int .i64 h]] (.tuple #[.agg #[.int .i64 u1, .int .i64 u2], .int .i64 ie]))
    (k6 : Gives 18 #[.agg #[.int .i64 a, .int .i64 b], .agg #[.int .i64 r1, .int .i64 r2]] (.tuple #[.agg #[.int .i64 v1, .int .i64 v2], .int .i64 ke]))
    (k7 : Gives 14 #[.agg #[.int .i64 c, .int .i64 d], .agg #[.int .i64 g, .int .i64 h]] (.tuple #[.agg #[.int .i64 R1, .int .i64 R2], .int .i64 0]))
    (k8 : Gives 18 #[.agg #[.int .i64 a, .int .i64 b], .agg #[.int .i64 R1, .int .i64 R2]] (.tuple #[.agg #[.int .i64 U1, .int .i64 U2], .int .i64 0]))
    (k9 : Gives 18 #[.agg #[.int .i64 a, .int .i64 b], .agg #[.int .i64 g, .int .i64 h]] (.tuple #[.agg #[.int .i64 s1, .int .i64 s2], .int .i64 Le]))
    (k10 : Gives 14 #[.agg #[.int .i64 p1, .int .i64 p2], .agg #[.int .i64 s1, .int .i64 s2]] (.tuple #[.agg #[.int .i64 V1, .int .i64 V2], .int .i64 Ke]))
    (hc : ¬ c = 0)  (hb1 : ¬ he = 0) (hb2 : ¬ Le = 0) :
    Calls Tryd.prog 6 #[.agg #[.int .i64 a, .int .i64 b], .agg #[.int .i64 c, .int .i64 d], .agg #[.int .i64 g, .int .i64 h]] w fun e w' =>
      e = .returned (.bool true) ∧ Below w.heap.size w w' := by
  have HE := Lib.hid hE
  have HV := Lib.hid hv
  have K1 := Lib.hid k1
  have K2 := Lib.hid k2
  have K3 := Lib.hid k3
  have K4 := Lib.hid k4
  have K5 := Lib.hid k5
  have K6 := Lib.hid k6
  have K7 := Lib.hid k7
  have K8 := Lib.hid k8
  have K9 := Lib.hid k9
  have K10 := Lib.hid k10
  clear hE hv k1 k2 k3 k4 k5 k6 k7 k8 k9 k10
  have f0 : (c == 0) = false := by simp; exact hc
  have f00 : (c != 0) = true := by simp; exact hc
  have f1 : (he != 0) = true := by simp; exact hb1
  have f11 : (he == 0) = false := by simp; exact hb1
  have f2 : (Le != 0) = true := by simp; exact hb2
  have f22 : (Le == 0) = false := by simp; exact hb2
  go_enter Tryd.func6, Tryd.ntmps6
  go_wp2_with fail
  refine (head_any _ (((HE.out.below ((Below.refl _ _).alloc (Nat.le_refl _) _)).below ((Below.refl _ _).alloc (Nat.le_refl _) _)).below ((Below.refl _ _).alloc (Nat.le_refl _) _))).mono ?_
  rintro e w1 ⟨rfl, hb1⟩
  have hz1 := hb1.size
  simp only [World.size_alloc] at hz1
  have T0x : At2 w1 (w.heap.size) (.int .i64 a) (.int .i64 b) := by
    have := (((At2.new w (.int .i64 a) (.int .i64 b) 23).alloc (by first | (simp; done) | (simp; omega)) (.cells #[.int .i64 c, .int .i64 d] 23)).alloc (by first | (simp; done) | (simp; omega)) (.cells #[.int .i64 g, .int .i64 h] 23)).below hb1 (by first | (simp; done) | (simp; omega))
    simpa using this
  have T1x : At2 w1 (w.heap.size + 1) (.int .i64 c) (.int .i64 d) := by
    have := ((At2.new (w.alloc (.cells #[.int .i64 a, .int .i64 b] 23)) (.int .i64 c) (.int .i64 d) 23).alloc (by first | (simp; done) | (simp; omega)) (.cells #[.int .i64 g, .int .i64 h] 23)).below hb1 (by first | (simp; done) | (simp; omega))
    simpa using this
  have T2x : At2 w1 (w.heap.size + 1 + 1) (.int .i64 g) (.int .i64 h) := by
    have := (At2.new ((w.alloc (.cells #[.int .i64 a, .int .i64 b] 23)).alloc (.cells #[.int .i64 c, .int .i64 d] 23)) (.int .i64 g) (.int .i64 h) 23).below hb1 (by first | (simp; done) | (simp; omega))
    simpa using this
  have HB1 : Below w.heap.size w w1 := ((((Below.refl _ _).alloc (by first | (exact Nat.le_refl _) | (simp; done) | (simp; omega)) _).alloc (by first | (exact Nat.le_refl _) | (simp; done) | (simp; omega)) _).alloc (by first | (exact Nat.le_refl _) | (simp; done) | (simp; omega)) _).trans (hb1.mono (by simp; omega))
  have hq1 := HB1.size
  clear hb1
  obtain ⟨p0a, p0b, p0c, p0d⟩ := T0x
  have p0l : w.heap.size < w1.heap.size := World.block_lt_of_cell? _ _ p0a
  obtain ⟨p1a, p1b, p1c, p1d⟩ := T1x
  have p1l : w.heap.size + 1 < w1.heap.size := World.block_lt_of_cell? _ _ p1a
  obtain ⟨p2a, p2b, p2c, p2d⟩ := T2x
  have p2l : w.heap.size + 1 + 1 < w1.heap.size := World.block_lt_of_cell? _ _ p2a
  go_wp2_with fail
  refine (numbers3 a b c d g h true _ HV.out a0 a1 b0 b1 c0 c1 d0 d1 g0 g1 h0 h1 _).mono ?_
  rintro e w2 ⟨rfl, hb2⟩
  have hz2 := hb2.size
  have p0t := (At2.mk p0a p0b p0c p0d).below hb2 (by omega)
  have p1t := (At2.mk p1a p1b p1c p1d).below hb2 (by omega)
  have p2t := (At2.mk p2a p2b p2c p2d).below hb2 (by omega)
  have HB2 : Below w.heap.size w w2 := HB1.trans (hb2.mono hq1)
  have hq2 := HB2.size
  clear hb2 HB1 p0a p0b p0c p0d p0l p1a p1b p1c p1d p1l p2a p2b p2c p2d p2l
  obtain ⟨p0a, p0b, p0c, p0d⟩ := p0t
  have p0l : w.heap.size < w2.heap.size := World.block_lt_of_cell? _ _ p0a
  obtain ⟨p1a, p1b, p1c, p1d⟩ := p1t
  have p1l : w.heap.size + 1 < w2.heap.size := World.block_lt_of_cell? _ _ p1a
  obtain ⟨p2a, p2b, p2c, p2d⟩ := p2t
  have p2l : w.heap.size + 1 + 1 < w2.heap.size := World.block_lt_of_cell? _ _ p2a
  go_wp2_with fail
  refine (K1.out _).mono ?_
  rintro e w3 ⟨rfl, hb3⟩
  have hz3 := hb3.size
  have p0t := (At2.mk p0a p0b p0c p0d).below hb3 (by omega)
  have p1t := (At2.mk p1a p1b p1c p1d).below hb3 (by omega)
  have p2t := (At2.mk p2a p2b p2c p2d).below hb3 (by omega)
  have HB3 : Below w.heap.size w w3 := HB2.trans (hb3.mono hq2)
  have hq3 := HB3.size
  clear hb3 HB2 p0a p0b p0c p0d p0l p1a p1b p1c p1d p1l p2a p2b p2c p2d p2l
  obtain ⟨p0a, p0b, p0c, p0d⟩ := p0t
  have p0l : w.heap.size < w3.heap.size := World.block_lt_of_cell? _ _ p0a
  obtain ⟨p1a, p1b, p1c, p1d⟩ := p1t
  have p1l : w.heap.size + 1 < w3.heap.size := World.block_lt_of_cell? _ _ p1a
  obtain ⟨p2a, p2b, p2c, p2d⟩ := p2t
  have p2l : w.heap.size + 1 + 1 < w3.heap.size := World.block_lt_of_cell? _ _ p2a
  go_wp2_with fail
  refine (K2.out _).mono ?_
  rintro e w4 ⟨rfl, hb4⟩
  have hz4 := hb4.size
  simp only [World.size_alloc] at hz4
  have p0t := ((At2.mk p0a p0b p0c p0d).alloc (by omega) _).below hb4 (by simp; omega)
  have p1t := ((At2.mk p1a p1b p1c p1d).alloc (by omega) _).below hb4 (by simp; omega)
  have p2t := ((At2.mk p2a p2b p2c p2d).alloc (by omega) _).below hb4 (by simp; omega)
  have pt := (At2.new w3 (.int .i64 p1) (.int .i64 p2) 23).below hb4 (by simp)
  have HB4 : Below w.heap.size w w4 := (HB3.alloc hq3 _).trans (hb4.mono (by simp; omega))
  have hq4 := HB4.size
  clear hb4 HB3 p0a p0b p0c p0d p0l p1a p1b p1c p1d p1l p2a p2b p2c p2d p2l
  obtain ⟨p0a, p0b, p0c, p0d⟩ := p0t
  have p0l : w.heap.size < w4.heap.size := World.block_lt_of_cell? _ _ p0a
  obtain ⟨p1a, p1b, p1c, p1d⟩ := p1t
  have p1l : w.heap.size + 1 < w4.heap.size := World.block_lt_of_cell? _ _ p1a
  obtain ⟨p2a, p2b, p2c, p2d⟩ := p2t
  have p2l : w.heap.size + 1 + 1 < w4.heap.size := World.block_lt_of_cell? _ _ p2a
  obtain ⟨pa, pb, pc, pd⟩ := pt
  have pl : w3.heap.size < w4.heap.size := World.block_lt_of_cell? _ _ pa
  go_wp2_with fail
  refine (K3.out _).mono ?_
  rintro e w5 ⟨rfl, hb5⟩
  have hz5 := hb5.size
  simp only [World.size_alloc] at hz5
  have p0t := ((At2.mk p0a p0b p0c p0d).alloc (by omega) _).below hb5 (by simp; omega)
  have p1t := ((At2.mk p1a p1b p1c p1d).alloc (by omega) _).below hb5 (by simp; omega)
  have p2t := ((At2.mk p2a p2b p2c p2d).alloc (by omega) _).below hb5 (by simp; omega)
  have pt := ((At2.mk pa pb pc pd).alloc (by omega) _).below hb5 (by simp; omega)
  have qt := (At2.new w4 (.int .i64 p1) (.int .i64 p2) 23).below hb5 (by simp)
  have HB5 : Below w.heap.size w w5 := (HB4.alloc hq4 _).trans (hb5.mono (by simp; omega))
  have hq5 := HB5.size
  clear hb5 HB4 p0a p0b p0c p0d p0l p1a p1b p1c p1d p1l p2a p2b p2c p2d p2l pa pb pc pd pl
  obtain ⟨p0a, p0b, p0c, p0d⟩ := p0t
  have p0l : w.heap.size < w5.heap.size := World.block_lt_of_cell? _ _ p0a
  obtain ⟨p1a, p1b, p1c, p1d⟩ := p1t
  have p1l : w.heap.size + 1 < w5.heap.size := World.block_lt_of_cell? _ _ p1a
  obtain ⟨p2a, p2b, p2c, p2d⟩ := p2t
  have p2l : w.heap.size + 1 + 1 < w5.heap.size := World.block_lt_of_cell? _ _ p2a
  obtain ⟨pa, pb, pc, pd⟩ := pt
  have pl : w3.heap.size < w5.heap.size := World.block_lt_of_cell? _ _ pa
  obtain ⟨qa, qb, qc, qd⟩ := qt
  have ql : w4.heap.size < w5.heap.size := World.block_lt_of_cell? _ _ qa
  go_wp2_with fail
  refine (K4.out _).mono ?_
  rintro e w6 ⟨rfl, hb6⟩
  have hz6 := hb6.size
  simp only [World.size_alloc] at hz6
  have p0t := ((At2.mk p0a p0b p0c p0d).alloc (by omega) _).below hb6 (by simp; omega)
  have p1t := ((At2.mk p1a p1b p1c p1d).alloc (by omega) _).below hb6 (by simp; omega)
  have p2t := ((At2.mk p2a p2b p2c p2d).alloc (by omega) _).below hb6 (by simp; omega)
  have pt := ((At2.mk pa pb pc pd).alloc (by omega) _).below hb6 (by simp; omega)
  have kt := (At2.new w5 (.int .i64 a) (.int .i64 b) 23).below hb6 (by simp)
  have HB6 : Below w.heap.size w w6 := (HB5.alloc hq5 _).trans (hb6.mono (by simp; omega))
  have hq6 := HB6.size
  clear hb6 HB5 p0a p0b p0c p0d p0l p1a p1b p1c p1d p1l p2a p2b p2c p2d p2l pa pb pc pd pl qa qb qc qd ql
  obtain ⟨p0a, p0b, p0c, p0d⟩ := p0t
  have p0l : w.heap.size < w6.heap.size := World.block_lt_of_cell? _ _ p0a
  obtain ⟨p1a, p1b, p1c, p1d⟩ := p1t
  have p1l : w.heap.size + 1 < w6.heap.size := World.block_lt_of_cell? _ _ p1a
  obtain ⟨p2a, p2b, p2c, p2d⟩ := p2t
  have p2l : w.heap.size + 1 + 1 < w6.heap.size := World.block_lt_of_cell? _ _ p2a
  obtain ⟨pa, pb, pc, pd⟩ := pt
  have pl : w3.heap.size < w6.heap.size := World.block_lt_of_cell? _ _ pa
  obtain ⟨ka, kb, kc, kd⟩ := kt
  have kl : w5.heap.size < w6.heap.size := World.block_lt_of_cell? _ _ ka
  go_wp2_with fail
  refine (K5.out _).mono ?_
  rintro e w7 ⟨rfl, hb7⟩
  have hz7 := hb7.size
  simp only [World.size_alloc] at hz7
  have p0t := ((At2.mk p0a p0b p0c p0d).alloc (by omega) _).below hb7 (by simp; omega)
  have p1t := ((At2.mk p1a p1b p1c p1d).alloc (by omega) _).below hb7 (by simp; omega)
  have p2t := ((At2.mk p2a p2b p2c p2d).alloc (by omega) _).below hb7 (by simp; omega)
  have pt := ((At2.mk pa pb pc pd).alloc (by omega) _).below hb7 (by simp; omega)
  have rt := (At2.new w6 (.int .i64 r1) (.int .i64 r2) 23).below hb7 (by simp)
  have HB7 : Below w.heap.size w w7 := (HB6.alloc hq6 _).trans (hb7.mono (by simp; omega))
  have hq7 := HB7.size
  clear hb7 HB6 p0a p0b p0c p0d p0l p1a p1b p1c p1d p1l p2a p2b p2c p2d p2l pa pb pc pd pl ka kb kc kd kl
  obtain ⟨p0a, p0b, p0c, p0d⟩ := p0t
  have p0l : w.heap.size < w7.heap.size := World.block_lt_of_cell? _ _ p0a
  obtain ⟨p1a, p1b, p1c, p1d⟩ := p1t
  have p1l : w.heap.size + 1 < w7.heap.size := World.block_lt_of_cell? _ _ p1a
  obtain ⟨p2a, p2b, p2c, p2d⟩ := p2t
  have p2l : w.heap.size + 1 + 1 < w7.heap.size := World.block_lt_of_cell? _ _ p2a
  obtain ⟨pa, pb, pc, pd⟩ := pt
  have pl : w3.heap.size < w7.heap.size := World.block_lt_of_cell? _ _ pa
  obtain ⟨ra, rb, rc, rd⟩ := rt
  have rl : w6.heap.size < w7.heap.size := World.block_lt_of_cell? _ _ ra
  go_wp2_with fail
  refine (K6.out _).mono ?_
  rintro e w8 ⟨rfl, hb8⟩
  have hz8 := hb8.size
  simp only [World.size_alloc] at hz8
  have p0t := ((At2.mk p0a p0b p0c p0d).alloc (by omega) _).below hb8 (by simp; omega)
  have p1t := ((At2.mk p1a p1b p1c p1d).alloc (by omega) _).below hb8 (by simp; omega)
  have p2t := ((At2.mk p2a p2b p2c p2d).alloc (by omega) _).below hb8 (by simp; omega)
  have pt := ((At2.mk pa pb pc pd).alloc (by omega) _).below hb8 (by simp; omega)
  have rt := ((At2.mk ra rb rc rd).alloc (by omega) _).below hb8 (by simp; omega)
  have ut := (At2.new w7 (.int .i64 u1) (.int .i64 u2) 23).below hb8 (by simp)
  have HB8 : Below w.heap.size w w8 := (HB7.alloc hq7 _).trans (hb8.mono (by simp; omega))
  have hq8 := HB8.size
  clear hb8 HB7 p0a p0b p0c p0d p0l p1a p1b p1c p1d p1l p2a p2b p2c p2d p2l pa pb pc pd pl ra rb rc rd rl
  obtain ⟨p0a, p0b, p0c, p0d⟩ := p0t
  have p0l : w.heap.size < w8.heap.size := World.block_lt_of_cell? _ _ p0a
  obtain ⟨p1a, p1b, p1c, p1d⟩ := p1t
  have p1l : w.heap.size + 1 < w8.heap.size := World.block_lt_of_cell? _ _ p1a
  obtain ⟨p2a, p2b, p2c, p2d⟩ := p2t
  have p2l : w.heap.size + 1 + 1 < w8.heap.size := World.block_lt_of_cell? _ _ p2a
  obtain ⟨pa, pb, pc, pd⟩ := pt
  have pl : w3.heap.size < w8.heap.size := World.block_lt_of_cell? _ _ pa
  obtain ⟨ra, rb, rc, rd⟩ := rt
  have rl : w6.heap.size < w8.heap.size := World.block_lt_of_cell? _ _ ra
  obtain ⟨ua, ub, uc, ud⟩ := ut
  have ul : w7.heap.size < w8.heap.size := World.block_lt_of_cell? _ _ ua
  go_wp2_with fail
  refine (K7.out _).mono ?_
  rintro e w9 ⟨rfl, hb9⟩
  have hz9 := hb9.size
  simp only [World.size_alloc] at hz9
  have p0t := ((At2.mk p0a p0b p0c p0d).alloc (by omega) _).below hb9 (by simp; omega)
  have p1t := ((At2.mk p1a p1b p1c p1d).alloc (by omega) _).below hb9 (by simp; omega)
  have p2t := ((At2.mk p2a p2b p2c p2d).alloc (by omega) _).below hb9 (by simp; omega)
  have pt := ((At2.mk pa pb pc pd).alloc (by omega) _).below hb9 (by simp; omega)
  have rt := ((At2.mk ra rb rc rd).alloc (by omega) _).below hb9 (by simp; omega)
  have ut := ((At2.mk ua ub uc ud).alloc (by omega) _).below hb9 (by simp; omega)
  have vt := (At2.new w8 (.int .i64 v1) (.int .i64 v2) 23).below hb9 (by simp)
  have HB9 : Below w.heap.size w w9 := (HB8.alloc hq8 _).trans (hb9.mono (by simp; omega))
  have hq9 := HB9.size
  clear hb9 HB8 p0a p0b p0c p0d p0l p1a p1b p1c p1d p1l p2a p2b p2c p2d p2l pa pb pc pd pl ra rb rc rd rl ua ub uc ud ul
  obtain ⟨p0a, p0b, p0c, p0d⟩ := p0t
  have p0l : w.heap.size < w9.heap.size := World.block_lt_of_cell? _ _ p0a
  obtain ⟨p1a, p1b, p1c, p1d⟩ := p1t
  have p1l : w.heap.size + 1 < w9.heap.size := World.block_lt_of_cell? _ _ p1a
  obtain ⟨p2a, p2b, p2c, p2d⟩ := p2t
  have p2l : w.heap.size + 1 + 1 < w9.heap.size := World.block_lt_of_cell? _ _ p2a
  obtain ⟨pa, pb, pc, pd⟩ := pt
  have pl : w3.heap.size < w9.heap.size := World.block_lt_of_cell? _ _ pa
  obtain ⟨ra, rb, rc, rd⟩ := rt
  have rl : w6.heap.size < w9.heap.size := World.block_lt_of_cell? _ _ ra
  obtain ⟨ua, ub, uc, ud⟩ := ut
  have ul : w7.heap.size < w9.heap.size := World.block_lt_of_cell? _ _ ua
  obtain ⟨va, vb, vc, vd⟩ := vt
  have vl : w8.heap.size < w9.heap.size := World.block_lt_of_cell? _ _ va
  go_wp2_with fail
  refine (K8.out _).mono ?_
  rintro e w10 ⟨rfl, hb10⟩
  have hz10 := hb10.size
  simp only [World.size_setCell] at hz10
  have p0t := ((At2.mk p0a p0b p0c p0d).other (b' := w6.heap.size) (by omega) (.int .i64 R1) (.int .i64 R2)).below hb10 (by first | omega | (simp; omega))
  have p1t := ((At2.mk p1a p1b p1c p1d).other (b' := w6.heap.size) (by omega) (.int .i64 R1) (.int .i64 R2)).below hb10 (by first | omega | (simp; omega))
  have p2t := ((At2.mk p2a p2b p2c p2d).other (b' := w6.heap.size) (by omega) (.int .i64 R1) (.int .i64 R2)).below hb10 (by first | omega | (simp; omega))
  have pt := ((At2.mk pa pb pc pd).other (b' := w6.heap.size) (by omega) (.int .i64 R1) (.int .i64 R2)).below hb10 (by first | omega | (simp; omega))
  have rt := ((At2.mk ra rb rc rd).set (.int .i64 R1) (.int .i64 R2)).below hb10 (by first | omega | (simp; omega))
  have ut := ((At2.mk ua ub uc ud).other (b' := w6.heap.size) (by omega) (.int .i64 R1) (.int .i64 R2)).below hb10 (by first | omega | (simp; omega))
  have vt := ((At2.mk va vb vc vd).other (b' := w6.heap.size) (by omega) (.int .i64 R1) (.int .i64 R2)).below hb10 (by first | omega | (simp; omega))
  have HB10 : Below w.heap.size w w10 := ((HB9.setCell (p := ⟨w6.heap.size, 0, none⟩) (by first | omega | (simp; omega)) (.int .i64 R1)).setCell (p := ⟨w6.heap.size, 1, none⟩) (by first | omega | (simp; omega)) (.int .i64 R2)).trans (hb10.mono (by first | omega | (simp; omega)))
  have hq10 := HB10.size
  clear hb10 HB9 p0a p0b p0c p0d p0l p1a p1b p1c p1d p1l p2a p2b p2c p2d p2l pa pb pc pd pl ra rb rc rd rl ua ub uc ud ul va vb vc vd vl
  obtain ⟨p0a, p0b, p0c, p0d⟩ := p0t
  have p0l : w.heap.size < w10.heap.size := World.block_lt_of_cell? _ _ p0a
  obtain ⟨p1a, p1b, p1c, p1d⟩ := p1t
  have p1l : w.heap.size + 1 < w10.heap.size := World.block_lt_of_cell? _ _ p1a
  obtain ⟨p2a, p2b, p2c, p2d⟩ := p2t
  have p2l : w.heap.size + 1 + 1 < w10.heap.size := World.block_lt_of_cell? _ _ p2a
  obtain ⟨pa, pb, pc, pd⟩ := pt
  have pl : w3.heap.size < w10.heap.size := World.block_lt_of_cell? _ _ pa
  obtain ⟨ra, rb, rc, rd⟩ := rt
  have rl : w6.heap.size < w10.heap.size := World.block_lt_of_cell? _ _ ra
  obtain ⟨ua, ub, uc, ud⟩ := ut
  have ul : w7.heap.size < w10.heap.size := World.block_lt_of_cell? _ _ ua
  obtain ⟨va, vb, vc, vd⟩ := vt
  have vl : w8.heap.size < w10.heap.size := World.block_lt_of_cell? _ _ va
  go_wp2_with fail
  refine (K9.out _).mono ?_
  rintro e w11 ⟨rfl, hb11⟩
  have hz11 := hb11.size
  simp only [World.size_setCell] at hz11
  have p0t := ((At2.mk p0a p0b p0c p0d).other (b' := w7.heap.size) (by omega) (.int .i64 U1) (.int .i64 U2)).below hb11 (by first | omega | (simp; omega))
  have p1t := ((At2.mk p1a p1b p1c p1d).other (b' := w7.heap.size) (by omega) (.int .i64 U1) (.int .i64 U2)).below hb11 (by first | omega | (simp; omega))
  have p2t := ((At2.mk p2a p2b p2c p2d).other (b' := w7.heap.size) (by omega) (.int .i64 U1) (.int .i64 U2)).below hb11 (by first | omega | (simp; omega))
  have pt := ((At2.mk pa pb pc pd).other (b' := w7.heap.size) (by omega) (.int .i64 U1) (.int .i64 U2)).below hb11 (by first | omega | (simp; omega))
  have rt := ((At2.mk ra rb rc rd).other (b' := w7.heap.size) (by omega) (.int .i64 U1) (.int .i64 U2)).below hb11 (by first | omega | (simp; omega))
  have ut := ((At2.mk ua ub uc ud).set (.int .i64 U1) (.int .i64 U2)).below hb11 (by first | omega | (simp; omega))
  have vt := ((At2.mk va vb vc vd).other (b' := w7.heap.size) (by omega) (.int .i64 U1) (.int .i64 U2)).below hb11 (by first | omega | (simp; omega))
  have HB11 : Below w.heap.size w w11 := ((HB10.setCell (p := ⟨w7.heap.size, 0, none⟩) (by first | omega | (simp; omega)) (.int .i64 U1)).setCell (p := ⟨w7.heap.size, 1, none⟩) (by first | omega | (simp; omega)) (.int .i64 U2)).trans (hb11.mono (by first | omega | (simp; omega)))
  have hq11 := HB11.size
  clear hb11 HB10 p0a p0b p0c p0d p0l p1a p1b p1c p1d p1l p2a p2b p2c p2d p2l pa pb pc pd pl ra rb rc rd rl ua ub uc ud ul va vb vc vd vl
  obtain ⟨p0a, p0b, p0c, p0d⟩ := p0t
  have p0l : w.heap.size < w11.heap.size := World.block_lt_of_cell? _ _ p0a
  obtain ⟨p1a, p1b, p1c, p1d⟩ := p1t
  have p1l : w.heap.size + 1 < w11.heap.size := World.block_lt_of_cell? _ _ p1a
  obtain ⟨p2a, p2b, p2c, p2d⟩ := p2t
  have p2l : w.heap.size + 1 + 1 < w11.heap.size := World.block_lt_of_cell? _ _ p2a
  obtain ⟨pa, pb, pc, pd⟩ := pt
  have pl : w3.heap.size < w11.heap.size := World.block_lt_of_cell? _ _ pa
  obtain ⟨ra, rb, rc, rd⟩ := rt
  have rl : w6.heap.size < w11.heap.size := World.block_lt_of_cell? _ _ ra
  obtain ⟨ua, ub, uc, ud⟩ := ut
  have ul : w7.heap.size < w11.heap.size := World.block_lt_of_cell? _ _ ua
  obtain ⟨va, vb, vc, vd⟩ := vt
  have vl : w8.heap.size < w11.heap.size := World.block_lt_of_cell? _ _ va
  go_wp2_with fail
  refine (K10.out _).mono ?_
  rintro e w12 ⟨rfl, hb12⟩
  have hz12 := hb12.size
  simp only [World.size_alloc] at hz12
  have p0t := ((At2.mk p0a p0b p0c p0d).alloc (by omega) _).below hb12 (by simp; omega)
  have p1t := ((At2.mk p1a p1b p1c p1d).alloc (by omega) _).below hb12 (by simp; omega)
  have p2t := ((At2.mk p2a p2b p2c p2d).alloc (by omega) _).below hb12 (by simp; omega)
  have pt := ((At2.mk pa pb pc pd).alloc (by omega) _).below hb12 (by simp; omega)
  have rt := ((At2.mk ra rb rc rd).alloc (by omega) _).below hb12 (by simp; omega)
  have ut := ((At2.mk ua ub uc ud).alloc (by omega) _).below hb12 (by simp; omega)
  have vt := ((At2.mk va vb vc vd).alloc (by omega) _).below hb12 (by simp; omega)
  have st := (At2.new w11 (.int .i64 s1) (.int .i64 s2) 23).below hb12 (by simp)
  have HB12 : Below w.heap.size w w12 := (HB11.alloc hq11 _).trans (hb12.mono (by simp; omega))
  have hq12 := HB12.size
  clear hb12 HB11 p0a p0b p0c p0d p0l p1a p1b p1c p1d p1l p2a p2b p2c p2d p2l pa pb pc pd pl ra rb rc rd rl ua ub uc ud ul va vb vc vd vl
  obtain ⟨p0a, p0b, p0c, p0d⟩ := p0t
  have p0l : w.heap.size < w12.heap.size := World.block_lt_of_cell? _ _ p0a
  obtain ⟨p1a, p1b, p1c, p1d⟩ := p1t
  have p1l : w.heap.size + 1 < w12.heap.size := World.block_lt_of_cell? _ _ p1a
  obtain ⟨p2a, p2b, p2c, p2d⟩ := p2t
  have p2l : w.heap.size + 1 + 1 < w12.heap.size := World.block_lt_of_cell? _ _ p2a
  obtain ⟨pa, pb, pc, pd⟩ := pt
  have pl : w3.heap.size < w12.heap.size := World.block_lt_of_cell? _ _ pa
  obtain ⟨ra, rb, rc, rd⟩ := rt
  have rl : w6.heap.size < w12.heap.size := World.block_lt_of_cell? _ _ ra
  obtain ⟨ua, ub, uc, ud⟩ := ut
  have ul : w7.heap.size < w12.heap.size := World.block_lt_of_cell? _ _ ua
  obtain ⟨va, vb, vc, vd⟩ := vt
  have vl : w8.heap.size < w12.heap.size := World.block_lt_of_cell? _ _ va
  obtain ⟨sa, sb, sc, sd⟩ := st
  have sl : w11.heap.size < w12.heap.size := World.block_lt_of_cell? _ _ sa
  go_wp2
  go_ret
  exact ⟨rfl, (by repeat' (first | exact HB12 | refine Below.setCell ?_ (by first | omega | (simp; done) | (simp; omega)) _ | refine below_drewN ?_ _ | refine Below.alloc ?_ (by first | omega | (simp; done) | (simp; omega)) _))⟩

set_option maxRecDepth 100000 in
set_option maxHeartbeats 2000000 in
theorem products_nhk (a b c d g h p1 p2 r1 r2 u1 u2 v1 v2 he ie ke R1 R2 U1 U2 s1 s2 V1 V2 Ke : Int) (w : World) (hE : Env w) (hv : (vld a b && vld c d && vld g h) = true)
    (a0 : -9223372036854775808 ≤ a) (a1 : a ≤ 9223372036854775807) (b0 : -9223372036854775808 ≤ b) (b1 : b ≤ 9223372036854775807)
    (c0 : -9223372036854775808 ≤ c) (c1 : c ≤ 9223372036854775807) (d0 : -9223372036854775808 ≤ d) (d1 : d ≤ 9223372036854775807)
    (g0 : -9223372036854775808 ≤ g) (g1 : g ≤ 9223372036854775807) (h0 : -9223372036854775808 ≤ h) (h1 : h ≤ 9223372036854775807)
    (k1 : Gives 18 #[.agg #[.int .i64 a, .int .i64 b], .agg #[.int .i64 c, .int .i64 d]] (.tuple #[.agg #[.int .i64 p1, .int .i64 p2], .int .i64 0]))
    (k2 : Gives 18 #[.agg #[.int .i64 c, .int .i64 d], .agg #[.int .i64 a, .int .i64 b]] (.tuple #[.agg #[.int .i64 p1, .int .i64 p2], .int .i64 0]))
    (k3 : Gives 20 #[.agg #[.int .i64 p1, .int .i64 p2], .agg #[.int .i64 c, .int .i64 d]] (.tuple #[.agg #[.int .i64 a, .int .i64 b], .int .i64 0]))
    (k4 : Gives 18 #[.agg #[.int .i64 c, .int .i64 d], .agg #[.int .i64 g, .int .i64 h]] (.tuple #[.agg #[.int .i64 r1, .int .i64 r2], .int .i64 he]))
    (k5 : Gives 18 #[.agg #[.int .i64 p1, .int .i64 p2], .agg #[.int .i64 g, .int .i64 h]] (.tuple #[.agg #[.int .i64 u1, .int .i64 u2], .int .i64 ie]))
    (k6 : Gives 18 #[.agg #[.int .i64 a, .int .i64 b], .agg #[.int .i64 r1, .int .i64 r2]] (.tuple #[.agg #[.int .i64 v1, .int .i64 v2], .int .i64 ke]))
    (k7 : Gives 14 #[.agg #[.int .i64 c, .int .i64 d], .agg #[.int .i64 g, .int .i64 h]] (.tuple #[.agg #[.int .i64 R1, .int .i64 R2], .int .i64 0]))
    (k8 : Gives 18 #[.agg #[.int .i64 a, .int .i64 b], .agg #[.int .i64 R1, .int .i64 R2]] (.tuple #[.agg #[.int .i64 U1, .int .i64 U2], .int .i64 0]))
    (k9 : Gives 18 #[.agg #[.int .i64 a, .int .i64 b], .agg #[.int .i64 g, .int .i64 h]] (.tuple #[.agg #[.int .i64 s1, .int .i64 s2], .int .i64 0]))
    (k10 : Gives 14 #[.agg #[.int .i64 p1, .int .i64 p2], .agg #[.int .i64 s1, .int .i64 s2]] (.tuple #[.agg #[.int .i64 V1, .int .i64 V2], .int .i64 Ke]))
    (hc : ¬ c = 0)  (hb1 : ¬ he = 0) (hb2 : ¬ Ke = 0) :
    Calls Tryd.prog 6 #[.agg #[.int .i64 a, .int .i64 b], .agg #[.int .i64 c, .int .i64 d], .agg #[.int .i64 g, .int .i64 h]] w fun e w' =>
      e = .returned (.bool true) ∧ Below w.heap.size w w' := by
  have HE := Lib.hid hE
  have HV := Lib.hid hv
  have K1 := Lib.hid k1
  have K2 := Lib.hid k2
  have K3 := Lib.hid k3
  have K4 := Lib.hid k4
  have K5 := Lib.hid k5
  have K6 := Lib.hid k6
  have K7 := Lib.hid k7
  have K8 := Lib.hid k8
  have K9 := Lib.hid k9
  have K10 := Lib.hid k10
  clear hE hv k1 k2 k3 k4 k5 k6 k7 k8 k9 k10
  have f0 : (c == 0) = false := by simp; exact hc
  have f00 : (c != 0) = true := by simp; exact hc
  have f1 : (he != 0) = true := by simp; exact hb1
  have f11 : (he == 0) = false := by simp; exact hb1
  have f2 : (Ke != 0) = true := by simp; exact hb2
  have f22 : (Ke == 0) = false := by simp; exact hb2
  go_enter Tryd.func6, Tryd.ntmps6
  go_wp2_with fail
  refine (head_any _ (((HE.out.below ((Below.refl _ _).alloc (Nat.le_refl _) _)).below ((Below.refl _ _).alloc (Nat.le_refl _) _)).below ((Below.refl _ _).alloc (Nat.le_refl _) _))).mono ?_
  rintro e w1 ⟨rfl, hb1⟩
  have hz1 := hb1.size
  simp only [World.size_alloc] at hz1
  have T0x : At2 w1 (w.heap.size) (.int .i64 a) (.int .i64 b) := by
    have := (((At2.new w (.int .i64 a) (.int .i64 b) 23).alloc (by first | (simp; done) | (simp; omega)) (.cells #[.int .i64 c, .int .i64 d] 23)).alloc (by first | (simp; done) | (simp; omega)) (.cells #[.int .i64 g, .int .i64 h] 23)).below hb1 (by first | (simp; done) | (simp; omega))
    simpa using this
  have T1x : At2 w1 (w.heap.size + 1) (.int .i64 c) (.int .i64 d) := by
    have := ((At2.new (w.alloc (.cells #[.int .i64 a, .int .i64 b] 23)) (.int .i64 c) (.int .i64 d) 23).alloc (by first | (simp; done) | (simp; omega)) (.cells #[.int .i64 g, .int .i64 h] 23)).below hb1 (by first | (simp; done) | (simp; omega))
    simpa using this
  have T2x : At2 w1 (w.heap.size + 1 + 1) (.int .i64 g) (.int .i64 h) := by
    have := (At2.new ((w.alloc (.cells #[.int .i64 a, .int .i64 b] 23)).alloc (.cells #[.int .i64 c, .int .i64 d] 23)) (.int .i64 g) (.int .i64 h) 23).below hb1 (by first | (simp; done) | (simp; omega))
    simpa using this
  have HB1 : Below w.heap.size w w1 := ((((Below.refl _ _).alloc (by first | (exact Nat.le_refl _) | (simp; done) | (simp; omega)) _).alloc (by first | (exact Nat.le_refl _) | (simp; done) | (simp; omega)) _).alloc (by first | (exact Nat.le_refl _) | (simp; done) | (simp; omega)) _).trans (hb1.mono (by simp; omega))
  have hq1 := HB1.size
  clear hb1
  obtain ⟨p0a, p0b, p0c, p0d⟩ := T0x
  have p0l : w.heap.size < w1.heap.size := World.block_lt_of_cell? _ _ p0a
  obtain ⟨p1a, p1b, p1c, p1d⟩ := T1x
  have p1l : w.heap.size + 1 < w1.heap.size := World.block_lt_of_cell? _ _ p1a
  obtain ⟨p2a, p2b, p2c, p2d⟩ := T2x
  have p2l : w.heap.size + 1 + 1 < w1.heap.size := World.block_lt_of_cell? _ _ p2a
  go_wp2_with fail
  refine (numbers3 a b c d g h true _ HV.out a0 a1 b0 b1 c0 c1 d0 d1 g0 g1 h0 h1 _).mono ?_
  rintro e w2 ⟨rfl, hb2⟩
  have hz2 := hb2.size
  have p0t := (At2.mk p0a p0b p0c p0d).below hb2 (by omega)
  have p1t := (At2.mk p1a p1b p1c p1d).below hb2 (by omega)
  have p2t := (At2.mk p2a p2b p2c p2d).below hb2 (by omega)
  have HB2 : Below w.heap.size w w2 := HB1.trans (hb2.mono hq1)
  have hq2 := HB2.size
  clear hb2 HB1 p0a p0b p0c p0d p0l p1a p1b p1c p1d p1l p2a p2b p2c p2d p2l
  obtain ⟨p0a, p0b, p0c, p0d⟩ := p0t
  have p0l : w.heap.size < w2.heap.size := World.block_lt_of_cell? _ _ p0a
  obtain ⟨p1a, p1b, p1c, p1d⟩ := p1t
  have p1l : w.heap.size + 1 < w2.heap.size := World.block_lt_of_cell? _ _ p1a
  obtain ⟨p2a, p2b, p2c, p2d⟩ := p2t
  have p2l : w.heap.size + 1 + 1 < w2.heap.size := World.block_lt_of_cell? _ _ p2a
  go_wp2_with fail
  refine (K1.out _).mono ?_
  rintro e w3 ⟨rfl, hb3⟩
  have hz3 := hb3.size
  have p0t := (At2.mk p0a p0b p0c p0d).below hb3 (by omega)
  have p1t := (At2.mk p1a p1b p1c p1d).below hb3 (by omega)
  have p2t := (At2.mk p2a p2b p2c p2d).below hb3 (by omega)
  have HB3 : Below w.heap.size w w3 := HB2.trans (hb3.mono hq2)
  have hq3 := HB3.size
  clear hb3 HB2 p0a p0b p0c p0d p0l p1a p1b p1c p1d p1l p2a p2b p2c p2d p2l
  obtain ⟨p0a, p0b, p0c, p0d⟩ := p0t
  have p0l : w.heap.size < w3.heap.size := World.block_lt_of_cell? _ _ p0a
  obtain ⟨p1a, p1b, p1c, p1d⟩ := p1t
  have p1l : w.heap.size + 1 < w3.heap.size := World.block_lt_of_cell? _ _ p1a
  obtain ⟨p2a, p2b, p2c, p2d⟩ := p2t
  have p2l : w.heap.size + 1 + 1 < w3.heap.size := World.block_lt_of_cell? _ _ p2a
  go_wp2_with fail
  refine (K2.out _).mono ?_
  rintro e w4 ⟨rfl, hb4⟩
  have hz4 := hb4.size
  simp only [World.size_alloc] at hz4
  have p0t := ((At2.mk p0a p0b p0c p0d).alloc (by omega) _).below hb4 (by simp; omega)
  have p1t := ((At2.mk p1a p1b p1c p1d).alloc (by omega) _).below hb4 (by simp; omega)
  have p2t := ((At2.mk p2a p2b p2c p2d).alloc (by omega) _).below hb4 (by simp; omega)
  have pt := (At2.new w3 (.int .i64 p1) (.int .i64 p2) 23).below hb4 (by simp)
  have HB4 : Below w.heap.size w w4 := (HB3.alloc hq3 _).trans (hb4.mono (by simp; omega))
  have hq4 := HB4.size
  clear hb4 HB3 p0a p0b p0c p0d p0l p1a p1b p1c p1d p1l p2a p2b p2c p2d p2l
  obtain ⟨p0a, p0b, p0c, p0d⟩ := p0t
  have p0l : w.heap.size < w4.heap.size := World.block_lt_of_cell? _ _ p0a
  obtain ⟨p1a, p1b, p1c, p1d⟩ := p1t
  have p1l : w.heap.size + 1 < w4.heap.size := World.block_lt_of_cell? _ _ p1a
  obtain ⟨p2a, p2b, p2c, p2d⟩ := p2t
  have p2l : w.heap.size + 1 + 1 < w4.heap.size := World.block_lt_of_cell? _ _ p2a
  obtain ⟨pa, pb, pc, pd⟩ := pt
  have pl : w3.heap.size < w4.heap.size := World.block_lt_of_cell? _ _ pa
  go_wp2_with fail
  refine (K3.out _).mono ?_
  rintro e w5 ⟨rfl, hb5⟩
  have hz5 := hb5.size
  simp only [World.size_alloc] at hz5
  have p0t := ((At2.mk p0a p0b p0c p0d).alloc (by omega) _).below hb5 (by simp; omega)
  have p1t := ((At2.mk p1a p1b p1c p1d).alloc (by omega) _).below hb5 (by simp; omega)
  have p2t := ((At2.mk p2a p2b p2c p2d).alloc (by omega) _).below hb5 (by simp; omega)
  have pt := ((At2.mk pa pb pc pd).alloc (by omega) _).below hb5 (by simp; omega)
  have qt := (At2.new w4 (.int .i64 p1) (.int .i64 p2) 23).below hb5 (by simp)
  have HB5 : Below w.heap.size w w5 := (HB4.alloc hq4 _).trans (hb5.mono (by simp; omega))
  have hq5 := HB5.size
  clear hb5 HB4 p0a p0b p0c p0d p0l p1a p1b p1c p1d p1l p2a p2b p2c p2d p2l pa pb pc pd pl
  obtain ⟨p0a, p0b, p0c, p0d⟩ := p0t
  have p0l : w.heap.size < w5.heap.size := World.block_lt_of_cell? _ _ p0a
  obtain ⟨p1a, p1b, p1c, p1d⟩ := p1t
  have p1l : w.heap.size + 1 < w5.heap.size := World.block_lt_of_cell? _ _ p1a
  obtain ⟨p2a, p2b, p2c, p2d⟩ := p2t
  have p2l : w.heap.size + 1 + 1 < w5.heap.size := World.block_lt_of_cell? _ _ p2a
  obtain ⟨pa, pb, pc, pd⟩ := pt
  have pl : w3.heap.size < w5.heap.size := World.block_lt_of_cell? _ _ pa
  obtain ⟨qa, qb, qc, qd⟩ := qt
  have ql : w4.heap.size < w5.heap.size := World.block_lt_of_cell? _ _ qa
  go_wp2_with fail
  refine (K4.out _).mono ?_
  rintro e w6 ⟨rfl, hb6⟩
  have hz6 := hb6.size
  simp only [World.size_alloc] at hz6
  have p0t := ((At2.mk p0a p0b p0c p0d).alloc (by omega) _).below hb6 (by simp; omega)
  have p1t := ((At2.mk p1a p1b p1c p1d).alloc (by omega) _).below hb6 (by simp; omega)
  have p2t := ((At2.mk p2a p2b p2c p2d).alloc (by omega) _).below hb6 (by simp; omega)
  have pt := ((At2.mk pa pb pc pd).alloc (by omega) _).below hb6 (by simp; omega)
  have kt := (At2.new w5 (.int .i64 a) (.int .i64 b) 23).below hb6 (by simp)
  have HB6 : Below w.heap.size w w6 := (HB5.alloc hq5 _).trans (hb6.mono (by simp; omega))
  have hq6 := HB6.size
  clear hb6 HB5 p0a p0b p0c p0d p0l p1a p1b p1c p1d p1l p2a p2b p2c p2d p2l pa pb pc pd pl qa qb qc qd ql
  obtain ⟨p0a, p0b, p0c, p0d⟩ := p0t
  have p0l : w.heap.size < w6.heap.size := World.block_lt_of_cell? _ _ p0a
  obtain ⟨p1a, p1b, p1c, p1d⟩ := p1t
  have p1l : w.heap.size + 1 < w6.heap.size := World.block_lt_of_cell? _ _ p1a
  obtain ⟨p2a, p2b, p2c, p2d⟩ := p2t
  have p2l : w.heap.size + 1 + 1 < w6.heap.size := World.block_lt_of_cell? _ _ p2a
  obtain ⟨pa, pb, pc, pd⟩ := pt
  have pl : w3.heap.size < w6.heap.size := World.block_lt_of_cell? _ _ pa
  obtain ⟨ka, kb, kc, kd⟩ := kt
  have kl : w5.heap.size < w6.heap.size := World.block_lt_of_cell? _ _ ka
  go_wp2_with fail
  refine (K5.out _).mono ?_
  rintro e w7 ⟨rfl, hb7⟩
  have hz7 := hb7.size
  simp only [World.size_alloc] at hz7
  have p0t := ((At2.mk p0a p0b p0c p0d).alloc (by omega) _).below hb7 (by simp; omega)
  have p1t := ((At2.mk p1a p1b p1c p1d).alloc (by omega) _).below hb7 (by simp; omega)
  have p2t := ((At2.mk p2a p2b p2c p2d).alloc (by omega) _).below hb7 (by simp; omega)
  have pt := ((At2.mk pa pb pc pd).alloc (by omega) _).below hb7 (by simp; omega)
  have rt := (At2.new w6 (.int .i64 r1) (.int .i64 r2) 23).below hb7 (by simp)
  have HB7 : Below w.heap.size w w7 := (HB6.alloc hq6 _).trans (hb7.mono (by simp; omega))
  have hq7 := HB7.size
  clear hb7 HB6 p0a p0b p0c p0d p0l p1a p1b p1c p1d p1l p2a p2b p2c p2d p2l pa pb pc pd pl ka kb kc kd kl
  obtain ⟨p0a, p0b, p0c, p0d⟩ := p0t
  have p0l : w.heap.size < w7.heap.size := World.block_lt_of_cell? _ _ p0a
  obtain ⟨p1a, p1b, p1c, p1d⟩ := p1t
  have p1l : w.heap.size + 1 < w7.heap.size := World.block_lt_of_cell? _ _ p1a
  obtain ⟨p2a, p2b, p2c, p2d⟩ := p2t
  have p2l : w.heap.size + 1 + 1 < w7.heap.size := World.block_lt_of_cell? _ _ p2a
  obtain ⟨pa, pb, pc, pd⟩ := pt
  have pl : w3.heap.size < w7.heap.size := World.block_lt_of_cell? _ _ pa
  obtain ⟨ra, rb, rc, rd⟩ := rt
  have rl : w6.heap.size < w7.heap.size := World.block_lt_of_cell? _ _ ra
  go_wp2_with fail
  refine (K6.out _).mono ?_
  rintro e w8 ⟨rfl, hb8⟩
  have hz8 := hb8.size
  simp only [World.size_alloc] at hz8
  have p0t := ((At2.mk p0a p0b p0c p0d).alloc (by omega) _).below hb8 (by simp; omega)
  have p1t := ((At2.mk p1a p1b p1c p1d).alloc (by omega) _).below hb8 (by simp; omega)
  have p2t := ((At2.mk p2a p2b p2c p2d).alloc (by omega) _).below hb8 (by simp; omega)
  have pt := ((At2.mk pa pb pc pd).alloc (by omega) _).below hb8 (by simp; omega)
  have rt := ((At2.mk ra rb rc rd).alloc (by omega) _).below hb8 (by simp; omega)
  have ut := (At2.new w7 (.int .i64 u1) (.int .i64 u2) 23).below hb8 (by simp)
  have HB8 : Below w.heap.size w w8 := (HB7.alloc hq7 _).trans (hb8.mono (by simp; omega))
  have hq8 := HB8.size
  clear hb8 HB7 p0a p0b p0c p0d p0l p1a p1b p1c p1d p1l p2a p2b p2c p2d p2l pa pb pc pd pl ra rb rc rd rl
  obtain ⟨p0a, p0b, p0c, p0d⟩ := p0t
  have p0l : w.heap.size < w8.heap.size := World.block_lt_of_cell? _ _ p0a
  obtain ⟨p1a, p1b, p1c, p1d⟩ := p1t
  have p1l : w.heap.size + 1 < w8.heap.size := World.block_lt_of_cell? _ _ p1a
  obtain ⟨p2a, p2b, p2c, p2d⟩ := p2t
  have p2l : w.heap.size + 1 + 1 < w8.heap.size := World.block_lt_of_cell? _ _ p2a
  obtain ⟨pa, pb, pc, pd⟩ := pt
  have pl : w3.heap.size < w8.heap.size := World.block_lt_of_cell? _ _ pa
  obtain ⟨ra, rb, rc, rd⟩ := rt
  have rl : w6.heap.size < w8.heap.size := World.block_lt_of_cell? _ _ ra
  obtain ⟨ua, ub, uc, ud⟩ := ut
  have ul : w7.heap.size < w8.heap.size := World.block_lt_of_cell? _ _ ua
  go_wp2_with fail
  refine (K7.out _).mono ?_
  rintro e w9 ⟨rfl, hb9⟩
  have hz9 := hb9.size
  simp only [World.size_alloc] at hz9
  have p0t := ((At2.mk p0a p0b p0c p0d).alloc (by omega) _).below hb9 (by simp; omega)
  have p1t := ((At2.mk p1a p1b p1c p1d).alloc (by omega) _).below hb9 (by simp; omega)
  have p2t := ((At2.mk p2a p2b p2c p2d).alloc (by omega) _).below hb9 (by simp; omega)
  have pt := ((At2.mk pa pb pc pd).alloc (by omega) _).below hb9 (by simp; omega)
  have rt := ((At2.mk ra rb rc rd).alloc (by omega) _).below hb9 (by simp; omega)
  have ut := ((At2.mk ua ub uc ud).alloc (by omega) _).below hb9 (by simp; omega)
  have vt := (At2.new w8 (.int .i64 v1) (.int .i64 v2) 23).below hb9 (by simp)
  have HB9 : Below w.heap.size w w9 := (HB8.alloc hq8 _).trans (hb9.mono (by simp; omega))
  have hq9 := HB9.size
  clear hb9 HB8 p0a p0b p0c p0d p0l p1a p1b p1c p1d p1l p2a p2b p2c p2d p2l pa pb pc pd pl ra rb rc rd rl ua ub uc ud ul
  obtain ⟨p0a, p0b, p0c, p0d⟩ := p0t
  have p0l : w.heap.size < w9.heap.size := World.block_lt_of_cell? _ _ p0a
  obtain ⟨p1a, p1b, p1c, p1d⟩ := p1t
  have p1l : w.heap.size + 1 < w9.heap.size := World.block_lt_of_cell? _ _ p1a
  obtain ⟨p2a, p2b, p2c, p2d⟩ := p2t
  have p2l : w.heap.size + 1 + 1 < w9.heap.size := World.block_lt_of_cell? _ _ p2a
  obtain ⟨pa, pb, pc, pd⟩ := pt
  have pl : w3.heap.size < w9.heap.size := World.block_lt_of_cell? _ _ pa
  obtain ⟨ra, rb, rc, rd⟩ := rt
  have rl : w6.heap.size < w9.heap.size := World.block_lt_of_cell? _ _ ra
  obtain ⟨ua, ub, uc, ud⟩ := ut
  have ul : w7.heap.size < w9.heap.size := World.block_lt_of_cell? _ _ ua
  obtain ⟨va, vb, vc, vd⟩ := vt
  have vl : w8.heap.size < w9.heap.size := World.block_lt_of_cell? _ _ va
  go_wp2_with fail
  refine (K8.out _).mono ?_
  rintro e w10 ⟨rfl, hb10⟩
  have hz10 := hb10.size
  simp only [World.size_setCell] at hz10
  have p0t := ((At2.mk p0a p0b p0c p0d).other (b' := w6.heap.size) (by omega) (.int .i64 R1) (.int .i64 R2)).below hb10 (by first | omega | (simp; omega))
  have p1t := ((At2.mk p1a p1b p1c p1d).other (b' := w6.heap.size) (by omega) (.int .i64 R1) (.int .i64 R2)).below hb10 (by first | omega | (simp; omega))
  have p2t := ((At2.mk p2a p2b p2c p2d).other (b' := w6.heap.size) (by omega) (.int .i64 R1) (.int .i64 R2)).below hb10 (by first | omega | (simp; omega))
  have pt := ((At2.mk pa pb pc pd).other (b' := w6.heap.size) (by omega) (.int .i64 R1) (.int .i64 R2)).below hb10 (by first | omega | (simp; omega))
  have rt := ((At2.mk ra rb rc rd).set (.int .i64 R1) (.int .i64 R2)).below hb10 (by first | omega | (simp; omega))
  have ut := ((At2.mk ua ub uc ud).other (b' := w6.heap.size) (by omega) (.int .i64 R1) (.int .i64 R2)).below hb10 (by first | omega | (simp; omega))
  have vt := ((At2.mk va vb vc vd).other (b' := w6.heap.size) (by omega) (.int .i64 R1) (.int .i64 R2)).below hb10 (by first | omega | (simp; omega))
  have HB10 : Below w.heap.size w w10 := ((HB9.setCell (p := ⟨w6.heap.size, 0, none⟩) (by first | omega | (simp; omega)) (.int .i64 R1)).setCell (p := ⟨w6.heap.size, 1, none⟩) (by first | omega | (simp; omega)) (.int .i64 R2)).trans (hb10.mono (by first | omega | (simp; omega)))
  have hq10 := HB10.size
  clear hb10 HB9 p0a p0b p0c p0d p0l p1a p1b p1c p1d p1l p2a p2b p2c p2d p2l pa pb pc pd pl ra rb rc rd rl ua ub uc ud ul va vb vc vd vl
  obtain ⟨p0a, p0b, p0c, p0d⟩ := p0t
  have p0l : w.heap.size < w10.heap.size := World.block_lt_of_cell? _ _ p0a
  obtain ⟨p1a, p1b, p1c, p1d⟩ := p1t
  have p1l : w.heap.size + 1 < w10.heap.size := World.block_lt_of_cell? _ _ p1a
  obtain ⟨p2a, p2b, p2c, p2d⟩ := p2t
  have p2l : w.heap.size + 1 + 1 < w10.heap.size := World.block_lt_of_cell? _ _ p2a
  obtain ⟨pa, pb, pc, pd⟩ := pt
  have pl : w3.heap.size < w10.heap.size := World.block_lt_of_cell? _ _ pa
  obtain ⟨ra, rb, rc, rd⟩ := rt
  have rl : w6.heap.size < w10.heap.size := World.block_lt_of_cell? _ _ ra
  obtain ⟨ua, ub, uc, ud⟩ := ut
  have ul : w7.heap.size < w10.heap.size := World.block_lt_of_cell? _ _ ua
  obtain ⟨va, vb, vc, vd⟩ := vt
  have vl : w8.heap.size < w10.heap.size := World.block_lt_of_cell? _ _ va
  go_wp2_with fail
  refine (K9.out _).mono ?_
  rintro e w11 ⟨rfl, hb11⟩
  have hz11 := hb11.size
  simp only [World.size_setCell] at hz11
  have p0t := ((At2.mk p0a p0b p0c p0d).other (b' := w7.heap.size) (by omega) (.int .i64 U1) (.int .i64 U2)).below hb11 (by first | omega | (simp; omega))
  have p1t := ((At2.mk p1a p1b p1c p1d).other (b' := w7.heap.size) (by omega) (.int .i64 U1) (.int .i64 U2)).below hb11 (by first | omega | (simp; omega))
  have p2t := ((At2.mk p2a p2b p2c p2d).other (b' := w7.heap.size) (by omega) (.int .i64 U1) (.int .i64 U2)).below hb11 (by first | omega | (simp; omega))
  have pt := ((At2.mk pa pb pc pd).other (b' := w7.heap.size) (by omega) (.int .i64 U1) (.int .i64 U2)).below hb11 (by first | omega | (simp; omega))
  have rt := ((At2.mk ra rb rc rd).other (b' := w7.heap.size) (by omega) (.int .i64 U1) (.int .i64 U2)).below hb11 (by first | omega | (simp; omega))
  have ut := ((At2.mk ua ub uc ud).set (.int .i64 U1) (.int .i64 U2)).below hb11 (by first | omega | (simp; omega))
  have vt := ((At2.mk va vb vc vd).other (b' := w7.heap.size) (by omega) (.int .i64 U1) (.int .i64 U2)).below hb11 (by first | omega | (simp; omega))
  have HB11 : Below w.heap.size w w11 := ((HB10.setCell (p := ⟨w7.heap.size, 0, none⟩) (by first | omega | (simp; omega)) (.int .i64 U1)).setCell (p := ⟨w7.heap.size, 1, none⟩) (by first | omega | (simp; omega)) (.int .i64 U2)).trans (hb11.mono (by first | omega | (simp; omega)))
  have hq11 := HB11.size
  clear hb11 HB10 p0a p0b p0c p0d p0l p1a p1b p1c p1d p1l p2a p2b p2c p2d p2l pa pb pc pd pl ra rb rc rd rl ua ub uc ud ul va vb vc vd vl
  obtain ⟨p0a, p0b, p0c, p0d⟩ := p0t
  have p0l : w.heap.size < w11.heap.size := World.block_lt_of_cell? _ _ p0a
  obtain ⟨p1a, p1b, p1c, p1d⟩ := p1t
  have p1l : w.heap.size + 1 < w11.heap.size := World.block_lt_of_cell? _ _ p1a
  obtain ⟨p2a, p2b, p2c, p2d⟩ := p2t
  have p2l : w.heap.size + 1 + 1 < w11.heap.size := World.block_lt_of_cell? _ _ p2a
  obtain ⟨pa, pb, pc, pd⟩ := pt
  have pl : w3.heap.size < w11.heap.size := World.block_lt_of_cell? _ _ pa
  obtain ⟨ra, rb, rc, rd⟩ := rt
  have rl : w6.heap.size < w11.heap.size := World.block_lt_of_cell? _ _ ra
  obtain ⟨ua, ub, uc, ud⟩ := ut
  have ul : w7.heap.size < w11.heap.size := World.block_lt_of_cell? _ _ ua
  obtain ⟨va, vb, vc, vd⟩ := vt
  have vl : w8.heap.size < w11.heap.size := World.block_lt_of_cell? _ _ va
  go_wp2_with fail
  refine (K10.out _).mono ?_
  rintro e w12 ⟨rfl, hb12⟩
  have hz12 := hb12.size
  simp only [World.size_alloc] at hz12
  have p0t := ((At2.mk p0a p0b p0c p0d).alloc (by omega) _).below hb12 (by simp; omega)
  have p1t := ((At2.mk p1a p1b p1c p1d).alloc (by omega) _).below hb12 (by simp; omega)
  have p2t := ((At2.mk p2a p2b p2c p2d).alloc (by omega) _).below hb12 (by simp; omega)
  have pt := ((At2.mk pa pb pc pd).alloc (by omega) _).below hb12 (by simp; omega)
  have rt := ((At2.mk ra rb rc rd).alloc (by omega) _).below hb12 (by simp; omega)
  have ut := ((At2.mk ua ub uc ud).alloc (by omega) _).below hb12 (by simp; omega)
  have vt := ((At2.mk va vb vc vd).alloc (by omega) _).below hb12 (by simp; omega)
  have st := (At2.new w11 (.int .i64 s1) (.int .i64 s2) 23).below hb12 (by simp)
  have HB12 : Below w.heap.size w w12 := (HB11.alloc hq11 _).trans (hb12.mono (by simp; omega))
  have hq12 := HB12.size
  clear hb12 HB11 p0a p0b p0c p0d p0l p1a p1b p1c p1d p1l p2a p2b p2c p2d p2l pa pb pc pd pl ra rb rc rd rl ua ub uc ud ul va vb vc vd vl
  obtain ⟨p0a, p0b, p0c, p0d⟩ := p0t
  have p0l : w.heap.size < w12.heap.size := World.block_lt_of_cell? _ _ p0a
  obtain ⟨p1a, p1b, p1c, p1d⟩ := p1t
  have p1l : w.heap.size + 1 < w12.heap.size := World.block_lt_of_cell? _ _ p1a
  obtain ⟨p2a, p2b, p2c, p2d⟩ := p2t
  have p2l : w.heap.size + 1 + 1 < w12.heap.size := World.block_lt_of_cell? _ _ p2a
  obtain ⟨pa, pb, pc, pd⟩ := pt
  have pl : w3.heap.size < w12.heap.size := World.block_lt_of_cell? _ _ pa
  obtain ⟨ra, rb, rc, rd⟩ := rt
  have rl : w6.heap.size < w12.heap.size := World.block_lt_of_cell? _ _ ra
  obtain ⟨ua, ub, uc, ud⟩ := ut
  have ul : w7.heap.size < w12.heap.size := World.block_lt_of_cell? _ _ ua
  obtain ⟨va, vb, vc, vd⟩ := vt
  have vl : w8.heap.size < w12.heap.size := World.block_lt_of_cell? _ _ va
  obtain ⟨sa, sb, sc, sd⟩ := st
  have sl : w11.heap.size < w12.heap.size := World.block_lt_of_cell? _ _ sa
  go_wp2
  go_ret
  exact ⟨rfl, (by repeat' (first | exact HB12 | refine Below.setCell ?_ (by first | omega | (simp; done) | (simp; omega)) _ | refine below_drewN ?_ _ | refine Below.alloc ?_ (by first | omega | (simp; done) | (simp; omega)) _))⟩

set_option maxRecDepth 100000 in
set_option maxHeartbeats 2000000 in
theorem products_nho (a b c d g h p1 p2 r1 r2 u1 u2 v1 v2 he ie ke R1 R2 U1 U2 s1 s2 : Int) (w : World) (hE : Env w) (hv : (vld a b && vld c d && vld g h) = true)
    (a0 : -9223372036854775808 ≤ a) (a1 : a ≤ 9223372036854775807) (b0 : -9223372036854775808 ≤ b) (b1 : b ≤ 9223372036854775807)
    (c0 : -9223372036854775808 ≤ c) (c1 : c ≤ 9223372036854775807) (d0 : -9223372036854775808 ≤ d) (d1 : d ≤ 9223372036854775807)
    (g0 : -9223372036854775808 ≤ g) (g1 : g ≤ 9223372036854775807) (h0 : -9223372036854775808 ≤ h) (h1 : h ≤ 9223372036854775807)
    (k1 : Gives 18 #[.agg #[.int .i64 a, .int .i64 b], .agg #[.int .i64 c, .int .i64 d]] (.tuple #[.agg #[.int .i64 p1, .int .i64 p2], .int .i64 0]))
    (k2 : Gives 18 #[.agg #[.int .i64 c, .int .i64 d], .agg #[.int .i64 a, .int .i64 b]] (.tuple #[.agg #[.int .i64 p1, .int .i64 p2], .int .i64 0]))
    (k3 : Gives 20 #[.agg #[.int .i64 p1, .int .i64 p2], .agg #[.int .i64 c, .int .i64 d]] (.tuple #[.agg #[.int .i64 a, .int .i64 b], .int .i64 0]))
    (k4 : Gives 18 #[.agg #[.int .i64 c, .int .i64 d], .agg #[.int .i64 g, .int .i64 h]] (.tuple #[.agg #[.int .i64 r1, .int .i64 r2], .int .i64 he]))
    (k5 : Gives 18 #[.agg #[.int .i64 p1, .int .i64 p2], .agg #[.int .i64 g, .int .i64 h]] (.tuple #[.agg #[.int .i64 u1, .int .i64 u2], .int .i64 ie]))
    (k6 : Gives 18 #[.agg #[.int .i64 a, .int .i64 b], .agg #[.int .i64 r1, .int .i64 r2]] (.tuple #[.agg #[.int .i64 v1, .int .i64 v2], .int .i64 ke]))
    (k7 : Gives 14 #[.agg #[.int .i64 c, .int .i64 d], .agg #[.int .i64 g, .int .i64 h]] (.tuple #[.agg #[.int .i64 R1, .int .i64 R2], .int .i64 0]))
    (k8 : Gives 18 #[.agg #[.int .i64 a, .int .i64 b], .agg #[.int .i64 R1, .int .i64 R2]] (.tuple #[.agg #[.int .i64 U1, .int .i64 U2], .int .i64 0]))
    (k9 : Gives 18 #[.agg #[.int .i64 a, .int .i64 b], .agg #[.int .i64 g, .int .i64 h]] (.tuple #[.agg #[.int .i64 s1, .int .i64 s2], .int .i64 0]))
    (k10 : Gives 14 #[.agg #[.int .i64 p1, .int .i64 p2], .agg #[.int .i64 s1, .int .i64 s2]] (.tuple #[.agg #[.int .i64 U1, .int .i64 U2], .int .i64 0]))
    (hc : ¬ c = 0)  (hb1 : ¬ he = 0) :
    Calls Tryd.prog 6 #[.agg #[.int .i64 a, .int .i64 b], .agg #[.int .i64 c, .int .i64 d], .agg #[.int .i64 g, .int .i64 h]] w fun e w' =>
      e = .returned (.bool true) ∧ Below w.heap.size w w' := by
  have HE := Lib.hid hE
  have HV := Lib.hid hv
  have K1 := Lib.hid k1
  have K2 := Lib.hid k2
  have K3 := Lib.hid k3
  have K4 := Lib.hid k4
  have K5 := Lib.hid k5
  have K6 := Lib.hid k6
  have K7 := Lib.hid k7
  have K8 := Lib.hid k8
  have K9 := Lib.hid k9
  have K10 := Lib.hid k10
  clear hE hv k1 k2 k3 k4 k5 k6 k7 k8 k9 k10
  have f0 : (c == 0) = false := by simp; exact hc
  have f00 : (c != 0) = true := by simp; exact hc
  have f1 : (he != 0) = true := by simp; exact hb1
  have f11 : (he == 0) = false := by simp; exact hb1
  go_enter Tryd.func6, Tryd.ntmps6
  go_wp2_with fail
  refine (head_any _ (((HE.out.below ((Below.refl _ _).alloc (Nat.le_refl _) _)).below ((Below.refl _ _).alloc (Nat.le_refl _) _)).below ((Below.refl _ _).alloc (Nat.le_refl _) _))).mono ?_
  rintro e w1 ⟨rfl, hb1⟩
  have hz1 := hb1.size
  simp only [World.size_alloc] at hz1
  have T0x : At2 w1 (w.heap.size) (.int .i64 a) (.int .i64 b) := by
    have := (((At2.new w (.int .i64 a) (.int .i64 b) 23).alloc (by first | (simp; done) | (simp; omega)) (.cells #[.int .i64 c, .int .i64 d] 23)).alloc (by first | (simp; done) | (simp; omega)) (.cells #[.int .i64 g, .int .i64 h] 23)).below hb1 (by first | (simp; done) | (simp; omega))
    simpa using this
  have T1x : At2 w1 (w.heap.size + 1) (.int .i64 c) (.int .i64 d) := by
    have := ((At2.new (w.alloc (.cells #[.int .i64 a, .int .i64 b] 23)) (.int .i64 c) (.int .i64 d) 23).alloc (by first | (simp; done) | (simp; omega)) (.cells #[.int .i64 g, .int .i64 h] 23)).below hb1 (by first | (simp; done) | (simp; omega))
    simpa using this
  have T2x : At2 w1 (w.heap.size + 1 + 1) (.int .i64 g) (.int .i64 h) := by
    have := (At2.new ((w.alloc (.cells #[.int .i64 a, .int .i64 b] 23)).alloc (.cells #[.int .i64 c, .int .i64 d] 23)) (.int .i64 g) (.int .i64 h) 23).below hb1 (by first | (simp; done) | (simp; omega))
    simpa using this
  have HB1 : Below w.heap.size w w1 := ((((Below.refl _ _).alloc (by first | (exact Nat.le_refl _) | (simp; done) | (simp; omega)) _).alloc (by first | (exact Nat.le_refl _) | (simp; done) | (simp; omega)) _).alloc (by first | (exact Nat.le_refl _) | (simp; done) | (simp; omega)) _).trans (hb1.mono (by simp; omega))
  have hq1 := HB1.size
  clear hb1
  obtain ⟨p0a, p0b, p0c, p0d⟩ := T0x
  have p0l : w.heap.size < w1.heap.size := World.block_lt_of_cell? _ _ p0a
  obtain ⟨p1a, p1b, p1c, p1d⟩ := T1x
  have p1l : w.heap.size + 1 < w1.heap.size := World.block_lt_of_cell? _ _ p1a
  obtain ⟨p2a, p2b, p2c, p2d⟩ := T2x
  have p2l : w.heap.size + 1 + 1 < w1.heap.size := World.block_lt_of_cell? _ _ p2a
  go_wp2_with fail
  refine (numbers3 a b c d g h true _ HV.out a0 a1 b0 b1 c0 c1 d0 d1 g0 g1 h0 h1 _).mono ?_
  rintro e w2 ⟨rfl, hb2⟩
  have hz2 := hb2.size
  have p0t := (At2.mk p0a p0b p0c p0d).below hb2 (by omega)
  have p1t := (At2.mk p1a p1b p1c p1d).below hb2 (by omega)
  have p2t := (At2.mk p2a p2b p2c p2d).below hb2 (by omega)
  have HB2 : Below w.heap.size w w2 := HB1.trans (hb2.mono hq1)
  have hq2 := HB2.size
  clear hb2 HB1 p0a p0b p0c p0d p0l p1a p1b p1c p1d p1l p2a p2b p2c p2d p2l
  obtain ⟨p0a, p0b, p0c, p0d⟩ := p0t
  have p0l : w.heap.size < w2.heap.size := World.block_lt_of_cell? _ _ p0a
  obtain ⟨p1a, p1b, p1c, p1d⟩ := p1t
  have p1l : w.heap.size + 1 < w2.heap.size := World.block_lt_of_cell? _ _ p1a
  obtain ⟨p2a, p2b, p2c, p2d⟩ := p2t
  have p2l : w.heap.size + 1 + 1 < w2.heap.size := World.block_lt_of_cell? _ _ p2a
  go_wp2_with fail
  refine (K1.out _).mono ?_
  rintro e w3 ⟨rfl, hb3⟩
  have hz3 := hb3.size
  have p0t := (At2.mk p0a p0b p0c p0d).below hb3 (by omega)
  have p1t := (At2.mk p1a p1b p1c p1d).below hb3 (by omega)
  have p2t := (At2.mk p2a p2b p2c p2d).below hb3 (by omega)
  have HB3 : Below w.heap.size w w3 := HB2.trans (hb3.mono hq2)
  have hq3 := HB3.size
  clear hb3 HB2 p0a p0b p0c p0d p0l p1a p1b p1c p1d p1l p2a p2b p2c p2d p2l
  obtain ⟨p0a, p0b, p0c, p0d⟩ := p0t
  have p0l : w.heap.size < w3.heap.size := World.block_lt_of_cell? _ _ p0a
  obtain ⟨p1a, p1b, p1c, p1d⟩ := p1t
  have p1l : w.heap.size + 1 < w3.heap.size := World.block_lt_of_cell? _ _ p1a
  obtain ⟨p2a, p2b, p2c, p2d⟩ := p2t
  have p2l : w.heap.size + 1 + 1 < w3.heap.size := World.block_lt_of_cell? _ _ p2a
  go_wp2_with fail
  refine (K2.out _).mono ?_
  rintro e w4 ⟨rfl, hb4⟩
  have hz4 := hb4.size
  simp only [World.size_alloc] at hz4
  have p0t := ((At2.mk p0a p0b p0c p0d).alloc (by omega) _).below hb4 (by simp; omega)
  have p1t := ((At2.mk p1a p1b p1c p1d).alloc (by omega) _).below hb4 (by simp; omega)
  have p2t := ((At2.mk p2a p2b p2c p2d).alloc (by omega) _).below hb4 (by simp; omega)
  have pt := (At2.new w3 (.int .i64 p1) (.int .i64 p2) 23).below hb4 (by simp)
  have HB4 : Below w.heap.size w w4 := (HB3.alloc hq3 _).trans (hb4.mono (by simp; omega))
  have hq4 := HB4.size
  clear hb4 HB3 p0a p0b p0c p0d p0l p1a p1b p1c p1d p1l p2a p2b p2c p2d p2l
  obtain ⟨p0a, p0b, p0c, p0d⟩ := p0t
  have p0l : w.heap.size < w4.heap.size := World.block_lt_of_cell? _ _ p0a
  obtain ⟨p1a, p1b, p1c, p1d⟩ := p1t
  have p1l : w.heap.size + 1 < w4.heap.size := World.block_lt_of_cell? _ _ p1a
  obtain ⟨p2a, p2b, p2c, p2d⟩ := p2t
  have p2l : w.heap.size + 1 + 1 < w4.heap.size := World.block_lt_of_cell? _ _ p2a
  obtain ⟨pa, pb, pc, pd⟩ := pt
  have pl : w3.heap.size < w4.heap.size := World.block_lt_of_cell? _ _ pa
  go_wp2_with fail
  refine (K3.out _).mono ?_
  rintro e w5 ⟨rfl, hb5⟩
  have hz5 := hb5.size
  simp only [World.size_alloc] at hz5
  have p0t := ((At2.mk p0a p0b p0c p0d).alloc (by omega) _).below hb5 (by simp; omega)
  have p1t := ((At2.mk p1a p1b p1c p1d).alloc (by omega) _).below hb5 (by simp; omega)
  have p2t := ((At2.mk p2a p2b p2c p2d).alloc (by omega) _).below hb5 (by simp; omega)
  have pt := ((At2.mk pa pb pc pd).alloc (by omega) _).below hb5 (by simp; omega)
  have qt := (At2.new w4 (.int .i64 p1) (.int .i64 p2) 23).below hb5 (by simp)
  have HB5 : Below w.heap.size w w5 := (HB4.alloc hq4 _).trans (hb5.mono (by simp; omega))
  have hq5 := HB5.size
  clear hb5 HB4 p0a p0b p0c p0d p0l p1a p1b p1c p1d p1l p2a p2b p2c p2d p2l pa pb pc pd pl
  obtain ⟨p0a, p0b, p0c, p0d⟩ := p0t
  have p0l : w.heap.size < w5.heap.size := World.block_lt_of_cell? _ _ p0a
  obtain ⟨p1a, p1b, p1c, p1d⟩ := p1t
  have p1l : w.heap.size + 1 < w5.heap.size := World.block_lt_of_cell? _ _ p1a
  obtain ⟨p2a, p2b, p2c, p2d⟩ := p2t
  have p2l : w.heap.size + 1 + 1 < w5.heap.size := World.block_lt_of_cell? _ _ p2a
  obtain ⟨pa, pb, pc, pd⟩ := pt
  have pl : w3.heap.size < w5.heap.size := World.block_lt_of_cell? _ _ pa
  obtain ⟨qa, qb, qc, qd⟩ := qt
  have ql : w4.heap.size < w5.heap.size := World.block_lt_of_cell? _ _ qa
  go_wp2_with fail
  refine (K4.out _).mono ?_
  rintro e w6 ⟨rfl, hb6⟩
  have hz6 := hb6.size
  simp only [World.size_alloc] at hz6
  have p0t := ((At2.mk p0a p0b p0c p0d).alloc (by omega) _).below hb6 (by simp; omega)
  have p1t := ((At2.mk p1a p1b p1c p1d).alloc (by omega) _).below hb6 (by simp; omega)
  have p2t := ((At2.mk p2a p2b p2c p2d).alloc (by omega) _).below hb6 (by simp; omega)
  have pt := ((At2.mk pa pb pc pd).alloc (by omega) _).below hb6 (by simp; omega)
  have kt := (At2.new w5 (.int .i64 a) (.int .i64 b) 23).below hb6 (by simp)
  have HB6 : Below w.heap.size w w6 := (HB5.alloc hq5 _).trans (hb6.mono (by simp; omega))
  have hq6 := HB6.size
  clear hb6 HB5 p0a p0b p0c p0d p0l p1a p1b p1c p1d p1l p2a p2b p2c p2d p2l pa pb pc pd pl qa qb qc qd ql
  obtain ⟨p0a, p0b, p0c, p0d⟩ := p0t
  have p0l : w.heap.size < w6.heap.size := World.block_lt_of_cell? _ _ p0a
  obtain ⟨p1a, p1b, p1c, p1d⟩ := p1t
  have p1l : w.heap.size + 1 < w6.heap.size := World.block_lt_of_cell? _ _ p1a
  obtain ⟨p2a, p2b, p2c, p2d⟩ := p2t
  have p2l : w.heap.size + 1 + 1 < w6.heap.size := World.block_lt_of_cell? _ _ p2a
  obtain ⟨pa, pb, pc, pd⟩ := pt
  have pl : w3.heap.size < w6.heap.size := World.block_lt_of_cell? _ _ pa
  obtain ⟨ka, kb, kc, kd⟩ := kt
  have kl : w5.heap.size < w6.heap.size := World.block_lt_of_cell? _ _ ka
  go_wp2_with fail
  refine (K5.out _).mono ?_
  rintro e w7 ⟨rfl, hb7⟩
  have hz7 := hb7.size
  simp only [World.size_alloc] at hz7
  have p0t := ((At2.mk p0a p0b p0c p0d).alloc (by omega) _).below hb7 (by simp; omega)
  have p1t := ((At2.mk p1a p1b p1c p1d).alloc (by omega) _).below hb7 (by simp; omega)
  have p2t := ((At2.mk p2a p2b p2c p2d).alloc (by omega) _).below hb7 (by simp; omega)
  have pt := ((At2.mk pa pb pc pd).alloc (by omega) _).below hb7 (by simp; omega)
  have rt := (At2.new w6 (.int .i64 r1) (.int .i64 r2) 23).below hb7 (by simp)
  have HB7 : Below w.heap.size w w7 := (HB6.alloc hq6 _).trans (hb7.mono (by simp; omega))
  have hq7 := HB7.size
  clear hb7 HB6 p0a p0b p0c p0d p0l p1a p1b p1c p1d p1l p2a p2b p2c p2d p2l pa pb pc pd pl ka kb kc kd kl
  obtain ⟨p0a, p0b, p0c, p0d⟩ := p0t
  have p0l : w.heap.size < w7.heap.size := World.block_lt_of_cell? _ _ p0a
  obtain ⟨p1a, p1b, p1c, p1d⟩ := p1t
  have p1l : w.heap.size + 1 < w7.heap.size := World.block_lt_of_cell? _ _ p1a
  obtain ⟨p2a, p2b, p2c, p2d⟩ := p2t
  have p2l : w.heap.size + 1 + 1 < w7.heap.size := World.block_lt_of_cell? _ _ p2a
  obtain ⟨pa, pb, pc, pd⟩ := pt
  have pl : w3.heap.size < w7.heap.size := World.block_lt_of_cell? _ _ pa
  obtain ⟨ra, rb, rc, rd⟩ := rt
  have rl : w6.heap.size < w7.heap.size := World.block_lt_of_cell? _ _ ra
  go_wp2_with fail
  refine (K6.out _).mono ?_
  rintro e w8 ⟨rfl, hb8⟩
  have hz8 := hb8.size
  simp only [World.size_alloc] at hz8
  have p0t := ((At2.mk p0a p0b p0c p0d).alloc (by omega) _).below hb8 (by simp; omega)
  have p1t := ((At2.mk p1a p1b p1c p1d).alloc (by omega) _).below hb8 (by simp; omega)
  have p2t := ((At2.mk p2a p2b p2c p2d).alloc (by omega) _).below hb8 (by simp; omega)
  have pt := ((At2.mk pa pb pc pd).alloc (by omega) _).below hb8 (by simp; omega)
  have rt := ((At2.mk ra rb rc rd).alloc (by omega) _).below hb8 (by simp; omega)
  have ut := (At2.new w7 (.int .i64 u1) (.int .i64 u2) 23).below hb8 (by simp)
  have HB8 : Below w.heap.size w w8 := (HB7.alloc hq7 _).trans (hb8.mono (by simp; omega))
  have hq8 := HB8.size
  clear hb8 HB7 p0a p0b p0c p0d p0l p1a p1b p1c p1d p1l p2a p2b p2c p2d p2l pa pb pc pd pl ra rb rc rd rl
  obtain ⟨p0a, p0b, p0c, p0d⟩ := p0t
  have p0l : w.heap.size < w8.heap.size := World.block_lt_of_cell? _ _ p0a
  obtain ⟨p1a, p1b, p1c, p1d⟩ := p1t
  have p1l : w.heap.size + 1 < w8.heap.size := World.block_lt_of_cell? _ _ p1a
  obtain ⟨p2a, p2b, p2c, p2d⟩ := p2t
  have p2l : w.heap.size + 1 + 1 < w8.heap.size := World.block_lt_of_cell? _ _ p2a
  obtain ⟨pa, pb, pc, pd⟩ := pt
  have pl : w3.heap.size < w8.heap.size := World.block_lt_of_cell? _ _ pa
  obtain ⟨ra, rb, rc, rd⟩ := rt
  have rl : w6.heap.size < w8.heap.size := World.block_lt_of_cell? _ _ ra
  obtain ⟨ua, ub, uc, ud⟩ := ut
  have ul : w7.heap.size < w8.heap.size := World.block_lt_of_cell? _ _ ua
  go_wp2_with fail
  refine (K7.out _).mono ?_
  rintro e w9 ⟨rfl, hb9⟩
  have hz9 := hb9.size
  simp only [World.size_alloc] at hz9
  have p0t := ((At2.mk p0a p0b p0c p0d).alloc (by omega) _).below hb9 (by simp; omega)
  have p1t := ((At2.mk p1a p1b p1c p1d).alloc (by omega) _).below hb9 (by simp; omega)
  have p2t := ((At2.mk p2a p2b p2c p2d).alloc (by omega) _).below hb9 (by simp; omega)
  have pt := ((At2.mk pa pb pc pd).alloc (by omega) _).below hb9 (by simp; omega)
  have rt := ((At2.mk ra rb rc rd).alloc (by omega) _).below hb9 (by simp; omega)
  have ut := ((At2.mk ua ub uc ud).alloc (by omega) _).below hb9 (by simp; omega)
  have vt := (At2.new w8 (.int .i64 v1) (.int .i64 v2) 23).below hb9 (by simp)
  have HB9 : Below w.heap.size w w9 := (HB8.alloc hq8 _).trans (hb9.mono (by simp; omega))
  have hq9 := HB9.size
  clear hb9 HB8 p0a p0b p0c p0d p0l p1a p1b p1c p1d p1l p2a p2b p2c p2d p2l pa pb pc pd pl ra rb rc rd rl ua ub uc ud ul
  obtain ⟨p0a, p0b, p0c, p0d⟩ := p0t
  have p0l : w.heap.size < w9.heap.size := World.block_lt_of_cell? _ _ p0a
  obtain ⟨p1a, p1b, p1c, p1d⟩ := p1t
  have p1l : w.heap.size + 1 < w9.heap.size := World.block_lt_of_cell? _ _ p1a
  obtain ⟨p2a, p2b, p2c, p2d⟩ := p2t
  have p2l : w.heap.size + 1 + 1 < w9.heap.size := World.block_lt_of_cell? _ _ p2a
  obtain ⟨pa, pb, pc, pd⟩ := pt
  have pl : w3.heap.size < w9.heap.size := World.block_lt_of_cell? _ _ pa
  obtain ⟨ra, rb, rc, rd⟩ := rt
  have rl : w6.heap.size < w9.heap.size := World.block_lt_of_cell? _ _ ra
  obtain ⟨ua, ub, uc, ud⟩ := ut
  have ul : w7.heap.size < w9.heap.size := World.block_lt_of_cell? _ _ ua
  obtain ⟨va, vb, vc, vd⟩ := vt
  have vl : w8.heap.size < w9.heap.size := World.block_lt_of_cell? _ _ va
  go_wp2_with fail
  refine (K8.out _).mono ?_
  rintro e w10 ⟨rfl, hb10⟩
  have hz10 := hb10.size
  simp only [World.size_setCell] at hz10
  have p0t := ((At2.mk p0a p0b p0c p0d).other (b' := w6.heap.size) (by omega) (.int .i64 R1) (.int .i64 R2)).below hb10 (by first | omega | (simp; omega))
  have p1t := ((At2.mk p1a p1b p1c p1d).other (b' := w6.heap.size) (by omega) (.int .i64 R1) (.int .i64 R2)).below hb10 (by first | omega | (simp; omega))
  have p2t := ((At2.mk p2a p2b p2c p2d).other (b' := w6.heap.size) (by omega) (.int .i64 R1) (.int .i64 R2)).below hb10 (by first | omega | (simp; omega))
  have pt := ((At2.mk pa pb pc pd).other (b' := w6.heap.size) (by omega) (.int .i64 R1) (.int .i64 R2)).below hb10 (by first | omega | (simp; omega))
  have rt := ((At2.mk ra rb rc rd).set (.int .i64 R1) (.int .i64 R2)).below hb10 (by first | omega | (simp; omega))
  have ut := ((At2.mk ua ub uc ud).other (b' := w6.heap.size) (by omega) (.int .i64 R1) (.int .i64 R2)).below hb10 (by first | omega | (simp; omega))
  have vt := ((At2.mk va vb vc vd).other (b' := w6.heap.size) (by omega) (.int .i64 R1) (.int .i64 R2)).below hb10 (by first | omega | (simp; omega))
  have HB10 : Below w.heap.size w w10 := ((HB9.setCell (p := ⟨w6.heap.size, 0, none⟩) (by first | omega | (simp; omega)) (.int .i64 R1)).setCell (p := ⟨w6.heap.size, 1, none⟩) (by first | omega | (simp; omega)) (.int .i64 R2)).trans (hb10.mono (by first | omega | (simp; omega)))
  have hq10 := HB10.size
  clear hb10 HB9 p0a p0b p0c p0d p0l p1a p1b p1c p1d p1l p2a p2b p2c p2d p2l pa pb pc pd pl ra rb rc rd rl ua ub uc ud ul va vb vc vd vl
  obtain ⟨p0a, p0b, p0c, p0d⟩ := p0t
  have p0l : w.heap.size < w10.heap.size := World.block_lt_of_cell? _ _ p0a
  obtain ⟨p1a, p1b, p1c, p1d⟩ := p1t
  have p1l : w.heap.size + 1 < w10.heap.size := World.block_lt_of_cell? _ _ p1a
  obtain ⟨p2a, p2b, p2c, p2d⟩ := p2t
  have p2l : w.heap.size + 1 + 1 < w10.heap.size := World.block_lt_of_cell? _ _ p2a
  obtain ⟨pa, pb, pc, pd⟩ := pt
  have pl : w3.heap.size < w10.heap.size := World.block_lt_of_cell? _ _ pa
  obtain ⟨ra, rb, rc, rd⟩ := rt
  have rl : w6.heap.size < w10.heap.size := World.block_lt_of_cell? _ _ ra
  obtain ⟨ua, ub, uc, ud⟩ := ut
  have ul : w7.heap.size < w10.heap.size := World.block_lt_of_cell? _ _ ua
  obtain ⟨va, vb, vc, vd⟩ := vt
  have vl : w8.heap.size < w10.heap.size := World.block_lt_of_cell? _ _ va
  go_wp2_with fail
  refine (K9.out _).mono ?_
  rintro e w11 ⟨rfl, hb11⟩
  have hz11 := hb11.size
  simp only [World.size_setCell] at hz11
  have p0t := ((At2.mk p0a p0b p0c p0d).other (b' := w7.heap.size) (by omega) (.int .i64 U1) (.int .i64 U2)).below hb11 (by first | omega | (simp; omega))
  have p1t := ((At2.mk p1a p1b p1c p1d).other (b' := w7.heap.size) (by omega) (.int .i64 U1) (.int .i64 U2)).below hb11 (by first | omega | (simp; omega))
  have p2t := ((At2.mk p2a p2b p2c p2d).other (b' := w7.heap.size) (by omega) (.int .i64 U1) (.int .i64 U2)).below hb11 (by first | omega | (simp; omega))
  have pt := ((At2.mk pa pb pc pd).other (b' := w7.heap.size) (by omega) (.int .i64 U1) (.int .i64 U2)).below hb11 (by first | omega | (simp; omega))
  have rt := ((At2.mk ra rb rc rd).other (b' := w7.heap.size) (by omega) (.int .i64 U1) (.int .i64 U2)).below hb11 (by first | omega | (simp; omega))
  have ut := ((At2.mk ua ub uc ud).set (.int .i64 U1) (.int .i64 U2)).below hb11 (by first | omega | (simp; omega))
  have vt := ((At2.mk va vb vc vd).other (b' := w7.heap.size) (by omega) (.int .i64 U1) (.int .i64 U2)).below hb11 (by first | omega | (simp; omega))
  have HB11 : Below w.heap.size w w11 := ((HB10.setCell (p := ⟨w7.heap.size, 0, none⟩) (by first | omega | (simp; omega)) (.int .i64 U1)).setCell (p := ⟨w7.heap.size, 1, none⟩) (by first | omega | (simp; omega)) (.int .i64 U2)).trans (hb11.mono (by first | omega | (simp; omega)))
  have hq11 := HB11.size
  clear hb11 HB10 p0a p0b p0c p0d p0l p1a p1b p1c p1d p1l p2a p2b p2c p2d p2l pa pb pc pd pl ra rb rc rd rl ua ub uc ud ul va vb vc vd vl
  obtain ⟨p0a, p0b, p0c, p0d⟩ := p0t
  have p0l : w.heap.size < w11.heap.size := World.block_lt_of_cell? _ _ p0a
  obtain ⟨p1a, p1b, p1c, p1d⟩ := p1t
  have p1l : w.heap.size + 1 < w11.heap.size := World.block_lt_of_cell? _ _ p1a
  obtain ⟨p2a, p2b, p2c, p2d⟩ := p2t
  have p2l : w.heap.size + 1 + 1 < w11.heap.size := World.block_lt_of_cell? _ _ p2a
  obtain ⟨pa, pb, pc, pd⟩ := pt
  have pl : w3.heap.size < w11.heap.size := World.block_lt_of_cell? _ _ pa
  obtain ⟨ra, rb, rc, rd⟩ := rt
  have rl : w6.heap.size < w11.heap.size := World.block_lt_of_cell? _ _ ra
  obtain ⟨ua, ub, uc, ud⟩ := ut
  have ul : w7.heap.size < w11.heap.size := World.block_lt_of_cell? _ _ ua
  obtain ⟨va, vb, vc, vd⟩ := vt
  have vl : w8.heap.size < w11.heap.size := World.block_lt_of_cell? _ _ va
  go_wp2_with fail
  refine (K10.out _).mono ?_
  rintro e w12 ⟨rfl, hb12⟩
  have hz12 := hb12.size
  simp only [World.size_alloc] at hz12
  have p0t := ((At2.mk p0a p0b p0c p0d).alloc (by omega) _).below hb12 (by simp; omega)
  have p1t := ((At2.mk p1a p1b p1c p1d).alloc (by omega) _).below hb12 (by simp; omega)
  have p2t := ((At2.mk p2a p2b p2c p2d).alloc (by omega) _).below hb12 (by simp; omega)
  have pt := ((At2.mk pa pb pc pd).alloc (by omega) _).below hb12 (by simp; omega)
  have rt := ((At2.mk ra rb rc rd).alloc (by omega) _).below hb12 (by simp; omega)
  have ut := ((At2.mk ua ub uc ud).alloc (by omega) _).below hb12 (by simp; omega)
  have vt := ((At2.mk va vb vc vd).alloc (by omega) _).below hb12 (by simp; omega)
  have st := (At2.new w11 (.int .i64 s1) (.int .i64 s2) 23).below hb12 (by simp)
  have HB12 : Below w.heap.size w w12 := (HB11.alloc hq11 _).trans (hb12.mono (by simp; omega))
  have hq12 := HB12.size
  clear hb12 HB11 p0a p0b p0c p0d p0l p1a p1b p1c p1d p1l p2a p2b p2c p2d p2l pa pb pc pd pl ra rb rc rd rl ua ub uc ud ul va vb vc vd vl
  obtain ⟨p0a, p0b, p0c, p0d⟩ := p0t
  have p0l : w.heap.size < w12.heap.size := World.block_lt_of_cell? _ _ p0a
  obtain ⟨p1a, p1b, p1c, p1d⟩ := p1t
  have p1l : w.heap.size + 1 < w12.heap.size := World.block_lt_of_cell? _ _ p1a
  obtain ⟨p2a, p2b, p2c, p2d⟩ := p2t
  have p2l : w.heap.size + 1 + 1 < w12.heap.size := World.block_lt_of_cell? _ _ p2a
  obtain ⟨pa, pb, pc, pd⟩ := pt
  have pl : w3.heap.size < w12.heap.size := World.block_lt_of_cell? _ _ pa
  obtain ⟨ra, rb, rc, rd⟩ := rt
  have rl : w6.heap.size < w12.heap.size := World.block_lt_of_cell? _ _ ra
  obtain ⟨ua, ub, uc, ud⟩ := ut
  have ul : w7.heap.size < w12.heap.size := World.block_lt_of_cell? _ _ ua
  obtain ⟨va, vb, vc, vd⟩ := vt
  have vl : w8.heap.size < w12.heap.size := World.block_lt_of_cell? _ _ va
  obtain ⟨sa, sb, sc, sd⟩ := st
  have sl : w11.heap.size < w12.heap.size := World.block_lt_of_cell? _ _ sa
  go_wp2
  go_ret
  exact ⟨rfl, (by repeat' (first | exact HB12 | refine Below.setCell ?_ (by first | omega | (simp; done) | (simp; omega)) _ | refine below_drewN ?_ _ | refine Below.alloc ?_ (by first | omega | (simp; done) | (simp; omega)) _))⟩

set_option maxRecDepth 100000 in
set_option maxHeartbeats 2000000 in
theorem products_nih (a b c d g h p1 p2 r1 r2 u1 u2 v1 v2 ie ke R1 R2 U1 U2 s1 s2 V1 V2 He Ie Le Ke : Int) (w : World) (hE : Env w) (hv : (vld a b && vld c d && vld g h) = true)
    (a0 : -9223372036854775808 ≤ a) (a1 : a ≤ 9223372036854775807) (b0 : -9223372036854775808 ≤ b) (b1 : b ≤ 9223372036854775807)
    (c0 : -9223372036854775808 ≤ c) (c1 : c ≤ 9223372036854775807) (d0 : -9223372036854775808 ≤ d) (d1 : d ≤ 9223372036854775807)
    (g0 : -9223372036854775808 ≤ g) (g1 : g ≤ 9223372036854775807) (h0 : -9223372036854775808 ≤ h) (h1 : h ≤ 9223372036854775807)
    (k1 : Gives 18 #[.agg #[.int .i64 a, .int .i64 b], .agg #[.int .i64 c, .int .i64 d]] (.tuple #[.agg #[.int .i64 p1, .int .i64 p2], .int .i64 0]))
    (k2 : Gives 18 #[.agg #[.int .i64 c, .int .i64 d], .agg #[.int .i64 a, .int .i64 b]] (.tuple #[.agg #[.int .i64 p1, .int .i64 p2], .int .i64 0]))
    (k3 : Gives 20 #[.agg #[.int .i64 p1, .int .i64 p2], .agg #[.int .i64 c, .int .i64 d]] (.tuple #[.agg #[.int .i64 a, .int .i64 b], .int .i64 0]))
    (k4 : Gives 18 #[.agg #[.int .i64 c, .int .i64 d], .agg #[.int .i64 g, .int .i64 h]] (.tuple #[.agg #[.int .i64 r1, .int .i64 r2], .int .i64 0]))
    (k5 : Gives 18 #[.agg #[.int .i64 p1, .int .i64 p2], .agg #[.int .i64 g, .int .i64 h]] (.tuple #[.agg #[.int .i64 u1, .int .i64 u2], .int .i64 ie]))
    (k6 : Gives 18 #[.agg #[.int .i64 a, .int .i64 b], .agg #[.int .i64 r1, .int .i64 r2]] (.tuple #[.agg #[.int .i64 v1, .int .i64 v2], .int .i64 ke]))
    (k7 : Gives 14 #[.agg #[.int .i64 c, .int .i64 d], .agg #[.int .i64 g, .int .i64 h]] (.tuple #[.agg #[.int .i64 R1, .int .i64 R2], .int .i64 He]))
    (k8 : Gives 18 #[.agg #[.int .i64 a, .int .i64 b], .agg #[.int .i64 R1, .int .i64 R2]] (.tuple #[.agg #[.int .i64 U1, .int .i64 U2], .int .i64 Ie]))
    (k9 : Gives 18 #[.agg #[.int .i64 a, .int .i64 b], .agg #[.int .i64 g, .int .i64 h]] (.tuple #[.agg #[.int .i64 s1, .int .i64 s2], .int .i64 Le]))
    (k10 : Gives 14 #[.agg #[.int .i64 p1, .int .i64 p2], .agg #[.int .i64 s1, .int .i64 s2]] (.tuple #[.agg #[.int .i64 V1, .int .i64 V2], .int .i64 Ke]))
    (hc : ¬ c = 0)  (hb1 : ¬ ie = 0) (hb2 : ¬ He = 0) :
    Calls Tryd.prog 6 #[.agg #[.int .i64 a, .int .i64 b], .agg #[.int .i64 c, .int .i64 d], .agg #[.int .i64 g, .int .i64 h]] w fun e w' =>
      e = .returned (.bool true) ∧ Below w.heap.size w w' := by
  have HE := Lib.hid hE
  have HV := Lib.hid hv
  have K1 := Lib.hid k1
  have K2 := Lib.hid k2
  have K3 := Lib.hid k3
  have K4 := Lib.hid k4
  have K5 := Lib.hid k5
  have K6 := Lib.hid k6
  have K7 := Lib.hid k7
  have K8 := Lib.hid k8
  have K9 := Lib.hid k9
  have K10 := Lib.hid k10
  clear hE hv k1 k2 k3 k4 k5 k6 k7 k8 k9 k10
  have f0 : (c == 0) = false := by simp; exact hc
  have f00 : (c != 0) = true := by simp; exact hc
  have f1 : (ie != 0) = true := by simp; exact hb1
  have f11 : (ie == 0) = false := by simp; exact hb1
  have f2 : (He != 0) = true := by simp; exact hb2
  have f22 : (He == 0) = false := by simp; exact hb2
  go_enter Tryd.func6, Tryd.ntmps6
  go_wp2_with fail
  refine (head_any _ (((HE.out.below ((Below.refl _ _).alloc (Nat.le_refl _) _)).below ((Below.refl _ _).alloc (Nat.le_refl _) _)).below ((Below.refl _ _).alloc (Nat.le_refl _) _))).mono ?_
  rintro e w1 ⟨rfl, hb1⟩
  have hz1 := hb1.size
  simp only [World.size_alloc] at hz1
  have T0x : At2 w1 (w.heap.size) (.int .i64 a) (.int .i64 b) := by
    have := (((At2.new w (.int .i64 a) (.int .i64 b) 23).alloc (by first | (simp; done) | (simp; omega)) (.cells #[.int .i64 c, .int .i64 d] 23)).alloc (by first | (simp; done) | (simp; omega)) (.cells #[.int .i64 g, .int .i64 h] 23)).below hb1 (by first | (simp; done) | (simp; omega))
    simpa using this
  have T1x : At2 w1 (w.heap.size + 1) (.int .i64 c) (.int .i64 d) := by
    have := ((At2.new (w.alloc (.cells #[.int .i64 a, .int .i64 b] 23)) (.int .i64 c) (.int .i64 d) 23).alloc (by first | (simp; done) | (simp; omega)) (.cells #[.int .i64 g, .int .i64 h] 23)).below hb1 (by first | (simp; done) | (simp; omega))
    simpa using this
  have T2x : At2 w1 (w.heap.size + 1 + 1) (.int .i64 g) (.int .i64 h) := by
    have := (At2.new ((w.alloc (.cells #[.int .i64 a, .int .i64 b] 23)).alloc (.cells #[.int .i64 c, .int .i64 d] 23)) (.int .i64 g) (.int .i64 h) 23).below hb1 (by first | (simp; done) | (simp; omega))
    simpa using this
  have HB1 : Below w.heap.size w w1 := ((((Below.refl _ _).alloc (by first | (exact Nat.le_refl _) | (simp; done) | (simp; omega)) _).alloc (by first | (exact Nat.le_refl _) | (simp; done) | (simp; omega)) _).alloc (by first | (exact Nat.le_refl _) | (simp; done) | (simp; omega)) _).trans (hb1.mono (by simp; omega))
  have hq1 := HB1.size
  clear hb1
  obtain ⟨p0a, p0b, p0c, p0d⟩ := T0x
  have p0l : w.heap.size < w1.heap.size := World.block_lt_of_cell? _ _ p0a
  obtain ⟨p1a, p1b, p1c, p1d⟩ := T1x
  have p1l : w.heap.size + 1 < w1.heap.size := World.block_lt_of_cell? _ _ p1a
  obtain ⟨p2a, p2b, p2c, p2d⟩ := T2x
  have p2l : w.heap.size + 1 + 1 < w1.heap.size := World.block_lt_of_cell? _ _ p2a
  go_wp2_with fail
  refine (numbers3 a b c d g h true _ HV.out a0 a1 b0 b1 c0 c1 d0 d1 g0 g1 h0 h1 _).mono ?_
  rintro e w2 ⟨rfl, hb2⟩
  have hz2 := hb2.size
  have p0t := (At2.mk p0a p0b p0c p0d).below hb2 (by omega)
  have p1t := (At2.mk p1a p1b p1c p1d).below hb2 (by omega)
  have p2t := (At2.mk p2a p2b p2c p2d).below hb2 (by omega)
  have HB2 : Below w.heap.size w w2 := HB1.trans (hb2.mono hq1)
  have hq2 := HB2.size
  clear hb2 HB1 p0a p0b p0c p0d p0l p1a p1b p1c p1d p1l p2a p2b p2c p2d p2l
  obtain ⟨p0a, p0b, p0c, p0d⟩ := p0t
  have p0l : w.heap.size < w2.heap.size := World.block_lt_of_cell? _ _ p0a
  obtain ⟨p1a, p1b, p1c, p1d⟩ := p1t
  have p1l : w.heap.size + 1 < w2.heap.size := World.block_lt_of_cell? _ _ p1a
  obtain ⟨p2a, p2b, p2c, p2d⟩ := p2t
  have p2l : w.heap.size + 1 + 1 < w2.heap.size := World.block_lt_of_cell? _ _ p2a
  go_wp2_with fail
  refine (K1.out _).mono ?_
  rintro e w3 ⟨rfl, hb3⟩
  have hz3 := hb3.size
  have p0t := (At2.mk p0a p0b p0c p0d).below hb3 (by omega)
  have p1t := (At2.mk p1a p1b p1c p1d).below hb3 (by omega)
  have p2t := (At2.mk p2a p2b p2c p2d).below hb3 (by omega)
  have HB3 : Below w.heap.size w w3 := HB2.trans (hb3.mono hq2)
  have hq3 := HB3.size
  clear hb3 HB2 p0a p0b p0c p0d p0l p1a p1b p1c p1d p1l p2a p2b p2c p2d p2l
  obtain ⟨p0a, p0b, p0c, p0d⟩ := p0t
  have p0l : w.heap.size < w3.heap.size := World.block_lt_of_cell? _ _ p0a
  obtain ⟨p1a, p1b, p1c, p1d⟩ := p1t
  have p1l : w.heap.size + 1 < w3.heap.size := World.block_lt_of_cell? _ _ p1a
  obtain ⟨p2a, p2b, p2c, p2d⟩ := p2t
  have p2l : w.heap.size + 1 + 1 < w3.heap.size := World.block_lt_of_cell? _ _ p2a
  go_wp2_with fail
  refine (K2.out _).mono ?_
  rintro e w4 ⟨rfl, hb4⟩
  have hz4 := hb4.size
  simp only [World.size_alloc] at hz4
  have p0t := ((At2.mk p0a p0b p0c p0d).alloc (by omega) _).below hb4 (by simp; omega)
  have p1t := ((At2.mk p1a p1b p1c p1d).alloc (by omega) _).below hb4 (by simp; omega)
  have p2t := ((At2.mk p2a p2b p2c p2d).alloc (by omega) _).below hb4 (by simp; omega)
  have pt := (At2.new w3 (.int .i64 p1) (.int .i64 p2) 23).below hb4 (by simp)
  have HB4 : Below w.heap.size w w4 := (HB3.alloc hq3 _).trans (hb4.mono (by simp; omega))
  have hq4 := HB4.size
  clear hb4 HB3 p0a p0b p0c p0d p0l p1a p1b p1c p1d p1l p2a p2b p2c p2d p2l
  obtain ⟨p0a, p0b, p0c, p0d⟩ := p0t
  have p0l : w.heap.size < w4.heap.size := World.block_lt_of_cell? _ _ p0a
  obtain ⟨p1a, p1b, p1c, p1d⟩ := p1t
  have p1l : w.heap.size + 1 < w4.heap.size := World.block_lt_of_cell? _ _ p1a
  obtain ⟨p2a, p2b, p2c, p2d⟩ := p2t
  have p2l : w.heap.size + 1 + 1 < w4.heap.size := World.block_lt_of_cell? _ _ p2a
  obtain ⟨pa, pb, pc, pd⟩ := pt
  have pl : w3.heap.size < w4.heap.size := World.block_lt_of_cell? _ _ pa
  go_wp2_with fail
  refine (K3.out _).mono ?_
  rintro e w5 ⟨rfl, hb5⟩
  have hz5 := hb5.size
  simp only [World.size_alloc] at hz5
  have p0t := ((At2.mk p0a p0b p0c p0d).alloc (by omega) _).below hb5 (by simp; omega)
  have p1t := ((At2.mk p1a p1b p1c p1d).alloc (by omega) _).below hb5 (by simp; omega)
  have p2t := ((At2.mk p2a p2b p2c p2d).alloc (by omega) _).below hb5 (by simp; omega)
  have pt := ((At2.mk pa pb pc pd).alloc (by omega) _).below hb5 (by simp; omega)
  have qt := (At2.new w4 (.int .i64 p1) (.int .i64 p2) 23).below hb5 (by simp)
  have HB5 : Below w.heap.size w w5 := (HB4.alloc hq4 _).trans (hb5.mono (by simp; omega))
  have hq5 := HB5.size
  clear hb5 HB4 p0a p0b p0c p0d p0l p1a p1b p1c p1d p1l p2a p2b p2c p2d p2l pa pb pc pd pl
  obtain ⟨p0a, p0b, p0c, p0d⟩ := p0t
  have p0l : w.heap.size < w5.heap.size := World.block_lt_of_cell? _ _ p0a
  obtain ⟨p1a, p1b, p1c, p1d⟩ := p1t
  have p1l : w.heap.size + 1 < w5.heap.size := World.block_lt_of_cell? _ _ p1a
  obtain ⟨p2a, p2b, p2c, p2d⟩ := p2t
  have p2l : w.heap.size + 1 + 1 < w5.heap.size := World.block_lt_of_cell? _ _ p2a
  obtain ⟨pa, pb, pc, pd⟩ := pt
  have pl : w3.heap.size < w5.heap.size := World.block_lt_of_cell? _ _ pa
  obtain ⟨qa, qb, qc, qd⟩ := qt
  have ql : w4.heap.size < w5.heap.size := World.block_lt_of_cell? _ _ qa
  go_wp2_with fail
  refine (K4.out _).mono ?_
  rintro e w6 ⟨rfl, hb6⟩
  have hz6 := hb6.size
  simp only [World.size_alloc] at hz6
  have p0t := ((At2.mk p0a p0b p0c p0d).alloc (by omega) _).below hb6 (by simp; omega)
  have p1t := ((At2.mk p1a p1b p1c p1d).alloc (by omega) _).below hb6 (by simp; omega)
  have p2t := ((At2.mk p2a p2b p2c p2d).alloc (by omega) _).below hb6 (by simp; omega)
  have pt := ((At2.mk pa pb pc pd).alloc (by omega) _).below hb6 (by simp; omega)
  have kt := (At2.new w5 (.int .i64 a) (.int .i64 b) 23).below hb6 (by simp)
  have HB6 : Below w.heap.size w w6 := (HB5.alloc hq5 _).trans (hb6.mono (by simp; omega))
  have hq6 := HB6.size
  clear hb6 HB5 p0a p0b p0c p0d p0l p1a p1b p1c p1d p1l p2a p2b p2c p2d p2l pa pb pc pd pl qa qb qc qd ql
  obtain ⟨p0a, p0b, p0c, p0d⟩ := p0t
  have p0l : w.heap.size < w6.heap.size := World.block_lt_of_cell? _ _ p0a
  obtain ⟨p1a, p1b, p1c, p1d⟩ := p1t
  have p1l : w.heap.size + 1 < w6.heap.size := World.block_lt_of_cell? _ _ p1a
  obtain ⟨p2a, p2b, p2c, p2d⟩ := p2t
  have p2l : w.heap.size + 1 + 1 < w6.heap.size := World.block_lt_of_cell? _ _ p2a
  obtain ⟨pa, pb, pc, pd⟩ := pt
  have pl : w3.heap.size < w6.heap.size := World.block_lt_of_cell? _ _ pa
  obtain ⟨ka, kb, kc, kd⟩ := kt
  have kl : w5.heap.size < w6.heap.size := World.block_lt_of_cell? _ _ ka
  go_wp2_with fail
  refine (K5.out _).mono ?_
  rintro e w7 ⟨rfl, hb7⟩
  have hz7 := hb7.size
  simp only [World.size_alloc] at hz7
  have p0t := ((At2.mk p0a p0b p0c p0d).alloc (by omega) _).below hb7 (by simp; omega)
  have p1t := ((At2.mk p1a p1b p1c p1d).alloc (by omega) _).below hb7 (by simp; omega)
  have p2t := ((At2.mk p2a p2b p2c p2d).alloc (by omega) _).below hb7 (by simp; omega)
  have pt := ((At2.mk pa pb pc pd).alloc (by omega) _).below hb7 (by simp; omega)
  have rt := (At2.new w6 (.int .i64 r1) (.int .i64 r2) 23).below hb7 (by simp)
  have HB7 : Below w.heap.size w w7 := (HB6.alloc hq6 _).trans (hb7.mono (by simp; omega))
  have hq7 := HB7.size
  clear hb7 HB6 p0a p0b p0c p0d p0l p1a p1b p1c p1d p1l p2a p2b p2c p2d p2l pa pb pc pd pl ka kb kc kd kl
  obtain ⟨p0a, p0b, p0c, p0d⟩ := p0t
  have p0l : w.heap.size < w7.heap.size := World.block_lt_of_cell? _ _ p0a
  obtain ⟨p1a, p1b, p1c, p1d⟩ := p1t
  have p1l : w.heap.size + 1 < w7.heap.size := World.block_lt_of_cell? _ _ p1a
  obtain ⟨p2a, p2b, p2c, p2d⟩ := p2t
  have p2l : w.heap.size + 1 + 1 < w7.heap.size := World.block_lt_of_cell? _ _ p2a
  obtain ⟨pa, pb, pc, pd⟩ := pt
  have pl : w3.heap.size < w7.heap.size := World.block_lt_of_cell? _ _ pa
  obtain ⟨ra, rb, rc, rd⟩ := rt
  have rl : w6.heap.size < w7.heap.size := World.block_lt_of_cell? _ _ ra
  go_wp2_with fail
  refine (K6.out _).mono ?_
  rintro e w8 ⟨rfl, hb8⟩
  have hz8 := hb8.size
  simp only [World.size_alloc] at hz8
  have p0t := ((At2.mk p0a p0b p0c p0d).alloc (by omega) _).below hb8 (by simp; omega)
  have p1t := ((At2.mk p1a p1b p1c p1d).alloc (by omega) _).below hb8 (by simp; omega)
  have p2t := ((At2.mk p2a p2b p2c p2d).alloc (by omega) _).below hb8 (by simp; omega)
  have pt := ((At2.mk pa pb pc pd).alloc (by omega) _).below hb8 (by simp; omega)
  have rt := ((At2.mk ra rb rc rd).alloc (by omega) _).below hb8 (by simp; omega)
  have ut := (At2.new w7 (.int .i64 u1) (.int .i64 u2) 23).below hb8 (by simp)
  have HB8 : Below w.heap.size w w8 := (HB7.alloc hq7 _).trans (hb8.mono (by simp; omega))
  have hq8 := HB8.size
  clear hb8 HB7 p0a p0b p0c p0d p0l p1a p1b p1c p1d p1l p2a p2b p2c p2d p2l pa pb pc pd pl ra rb rc rd rl
  obtain ⟨p0a, p0b, p0c, p0d⟩ := p0t
  have p0l : w.heap.size < w8.heap.size := World.block_lt_of_cell? _ _ p0a
  obtain ⟨p1a, p1b, p1c, p1d⟩ := p1t
  have p1l : w.heap.size + 1 < w8.heap.size := World.block_lt_of_cell? _ _ p1a
  obtain ⟨p2a, p2b, p2c, p2d⟩ := p2t
  have p2l : w.heap.size + 1 + 1 < w8.heap.size := World.block_lt_of_cell? _ _ p2a
  obtain ⟨pa, pb, pc, pd⟩ := pt
  have pl : w3.heap.size < w8.heap.size := World.block_lt_of_cell? _ _ pa
  obtain ⟨ra, rb, rc, rd⟩ := rt
  have rl : w6.heap.size < w8.heap.size := World.block_lt_of_cell? _ _ ra
  obtain ⟨ua, ub, uc, ud⟩ := ut
  have ul : w7.heap.size < w8.heap.size := World.block_lt_of_cell? _ _ ua
  go_wp2_with fail
  refine (K7.out _).mono ?_
  rintro e w9 ⟨rfl, hb9⟩
  have hz9 := hb9.size
  simp only [World.size_alloc] at hz9
  have p0t := ((At2.mk p0a p0b p0c p0d).alloc (by omega) _).below hb9 (by simp; omega)
  have p1t := ((At2.mk p1a p1b p1c p1d).alloc (by omega) _).below hb9 (by simp; omega)
  have p2t := ((At2.mk p2a p2b p2c p2d).alloc (by omega) _).below hb9 (by simp; omega)
  have pt := ((At2.mk pa pb pc pd).alloc (by omega) _).below hb9 (by simp; omega)
  have rt := ((At2.mk ra rb rc rd).alloc (by omega) _).below hb9 (by simp; omega)
  have ut := ((At2.mk ua ub uc ud).alloc (by omega) _).below hb9 (by simp; omega)
  have vt := (At2.new w8 (.int .i64 v1) (.int .i64 v2) 23).below hb9 (by simp)
  have HB9 : Below w.heap.size w w9 := (HB8.alloc hq8 _).trans (hb9.mono (by simp; omega))
  have hq9 := HB9.size
  clear hb9 HB8 p0a p0b p0c p0d p0l p1a p1b p1c p1d p1l p2a p2b p2c p2d p2l pa pb pc pd pl ra rb rc rd rl ua ub uc ud ul
  obtain ⟨p0a, p0b, p0c, p0d⟩ := p0t
  have p0l : w.heap.size < w9.heap.size := World.block_lt_of_cell? _ _ p0a
  obtain ⟨p1a, p1b, p1c, p1d⟩ := p1t
  have p1l : w.heap.size + 1 < w9.heap.size := World.block_lt_of_cell? _ _ p1a
  obtain ⟨p2a, p2b, p2c, p2d⟩ := p2t
  have p2l : w.heap.size + 1 + 1 < w9.heap.size := World.block_lt_of_cell? _ _ p2a
  obtain ⟨pa, pb, pc, pd⟩ := pt
  have pl : w3.heap.size < w9.heap.size := World.block_lt_of_cell? _ _ pa
  obtain ⟨ra, rb, rc, rd⟩ := rt
  have rl : w6.heap.size < w9.heap.size := World.block_lt_of_cell? _ _ ra
  obtain ⟨ua, ub, uc, ud⟩ := ut
  have ul : w7.heap.size < w9.heap.size := World.block_lt_of_cell? _ _ ua
  obtain ⟨va, vb, vc, vd⟩ := vt
  have vl : w8.heap.size < w9.heap.size := World.block_lt_of_cell? _ _ va
  go_wp2_with fail
  refine (K8.out _).mono ?_
  rintro e w10 ⟨rfl, hb10⟩
  have hz10 := hb10.size
  simp only [World.size_setCell] at hz10
  have p0t := ((At2.mk p0a p0b p0c p0d).other (b' := w6.heap.size) (by omega) (.int .i64 R1) (.int .i64 R2)).below hb10 (by first | omega | (simp; omega))
  have p1t := ((At2.mk p1a p1b p1c p1d).other (b' := w6.heap.size) (by omega) (.int .i64 R1) (.int .i64 R2)).below hb10 (by first | omega | (simp; omega))
  have p2t := ((At2.mk p2a p2b p2c p2d).other (b' := w6.heap.size) (by omega) (.int .i64 R1) (.int .i64 R2)).below hb10 (by first | omega | (simp; omega))
  have pt := ((At2.mk pa pb pc pd).other (b' := w6.heap.size) (by omega) (.int .i64 R1) (.int .i64 R2)).below hb10 (by first | omega | (simp; omega))
  have rt := ((At2.mk ra rb rc rd).set (.int .i64 R1) (.int .i64 R2)).below hb10 (by first | omega | (simp; omega))
  have ut := ((At2.mk ua ub uc ud).other (b' := w6.heap.size) (by omega) (.int .i64 R1) (.int .i64 R2)).below hb10 (by first | omega | (simp; omega))
  have vt := ((At2.mk va vb vc vd).other (b' := w6.heap.size) (by omega) (.int .i64 R1) (.int .i64 R2)).below hb10 (by first | omega | (simp; omega))
  have HB10 : Below w.heap.size w w10 := ((HB9.setCell (p := ⟨w6.heap.size, 0, none⟩) (by first | omega | (simp; omega)) (.int .i64 R1)).setCell (p := ⟨w6.heap.size, 1, none⟩) (by first | omega | (simp; omega)) (.int .i64 R2)).trans (hb10.mono (by first | omega | (simp; omega)))
  have hq10 := HB10.size
  clear hb10 HB9 p0a p0b p0c p0d p0l p1a p1b p1c p1d p1l p2a p2b p2c p2d p2l pa pb pc pd pl ra rb rc rd rl ua ub uc ud ul va vb vc vd vl
  obtain ⟨p0a, p0b, p0c, p0d⟩ := p0t
  have p0l : w.heap.size < w10.heap.size := World.block_lt_of_cell? _ _ p0a
  obtain ⟨p1a, p1b, p1c, p1d⟩ := p1t
  have p1l : w.heap.size + 1 < w10.heap.size := World.block_lt_of_cell? _ _ p1a
  obtain ⟨p2a, p2b, p2c, p2d⟩ := p2t
  have p2l : w.heap.size + 1 + 1 < w10.heap.size := World.block_lt_of_cell? _ _ p2a
  obtain ⟨pa, pb, pc, pd⟩ := pt
  have pl : w3.heap.size < w10.heap.size := World.block_lt_of_cell? _ _ pa
  obtain ⟨ra, rb, rc, rd⟩ := rt
  have rl : w6.heap.size < w10.heap.size := World.block_lt_of_cell? _ _ ra
  obtain ⟨ua, ub, uc, ud⟩ := ut
  have ul : w7.heap.size < w10.heap.size := World.block_lt_of_cell? _ _ ua
  obtain ⟨va, vb, vc, vd⟩ := vt
  have vl : w8.heap.size < w10.heap.size := World.block_lt_of_cell? _ _ va
  go_wp2_with fail
  refine (K9.out _).mono ?_
  rintro e w11 ⟨rfl, hb11⟩
  have hz11 := hb11.size
  simp only [World.size_setCell] at hz11
  have p0t := ((At2.mk p0a p0b p0c p0d).other (b' := w7.heap.size) (by omega) (.int .i64 U1) (.int .i64 U2)).below hb11 (by first | omega | (simp; omega))
  have p1t := ((At2.mk p1a p1b p1c p1d).other (b' := w7.heap.size) (by omega) (.int .i64 U1) (.int .i64 U2)).below hb11 (by first | omega | (simp; omega))
  have p2t := ((At2.mk p2a p2b p2c p2d).other (b' := w7.heap.size) (by omega) (.int .i64 U1) (.int .i64 U2)).below hb11 (by first | omega | (simp; omega))
  have pt := ((At2.mk pa pb pc pd).other (b' := w7.heap.size) (by omega) (.int .i64 U1) (.int .i64 U2)).below hb11 (by first | omega | (simp; omega))
  have rt := ((At2.mk ra rb rc rd).other (b' := w7.heap.size) (by omega) (.int .i64 U1) (.int .i64 U2)).below hb11 (by first | omega | (simp; omega))
  have ut := ((At2.mk ua ub uc ud).set (.int .i64 U1) (.int .i64 U2)).below hb11 (by first | omega | (simp; omega))
  have vt := ((At2.mk va vb vc vd).other (b' := w7.heap.size) (by omega) (.int .i64 U1) (.int .i64 U2)).below hb11 (by first | omega | (simp; omega))
  have HB11 : Below w.heap.size w w11 := ((HB10.setCell (p := ⟨w7.heap.size, 0, none⟩) (by first | omega | (simp; omega)) (.int .i64 U1)).setCell (p := ⟨w7.heap.size, 1, none⟩) (by first | omega | (simp; omega)) (.int .i64 U2)).trans (hb11.mono (by first | omega | (simp; omega)))
  have hq11 := HB11.size
  clear hb11 HB10 p0a p0b p0c p0d p0l p1a p1b p1c p1d p1l p2a p2b p2c p2d p2l pa pb pc pd pl ra rb rc rd rl ua ub uc ud ul va vb vc vd vl
  obtain ⟨p0a, p0b, p0c, p0d⟩ := p0t
  have p0l : w.heap.size < w11.heap.size := World.block_lt_of_cell? _ _ p0a
  obtain ⟨p1a, p1b, p1c, p1d⟩ := p1t
  have p1l : w.heap.size + 1 < w11.heap.size := World.block_lt_of_cell? _ _ p1a
  obtain ⟨p2a, p2b, p2c, p2d⟩ := p2t
  have p2l : w.heap.size + 1 + 1 < w11.heap.size := World.block_lt_of_cell? _ _ p2a
  obtain ⟨pa, pb, pc, pd⟩ := pt
  have pl : w3.heap.size < w11.heap.size := World.block_lt_of_cell? _ _ pa
  obtain ⟨ra, rb, rc, rd⟩ := rt
  have rl : w6.heap.size < w11.heap.size := World.block_lt_of_cell? _ _ ra
  obtain ⟨ua, ub, uc, ud⟩ := ut
  have ul : w7.heap.size < w11.heap.size := World.block_lt_of_cell? _ _ ua
  obtain ⟨va, vb, vc, vd⟩ := vt
  have vl : w8.heap.size < w11.heap.size := World.block_lt_of_cell? _ _ va
  go_wp2_with fail
  refine (K10.out _).mono ?_
  rintro e w12 ⟨rfl, hb12⟩
  have hz12 := hb12.size
  simp only [World.size_alloc] at hz12
  have p0t := ((At2.mk p0a p0b p0c p0d).alloc (by omega) _).below hb12 (by simp; omega)
  have p1t := ((At2.mk p1a p1b p1c p1d).alloc (by omega) _).below hb12 (by simp; omega)
  have p2t := ((At2.mk p2a p2b p2c p2d).alloc (by omega) _).below hb12 (by simp; omega)
  have pt := ((At2.mk pa pb pc pd).alloc (by omega) _).below hb12 (by simp; omega)
  have rt := ((At2.mk ra rb rc rd).alloc (by omega) _).below hb12 (by simp; omega)
  have ut := ((At2.mk ua ub uc ud).alloc (by omega) _).below hb12 (by simp; omega)
  have vt := ((At2.mk va vb vc vd).alloc (by omega) _).below hb12 (by simp; omega)
  have st := (At2.new w11 (.int .i64 s1) (.int .i64 s2) 23).below hb12 (by simp)
  have HB12 : Below w.heap.size w w12 := (HB11.alloc hq11 _).trans (hb12.mono (by simp; omega))
  have hq12 := HB12.size
  clear hb12 HB11 p0a p0b p0c p0d p0l p1a p1b p1c p1d p1l p2a p2b p2c p2d p2l pa pb pc pd pl ra rb rc rd rl ua ub uc ud ul va vb vc vd vl
  obtain ⟨p0a, p0b, p0c, p0d⟩ := p0t
  have p0l : w.heap.size < w12.heap.size := World.block_lt_of_cell? _ _ p0a
  obtain ⟨p1a, p1b, p1c, p1d⟩ := p1t
  have p1l : w.heap.size + 1 < w12.heap.size := World.block_lt_of_cell? _ _ p1a
  obtain ⟨p2a, p2b, p2c, p2d⟩ := p2t
  have p2l : w.heap.size + 1 + 1 < w12.heap.size := World.block_lt_of_cell? _ _ p2a
  obtain ⟨pa, pb, pc, pd⟩ := pt
  have pl : w3.heap.size < w12.heap.size := World.block_lt_of_cell? _ _ pa
  obtain ⟨ra, rb, rc, rd⟩ := rt
  have rl : w6.heap.size < w12.heap.size := World.block_lt_of_cell? _ _ ra
  obtain ⟨ua, ub, uc, ud⟩ := ut
  have ul : w7.heap.size < w12.heap.size := World.block_lt_of_cell? _ _ ua
  obtain ⟨va, vb, vc, vd⟩ := vt
  have vl : w8.heap.size < w12.heap.size := World.block_lt_of_cell? _ _ va
  obtain ⟨sa, sb, sc, sd⟩ := st
  have sl : w11.heap.size < w12.heap.size := World.block_lt_of_cell? _ _ sa
  go_wp2
  go_ret
  exact ⟨rfl, (by repeat' (first | exact HB12 | refine Below.setCell ?_ (by first | omega | (simp; done) | (simp; omega)) _ | refine below_drewN ?_ _ | refine Below.alloc ?_ (by first | omega | (simp; done) | (simp; omega)) _))⟩

set_option maxRecDepth 100000 in
set_option maxHeartbeats 2000000 in
theorem products_nii (a b c d g h p1 p2 r1 r2 u1 u2 v1 v2 ie ke R1 R2 U1 U2 s1 s2 V1 V2 Ie Le Ke : Int) (w : World) (hE : Env w) (hv : (vld a b && vld c d && vld g h) = true)
    (a0 : -9223372036854775808 ≤ a) (a1 : a ≤ 9223372036854775807) (b0 : -9223372036854775808 ≤ b) (b1 : b ≤ 9223372036854775807)
    (c0 : -9223372036854775808 ≤ c) (c1 : c ≤ 9223372036854775807) (d0 : -9223372036854775808 ≤ d) (d1 : d ≤ 9223372036854775807)
    (g0 : -9223372036854775808 ≤ g) (g1 : g ≤ 9223372036854775807) (h0 : -9223372036854775808 ≤ h) (h1 : h ≤ 9223372036854775807)
    (k1 : Gives 18 #[.agg #[.int .i64 a, .int .i64 b], .agg #[.int .i64 c, .int .i64 d]] (.tuple #[.agg #[.int .i64 p1, .int .i64 p2], .int .i64 0]))
    (k2 : Gives 18 #[.agg #[.int .i64 c, .int .i64 d], .agg #[.int .i64 a, .int .i64 b]] (.tuple #[.agg #[.int .i64 p1, .int .i64 p2], .int .i64 0]))
    (k3 : Gives 20 #[.agg #[.int .i64 p1, .int .i64 p2], .agg #[.int .i64 c, .int .i64 d]] (.tuple #[.agg #[.int .i64 a, .int .i64 b], .int .i64 0]))
    (k4 : Gives 18 #[.agg #[.int .i64 c, .int .i64 d], .agg #[.int .i64 g, .int .i64 h]] (.tuple #[.agg #[.int .i64 r1, .int .i64 r2], .int .i64 0]))
    (k5 : Gives 18 #[.agg #[.int .i64 p1, .int .i64 p2], .agg #[.int .i64 g, .int .i64 h]] (.tuple #[.agg #[.int .i64 u1, .int .i64 u2], .int .i64 ie]))
    (k6 : Gives 18 #[.agg #[.int .i64 a, .int .i64 b], .agg #[.int .i64 r1, .int .i64 r2]] (.tuple #[.agg #[.int .i64 v1, .int .i64 v2], .int .i64 ke]))
    (k7 : Gives 14 #[.agg #[.int .i64 c, .int .i64 d], .agg #[.int .i64 g, .int .i64 h]] (.tuple #[.agg #[.int .i64 R1, .int .i64 R2], .int .i64 0]))
    (k8 : Gives 18 #[.agg #[.int .i64 a, .int .i64 b], .agg #[.int .i64 R1, .int .i64 R2]] (.tuple #[.agg #[.int .i64 U1, .int .i64 U2], .int .i64 Ie]))
    (k9 : Gives 18 #[.agg #[.int .i64 a, .int .i64 b], .agg #[.int .i64 g, .int .i64 h]] (.tuple #[.agg #[.int .i64 s1, .int .i64 s2], .int .i64 Le]))
    (k10 : Gives 14 #[.agg #[.int .i64 p1, .int .i64 p2], .agg #[.int .i64 s1, .int .i64 s2]] (.tuple #[.agg #[.int .i64 V1, .int .i64 V2], .int .i64 Ke]))
    (hc : ¬ c = 0)  (hb1 : ¬ ie = 0) (hb2 : ¬ Ie = 0) :
    Calls Tryd.prog 6 #[.agg #[.int .i64 a, .int .i64 b], .agg #[.int .i64 c, .int .i64 d], .agg #[.int .i64 g, .int .i64 h]] w fun e w' =>
      e = .returned (.bool true) ∧ Below w.heap.size w w' := by
  have HE := Lib.hid hE
  have HV := Lib.hid hv
  have K1 := Lib.hid k1
  have K2 := Lib.hid k2
  have K3 := Lib.hid k3
  have K4 := Lib.hid k4
  have K5 := Lib.hid k5
  have K6 := Lib.hid k6
  have K7 := Lib.hid k7
  have K8 := Lib.hid k8
  have K9 := Lib.hid k9
  have K10 := Lib.hid k10
  clear hE hv k1 k2 k3 k4 k5 k6 k7 k8 k9 k10
  have f0 : (c == 0) = false := by simp; exact hc
  have f00 : (c != 0) = true := by simp; exact hc
  have f1 : (ie != 0) = true := by simp; exact hb1
  have f11 : (ie == 0) = false := by simp; exact hb1
  have f2 : (Ie != 0) = true := by simp; exact hb2
  have f22 : (Ie == 0) = false := by simp; exact hb2
  go_enter Tryd.func6, Tryd.ntmps6
  go_wp2_with fail
  refine (head_any _ (((HE.out.below ((Below.refl _ _).alloc (Nat.le_refl _) _)).below ((Below.refl _ _).alloc (Nat.le_refl _) _)).below ((Below.refl _ _).alloc (Nat.le_refl _) _))).mono ?_
  rintro e w1 ⟨rfl, hb1⟩
  have hz1 := hb1.size
  simp only [World.size_alloc] at hz1
  have T0x : At2 w1 (w.heap.size) (.int .i64 a) (.int .i64 b) := by
    have := (((At2.new w (.int .i64 a) (.int .i64 b) 23).alloc (by first | (simp; done) | (simp; omega)) (.cells #[.int .i64 c, .int .i64 d] 23)).alloc (by first | (simp; done) | (simp; omega)) (.cells #[.int .i64 g, .int .i64 h] 23)).below hb1 (by first | (simp; done) | (simp; omega))
    simpa using this
  have T1x : At2 w1 (w.heap.size + 1) (.int .i64 c) (.int .i64 d) := by
    have := ((At2.new (w.alloc (.cells #[.int .i64 a, .int .i64 b] 23)) (.int .i64 c) (.int .i64 d) 23).alloc (by first | (simp; done) | (simp; omega)) (.cells #[.int .i64 g, .int .i64 h] 23)).below hb1 (by first | (simp; done) | (simp; omega))
    simpa using this
  have T2x : At2 w1 (w.heap.size + 1 + 1) (.int .i64 g) (.int .i64 h) := by
    have := (At2.new ((w.alloc (.cells #[.int .i64 a, .int .i64 b] 23)).alloc (.cells #[.int .i64 c, .int .i64 d] 23)) (.int .i64 g) (.int .i64 h) 23).below hb1 (by first | (simp; done) | (simp; omega))
    simpa using this
  have HB1 : Below w.heap.size w w1 := ((((Below.refl _ _).alloc (by first | (exact Nat.le_refl _) | (simp; done) | (simp; omega)) _).alloc (by first | (exact Nat.le_refl _) | (simp; done) | (simp; omega)) _).alloc (by first | (exact Nat.le_refl _) | (simp; done) | (simp; omega)) _).trans (hb1.mono (by simp; omega))
  have hq1 := HB1.size
  clear hb1
  obtain ⟨p0a, p0b, p0c, p0d⟩ := T0x
  have p0l : w.heap.size < w1.heap.size := World.block_lt_of_cell? _ _ p0a
  obtain ⟨p1a, p1b, p1c, p1d⟩ := T1x
  have p1l : w.heap.size + 1 < w1.heap.size := World.block_lt_of_cell? _ _ p1a
  obtain ⟨p2a, p2b, p2c, p2d⟩ := T2x
  have p2l : w.heap.size + 1 + 1 < w1.heap.size := World.block_lt_of_cell? _ _ p2a
  go_wp2_with fail
  refine (numbers3 a b c d g h true _ HV.out a0 a1 b0 b1 c0 c1 d0 d1 g0 g1 h0 h1 _).mono ?_
  rintro e w2 ⟨rfl, hb2⟩
  have hz2 := hb2.size
  have p0t := (At2.mk p0a p0b p0c p0d).below hb2 (by omega)
  have p1t := (At2.mk p1a p1b p1c p1d).below hb2 (by omega)
  have p2t := (At2.mk p2a p2b p2c p2d).below hb2 (by omega)
  have HB2 : Below w.heap.size w w2 := HB1.trans (hb2.mono hq1)
  have hq2 := HB2.size
  clear hb2 HB1 p0a p0b p0c p0d p0l p1a p1b p1c p1d p1l p2a p2b p2c p2d p2l
  obtain ⟨p0a, p0b, p0c, p0d⟩ := p0t
  have p0l : w.heap.size < w2.heap.size := World.block_lt_of_cell? _ _ p0a
  obtain ⟨p1a, p1b, p1c, p1d⟩ := p1t
  have p1l : w.heap.size + 1 < w2.heap.size := World.block_lt_of_cell? _ _ p1a
  obtain ⟨p2a, p2b, p2c, p2d⟩ := p2t
  have p2l : w.heap.size + 1 + 1 < w2.heap.size := World.block_lt_of_cell? _ _ p2a
  go_wp2_with fail
  refine (K1.out _).mono ?_
  rintro e w3 ⟨rfl, hb3⟩
  have hz3 := hb3.size
  have p0t := (At2.mk p0a p0b p0c p0d).below hb3 (by omega)
  have p1t := (At2.mk p1a p1b p1c p1d).below hb3 (by omega)
  have p2t := (At2.mk p2a p2b p2c p2d).below hb3 (by omega)
  have HB3 : Below w.heap.size w w3 := HB2.trans (hb3.mono hq2)
  have hq3 := HB3.size
  clear hb3 HB2 p0a p0b p0c p0d p0l p1a p1b p1c p1d p1l p2a p2b p2c p2d p2l
  obtain ⟨p0a, p0b, p0c, p0d⟩ := p0t
  have p0l : w.heap.size < w3.heap.size := World.block_lt_of_cell? _ _ p0a
  obtain ⟨p1a, p1b, p1c, p1d⟩ := p1t
  have p1l : w.heap.size + 1 < w3.heap.size := World.block_lt_of_cell? _ _ p1a
  obtain ⟨p2a, p2b, p2c, p2d⟩ := p2t
  have p2l : w.heap.size + 1 + 1 < w3.heap.size := World.block_lt_of_cell? _ _ p2a
  go_wp2_with fail
  refine (K2.out _).mono ?_
  rintro e w4 ⟨rfl, hb4⟩
  have hz4 := hb4.size
  simp only [World.size_alloc] at hz4
  have p0t := ((At2.mk p0a p0b p0c p0d).alloc (by omega) _).below hb4 (by simp; omega)
  have p1t := ((At2.mk p1a p1b p1c p1d).alloc (by omega) _).below hb4 (by simp; omega)
  have p2t := ((At2.mk p2a p2b p2c p2d).alloc (by omega) _).below hb4 (by simp; omega)
  have pt := (At2.new w3 (.int .i64 p1) (.int .i64 p2) 23).below hb4 (by simp)
  have HB4 : Below w.heap.size w w4 := (HB3.alloc hq3 _).trans (hb4.mono (by simp; omega))
  have hq4 := HB4.size
  clear hb4 HB3 p0a p0b p0c p0d p0l p1a p1b p1c p1d p1l p2a p2b p2c p2d p2l
  obtain ⟨p0a, p0b, p0c, p0d⟩ := p0t
  have p0l : w.heap.size < w4.heap.size := World.block_lt_of_cell? _ _ p0a
  obtain ⟨p1a, p1b, p1c, p1d⟩ := p1t
  have p1l : w.heap.size + 1 < w4.heap.size := World.block_lt_of_cell? _ _ p1a
  obtain ⟨p2a, p2b, p2c, p2d⟩ := p2t
  have p2l : w.heap.size + 1 + 1 < w4.heap.size := World.block_lt_of_cell? _ _ p2a
  obtain ⟨pa, pb, pc, pd⟩ := pt
  have pl : w3.heap.size < w4.heap.size := World.block_lt_of_cell? _ _ pa
  go_wp2_with fail
  refine (K3.out _).mono ?_
  rintro e w5 ⟨rfl, hb5⟩
  have hz5 := hb5.size
  simp only [World.size_alloc] at hz5
  have p0t := ((At2.mk p0a p0b p0c p0d).alloc (by omega) _).below hb5 (by simp; omega)
  have p1t := ((At2.mk p1a p1b p1c p1d).alloc (by omega) _).below hb5 (by simp; omega)
  have p2t := ((At2.mk p2a p2b p2c p2d).alloc (by omega) _).below hb5 (by simp; omega)
  have pt := ((At2.mk pa pb pc pd).alloc (by omega) _).below hb5 (by simp; omega)
  have qt := (At2.new w4 (.int .i64 p1) (.int .i64 p2) 23).below hb5 (by simp)
  have HB5 : Below w.heap.size w w5 := (HB4.alloc hq4 _).trans (hb5.mono (by simp; omega))
  have hq5 := HB5.size
  clear hb5 HB4 p0a p0b p0c p0d p0l p1a p1b p1c p1d p1l p2a p2b p2c p2d p2l pa pb pc pd pl
  obtain ⟨p0a, p0b, p0c, p0d⟩ := p0t
  have p0l : w.heap.size < w5.heap.size := World.block_lt_of_cell? _ _ p0a
  obtain ⟨p1a, p1b, p1c, p1d⟩ := p1t
  have p1l : w.heap.size + 1 < w5.heap.size := World.block_lt_of_cell? _ _ p1a
  obtain ⟨p2a, p2b, p2c, p2d⟩ := p2t
  have p2l : w.heap.size + 1 + 1 < w5.heap.size := World.block_lt_of_cell? _ _ p2a
  obtain ⟨pa, pb, pc, pd⟩ := pt
  have pl : w3.heap.size < w5.heap.size := World.block_lt_of_cell? _ _ pa
  obtain ⟨qa, qb, qc, qd⟩ := qt
  have ql : w4.heap.size < w5.heap.size := World.block_lt_of_cell? _ _ qa
  go_wp2_with fail
  refine (K4.out _).mono ?_
  rintro e w6 ⟨rfl, hb6⟩
  have hz6 := hb6.size
  simp only [World.size_alloc] at hz6
  have p0t := ((At2.mk p0a p0b p0c p0d).alloc (by omega) _).below hb6 (by simp; omega)
  have p1t := ((At2.mk p1a p1b p1c p1d).alloc (by omega) _).below hb6 (by simp; omega)
  have p2t := ((At2.mk p2a p2b p2c p2d).alloc (by omega) _).below hb6 (by simp; omega)
  have pt := ((At2.mk pa pb pc pd).alloc (by omega) _).below hb6 (by simp; omega)
  have kt := (At2.new w5 (.int .i64 a) (.int .i64 b) 23).below hb6 (by simp)
  have HB6 : Below w.heap.size w w6 := (HB5.alloc hq5 _).trans (hb6.mono (by simp; omega))
  have hq6 := HB6.size
  clear hb6 HB5 p0a p0b p0c p0d p0l p1a p1b p1c p1d p1l p2a p2b p2c p2d p2l pa pb pc pd pl qa qb qc qd ql
  obtain ⟨p0a, p0b, p0c, p0d⟩ := p0t
  have p0l : w.heap.size < w6.heap.size := World.block_lt_of_cell? _ _ p0a
  obtain ⟨p1a, p1b, p1c, p1d⟩ := p1t
  have p1l : w.heap.size + 1 < w6.heap.size := World.block_lt_of_cell? _ _ p1a
  obtain ⟨p2a, p2b, p2c, p2d⟩ := p2t
  have p2l : w.heap.size + 1 + 1 < w6.heap.size := World.block_lt_of_cell? _ _ p2a
  obtain ⟨pa, pb, pc, pd⟩ := pt
  have pl : w3.heap.size < w6.heap.size := World.block_lt_of_cell? _ _ pa
  obtain ⟨ka, kb, kc, kd⟩ := kt
  have kl : w5.heap.size < w6.heap.size := World.block_lt_of_cell? _ _ ka
  go_wp2_with fail
  refine (K5.out _).mono ?_
  rintro e w7 ⟨rfl, hb7⟩
  have hz7 := hb7.size
  simp only [World.size_alloc] at hz7
  have p0t := ((At2.mk p0a p0b p0c p0d).alloc (by omega) _).below hb7 (by simp; omega)
  have p1t := ((At2.mk p1a p1b p1c p1d).alloc (by omega) _).below hb7 (by simp; omega)
  have p2t := ((At2.mk p2a p2b p2c p2d).alloc (by omega) _).below hb7 (by simp; omega)
  have pt := ((At2.mk pa pb pc pd).alloc (by omega) _).below hb7 (by simp; omega)
  have rt := (At2.new w6 (.int .i64 r1) (.int .i64 r2) 23).below hb7 (by simp)
  have HB7 : Below w.heap.size w w7 := (HB6.alloc hq6 _).trans (hb7.mono (by simp; omega))
  have hq7 := HB7.size
  clear hb7 HB6 p0a p0b p0c p0d p0l p1a p1b p1c p1d p1l p2a p2b p2c p2d p2l pa pb pc pd pl ka kb kc kd kl
  obtain ⟨p0a, p0b, p0c, p0d⟩ := p0t
  have p0l : w.heap.size < w7.heap.size := World.block_lt_of_cell? _ _ p0a
  obtain ⟨p1a, p1b, p1c, p1d⟩ := p1t
  have p1l : w.heap.size + 1 < w7.heap.size := World.block_lt_of_cell? _ _ p1a
  obtain ⟨p2a, p2b, p2c, p2d⟩ := p2t
  have p2l : w.heap.size + 1 + 1 < w7.heap.size := World.block_lt_of_cell? _ _ p2a
  obtain ⟨pa, pb, pc, pd⟩ := pt
  have pl : w3.heap.size < w7.heap.size := World.block_lt_of_cell? _ _ pa
  obtain ⟨ra, rb, rc, rd⟩ := rt
  have rl : w6.heap.size < w7.heap.size := World.block_lt_of_cell? _ _ ra
  go_wp2_with fail
  refine (K6.out _).mono ?_
  rintro e w8 ⟨rfl, hb8⟩
  have hz8 := hb8.size
  simp only [World.size_alloc] at hz8
  have p0t := ((At2.mk p0a p0b p0c p0d).alloc (by omega) _).below hb8 (by simp; omega)
  have p1t := ((At2.mk p1a p1b p1c p1d).alloc (by omega) _).below hb8 (by simp; omega)
  have p2t := ((At2.mk p2a p2b p2c p2d).alloc (by omega) _).below hb8 (by simp; omega)
  have pt := ((At2.mk pa pb pc pd).alloc (by omega) _).below hb8 (by simp; omega)
  have rt := ((At2.mk ra rb rc rd).alloc (by omega) _).below hb8 (by simp; omega)
  have ut := (At2.new w7 (.int .i64 u1) (.int .i64 u2) 23).below hb8 (by simp)
  have HB8 : Below w.heap.size w w8 := (HB7.alloc hq7 _).trans (hb8.mono (by simp; omega))
  have hq8 := HB8.size
  clear hb8 HB7 p0a p0b p0c p0d p0l p1a p1b p1c p1d p1l p2a p2b p2c p2d p2l pa pb pc pd pl ra rb rc rd rl
  obtain ⟨p0a, p0b, p0c, p0d⟩ := p0t
  have p0l : w.heap.size < w8.heap.size := World.block_lt_of_cell? _ _ p0a
  obtain ⟨p1a, p1b, p1c, p1d⟩ := p1t
  have p1l : w.heap.size + 1 < w8.heap.size := World.block_lt_of_cell? _ _ p1a
  obtain ⟨p2a, p2b, p2c, p2d⟩ := p2t
  have p2l : w.heap.size + 1 + 1 < w8.heap.size := World.block_lt_of_cell? _ _ p2a
  obtain ⟨pa, pb, pc, pd⟩ := pt
  have pl : w3.heap.size < w8.heap.size := World.block_lt_of_cell? _ _ pa
  obtain ⟨ra, rb, rc, rd⟩ := rt
  have rl : w6.heap.size < w8.heap.size := World.block_lt_of_cell? _ _ ra
  obtain ⟨ua, ub, uc, ud⟩ := ut
  have ul : w7.heap.size < w8.heap.size := World.block_lt_of_cell? _ _ ua
  go_wp2_with fail
  refine (K7.out _).mono ?_
  rintro e w9 ⟨rfl, hb9⟩
  have hz9 := hb9.size
  simp only [World.size_alloc] at hz9
  have p0t := ((At2.mk p0a p0b p0c p0d).alloc (by omega) _).below hb9 (by simp; omega)
  have p1t := ((At2.mk p1a p1b p1c p1d).alloc (by omega) _).below hb9 (by simp; omega)
  have p2t := ((At2.mk p2a p2b p2c p2d).alloc (by omega) _).below hb9 (by simp; omega)
  have pt := ((At2.mk pa pb pc pd).alloc (by omega) _).below hb9 (by simp; omega)
  have rt := ((At2.mk ra rb rc rd).alloc (by omega) _).below hb9 (by simp; omega)
  have ut := ((At2.mk ua ub uc ud).alloc (by omega) _).below hb9 (by simp; omega)
  have vt := (At2.new w8 (.int .i64 v1) (.int .i64 v2) 23).below hb9 (by simp)
  have HB9 : Below w.heap.size w w9 := (HB8.alloc hq8 _).trans (hb9.mono (by simp; omega))
  have hq9 := HB9.size
  clear hb9 HB8 p0a p0b p0c p0d p0l p1a p1b p1c p1d p1l p2a p2b p2c p2d p2l pa pb pc pd pl ra rb rc rd rl ua ub uc ud ul
  obtain ⟨p0a, p0b, p0c, p0d⟩ := p0t
  have p0l : w.heap.size < w9.heap.size := World.block_lt_of_cell? _ _ p0a
  obtain ⟨p1a, p1b, p1c, p1d⟩ := p1t
  have p1l : w.heap.size + 1 < w9.heap.size := World.block_lt_of_cell? _ _ p1a
  obtain ⟨p2a, p2b, p2c, p2d⟩ := p2t
  have p2l : w.heap.size + 1 + 1 < w9.heap.size := World.block_lt_of_cell? _ _ p2a
  obtain ⟨pa, pb, pc, pd⟩ := pt
  have pl : w3.heap.size < w9.heap.size := World.block_lt_of_cell? _ _ pa
  obtain ⟨ra, rb, rc, rd⟩ := rt
  have rl : w6.heap.size < w9.heap.size := World.block_lt_of_cell? _ _ ra
  obtain ⟨ua, ub, uc, ud⟩ := ut
  have ul : w7.heap.size < w9.heap.size := World.block_lt_of_cell? _ _ ua
  obtain ⟨va, vb, vc, vd⟩ := vt
  have vl : w8.heap.size < w9.heap.size := World.block_lt_of_cell? _ _ va
  go_wp2_with fail
  refine (K8.out _).mono ?_
  rintro e w10 ⟨rfl, hb10⟩
  have hz10 := hb10.size
  simp only [World.size_setCell] at hz10
  have p0t := ((At2.mk p0a p0b p0c p0d).other (b' := w6.heap.size) (by omega) (.int .i64 R1) (.int .i64 R2)).below hb10 (by first | omega | (simp; omega))
  have p1t := ((At2.mk p1a p1b p1c p1d).other (b' := w6.heap.size) (by omega) (.int .i64 R1) (.int .i64 R2)).below hb10 (by first | omega | (simp; omega))
  have p2t := ((At2.mk p2a p2b p2c p2d).other (b' := w6.heap.size) (by omega) (.int .i64 R1) (.int .i64 R2)).below hb10 (by first | omega | (simp; omega))
  have pt := ((At2.mk pa pb pc pd).other (b' := w6.heap.size) (by omega) (.int .i64 R1) (.int .i64 R2)).below hb10 (by first | omega | (simp; omega))
  have rt := ((At2.mk ra rb rc rd).set (.int .i64 R1) (.int .i64 R2)).below hb10 (by first | omega | (simp; omega))
  have ut := ((At2.mk ua ub uc ud).other (b' := w6.heap.size) (by omega) (.int .i64 R1) (.int .i64 R2)).below hb10 (by first | omega | (simp; omega))
  have vt := ((At2.mk va vb vc vd).other (b' := w6.heap.size) (by omega) (.int .i64 R1) (.int .i64 R2)).below hb10 (by first | omega | (simp; omega))
  have HB10 : Below w.heap.size w w10 := ((HB9.setCell (p := ⟨w6.heap.size, 0, none⟩) (by first | omega | (simp; omega)) (.int .i64 R1)).setCell (p := ⟨w6.heap.size, 1, none⟩) (by first | omega | (simp; omega)) (.int .i64 R2)).trans (hb10.mono (by first | omega | (simp; omega)))
  have hq10 := HB10.size
  clear hb10 HB9 p0a p0b p0c p0d p0l p1a p1b p1c p1d p1l p2a p2b p2c p2d p2l pa pb pc pd pl ra rb rc rd rl ua ub uc ud ul va vb vc vd vl
  obtain ⟨p0a, p0b, p0c, p0d⟩ := p0t
  have p0l : w.heap.size < w10.heap.size := World.block_lt_of_cell? _ _ p0a
  obtain ⟨p1a, p1b, p1c, p1d⟩ := p1t
  have p1l : w.heap.size + 1 < w10.heap.size := World.block_lt_of_cell? _ _ p1a
  obtain ⟨p2a, p2b, p2c, p2d⟩ := p2t
  have p2l : w.heap.size + 1 + 1 < w10.heap.size := World.block_lt_of_cell? _ _ p2a
  obtain ⟨pa, pb, pc, pd⟩ := pt
  have pl : w3.heap.size < w10.heap.size := World.block_lt_of_cell? _ _ pa
  obtain ⟨ra, rb, rc, rd⟩ := rt
  have rl : w6.heap.size < w10.heap.size := World.block_lt_of_cell? _ _ ra
  obtain ⟨ua, ub, uc, ud⟩ := ut
  have ul : w7.heap.size < w10.heap.size := World.block_lt_of_cell? _ _ ua
  obtain ⟨va, vb, vc, vd⟩ := vt
  have vl : w8.heap.size < w10.heap.size := World.block_lt_of_cell? _ _ va
  go_wp2_with fail
  refine (K9.out _).mono ?_
  rintro e w11 ⟨rfl, hb11⟩
  have hz11 := hb11.size
  simp only [World.size_setCell] at hz11
  have p0t := ((At2.mk p0a p0b p0c p0d).other (b' := w7.heap.size) (by omega) (.int .i64 U1) (.int .i64 U2)).below hb11 (by first | omega | (simp; omega))
  have p1t := ((At2.mk p1a p1b p1c p1d).other (b' := w7.heap.size) (by omega) (.int .i64 U1) (.int .i64 U2)).below hb11 (by first | omega | (simp; omega))
  have p2t := ((At2.mk p2a p2b p2c p2d).other (b' := w7.heap.size) (by omega) (.int .i64 U1) (.int .i64 U2)).below hb11 (by first | omega | (simp; omega))
  have pt := ((At2.mk pa pb pc pd).other (b' := w7.heap.size) (by omega) (.int .i64 U1) (.int .i64 U2)).below hb11 (by first | omega | (simp; omega))
  have rt := ((At2.mk ra rb rc rd).other (b' := w7.heap.size) (by omega) (.int .i64 U1) (.int .i64 U2)).below hb11 (by first | omega | (simp; omega))
  have ut := ((At2.mk ua ub uc ud).set (.int .i64 U1) (.int .i64 U2)).below hb11 (by first | omega | (simp; omega))
  have vt := ((At2.mk va vb vc vd).other (b' := w7.heap.size) (by omega) (.int .i64 U1) (.int .i64 U2)).below hb11 (by first | omega | (simp; omega))
  have HB11 : Below w.heap.size w w11 := ((HB10.setCell (p := ⟨w7.heap.size, 0, none⟩) (by first | omega | (simp; omega)) (.int .i64 U1)).setCell (p := ⟨w7.heap.size, 1, none⟩) (by first | omega | (simp; omega)) (.int .i64 U2)).trans (hb11.mono (by first | omega | (simp; omega)))
  have hq11 := HB11.size
  clear hb11 HB10 p0a p0b p0c p0d p0l p1a p1b p1c p1d p1l p2a p2b p2c p2d p2l pa pb pc pd pl ra rb rc rd rl ua ub uc ud ul va vb vc vd vl
  obtain ⟨p0a, p0b, p0c, p0d⟩ := p0t
  have p0l : w.heap.size < w11.heap.size := World.block_lt_of_cell? _ _ p0a
  obtain ⟨p1a, p1b, p1c, p1d⟩ := p1t
  have p1l : w.heap.size + 1 < w11.heap.size := World.block_lt_of_cell? _ _ p1a
  obtain ⟨p2a, p2b, p2c, p2d⟩ := p2t
  have p2l : w.heap.size + 1 + 1 < w11.heap.size := World.block_lt_of_cell? _ _ p2a
  obtain ⟨pa, pb, pc, pd⟩ := pt
  have pl : w3.heap.size < w11.heap.size := World.block_lt_of_cell? _ _ pa
  obtain ⟨ra, rb, rc, rd⟩ := rt
  have rl : w6.heap.size < w11.heap.size := World.block_lt_of_cell? _ _ ra
  obtain ⟨ua, ub, uc, ud⟩ := ut
  have ul : w7.heap.size < w11.heap.size := World.block_lt_of_cell? _ _ ua
  obtain ⟨va, vb, vc, vd⟩ := vt
  have vl : w8.heap.size < w11.heap.size := World.block_lt_of_cell? _ _ va
  go_wp2_with fail
  refine (K10.out _).mono ?_
  rintro e w12 ⟨rfl, hb12⟩
  have hz12 := hb12.size
  simp only [World.size_alloc] at hz12
  have p0t := ((At2.mk p0a p0b p0c p0d).alloc (by omega) _).below hb12 (by simp; omega)
  have p1t := ((At2.mk p1a p1b p1c p1d).alloc (by omega) _).below hb12 (by simp; omega)
  have p2t := ((At2.mk p2a p2b p2c p2d).alloc (by omega) _).below hb12 (by simp; omega)
  have pt := ((At2.mk pa pb pc pd).alloc (by omega) _).below hb12 (by simp; omega)
  have rt := ((At2.mk ra rb rc rd).alloc (by omega) _).below hb12 (by simp; omega)
  have ut := ((At2.mk ua ub uc ud).alloc (by omega) _).below hb12 (by simp; omega)
  have vt := ((At2.mk va vb vc vd).alloc (by omega) _).below hb12 (by simp; omega)
  have st := (At2.new w11 (.int .i64 s1) (.int .i64 s2) 23).below hb12 (by simp)
  have HB12 : Below w.heap.size w w12 := (HB11.alloc hq11 _).trans (hb12.mono (by simp; omega))
  have hq12 := HB12.size
  clear hb12 HB11 p0a p0b p0c p0d p0l p1a p1b p1c p1d p1l p2a p2b p2c p2d p2l pa pb pc pd pl ra rb rc rd rl ua ub uc ud ul va vb vc vd vl
  obtain ⟨p0a, p0b, p0c, p0d⟩ := p0t
  have p0l : w.heap.size < w12.heap.size := World.block_lt_of_cell? _ _ p0a
  obtain ⟨p1a, p1b, p1c, p1d⟩ := p1t
  have p1l : w.heap.size + 1 < w12.heap.size := World.block_lt_of_cell? _ _ p1a
  obtain ⟨p2a, p2b, p2c, p2d⟩ := p2t
  have p2l : w.heap.size + 1 + 1 < w12.heap.size := World.block_lt_of_cell? _ _ p2a
  obtain ⟨pa, pb, pc, pd⟩ := pt
  have pl : w3.heap.size < w12.heap.size := World.block_lt_of_cell? _ _ pa
  obtain ⟨ra, rb, rc, rd⟩ := rt
  have rl : w6.heap.size < w12.heap.size := World.block_lt_of_cell? _ _ ra
  obtain ⟨ua, ub, uc, ud⟩ := ut
  have ul : w7.heap.size < w12.heap.size := World.block_lt_of_cell? _ _ ua
  obtain ⟨va, vb, vc, vd⟩ := vt
  have vl : w8.heap.size < w12.heap.size := World.block_lt_of_cell? _ _ va
  obtain ⟨sa, sb, sc, sd⟩ := st
  have sl : w11.heap.size < w12.heap.size := World.block_lt_of_cell? _ _ sa
  go_wp2
  go_ret
  exact ⟨rfl, (by repeat' (first | exact HB12 | refine Below.setCell ?_ (by first | omega | (simp; done) | (simp; omega)) _ | refine below_drewN ?_ _ | refine Below.alloc ?_ (by first | omega | (simp; done) | (simp; omega)) _))⟩

set_option maxRecDepth 100000 in
set_option maxHeartbeats 2000000 in
theorem products_nil (a b c d g h p1 p2 r1 r2 u1 u2 v1 v2 ie ke R1 R2 U1 U2 s1 s2 V1 V2 Le Ke : Int) (w : World) (hE : Env w) (hv : (vld a b && vld c d && vld g h) = true)
    (a0 : -9223372036854775808 ≤ a) (a1 : a ≤ 9223372036854775807) (b0 : -9223372036854775808 ≤ b) (b1 : b ≤ 9223372036854775807)
    (c0 : -9223372036854775808 ≤ c) (c1 : c ≤ 9223372036854775807) (d0 : -9223372036854775808 ≤ d) (d1 : d ≤ 9223372036854775807)
    (g0 : -9223372036854775808 ≤ g) (g1 : g ≤ 9223372036854775807) (h0 : -9223372036854775808 ≤ h) (h1 : h ≤ 9223372036854775807)
    (k1 : Gives 18 #[.agg #[.int .i64 a, .int .i64 b], .agg #[.int .i64 c, .int .i64 d]] (.tuple #[.agg #[.int .i64 p1, .int .i64 p2], .int .i64 0]))
    (k2 : Gives 18 #[.agg #[.int .i64 c, .int .i64 d], .agg #[.int .i64 a, .int .i64 b]] (.tuple #[.agg #[.int .i64 p1, .int .i64 p2], .int .i64 0]))
    (k3 : Gives 20 #[.agg #[.int .i64 p1, .int .i64 p2], .agg #[.int .i64 c, .int .i64 d]] (.tuple #[.agg #[.int .i64 a, .int .i64 b], .int .i64 0]))
    (k4 : Gives 18 #[.agg #[.int .i64 c, .int .i64 d], .agg #[.int .i64 g, .int .i64 h]] (.tuple #[.agg #[.int .i64 r1, .int .i64 r2], .int .i64 0]))
    (k5 : Gives 18 #[.agg #[.int .i64 p1, .int .i64 p2], .agg #[.int .i64 g, .int .i64 h]] (.tuple #[.agg #[.int .i64 u1, .int .i64 u2], .int .i64 ie]))
    (k6 : Gives 18 #[.agg #[.int .i64 a, .int .i64 b], .agg #[.int .i64 r1, .int .i64 r2]] (.tuple #[.agg #[.int .i64 v1, .int .i64 v2], .int .i64 ke]))
    (k7 : Gives 14 #[.agg #[.int .i64 c, .int .i64 d], .agg #[.int .i64 g, .int .i64 h]] (.tuple #[.agg #[.int .i64 R1, .int .i64 R2], .int .i64 0]))
    (k8 : Gives 18 #[.agg #[.int .i64 a, .int .i64 b], .agg #[.int .i64 R1, .int .i64 R2]] (.tuple #[.agg #[.int .i64 U1, .int .i64 U2], .int .i64 0]))
    (k9 : Gives 18 #[.agg #[.int .i64 a, .int .i64 b], .agg #[.int .i64 g, .int .i64 h]] (.tuple #[.agg #[.int .i64 s1, .int .i64 s2], .int .i64 Le]))
    (k10 : Gives 14 #[.agg #[.int .i64 p1, .int .i64 p2], .agg #[.int .i64 s1, .int .i64 s2]] (.tuple #[.agg #[.int .i64 V1, .int .i64 V2], .int .i64 Ke]))
    (hc : ¬ c = 0)  (hb1 : ¬ ie = 0) (hb2 : ¬ Le = 0) :
    Calls Tryd.prog 6 #[.agg #[.int .i64 a, .int .i64 b], .agg #[.int .i64 c, .int .i64 d], .agg #[.int .i64 g, .int .i64 h]] w fun e w' =>
      e = .returned (.bool true) ∧ Below w.heap.size w w' := by
  have HE := Lib.hid hE
  have HV := Lib.hid hv
  have K1 := Lib.hid k1
  have K2 := Lib.hid k2
  have K3 := Lib.hid k3
  have K4 := Lib.hid k4
  have K5 := Lib.hid k5
  have K6 := Lib.hid k6
  have K7 := Lib.hid k7
  have K8 := Lib.hid k8
  have K9 := Lib.hid k9
  have K10 := Lib.hid k10
  clear hE hv k1 k2 k3 k4 k5 k6 k7 k8 k9 k10
  have f0 : (c == 0) = false := by simp; exact hc
  have f00 : (c != 0) = true := by simp; exact hc
  have f1 : (ie != 0) = true := by simp; exact hb1
  have f11 : (ie == 0) = false := by simp; exact hb1
  have f2 : (Le != 0) = true := by simp; exact hb2
  have f22 : (Le == 0) = false := by simp; exact hb2
  go_enter Tryd.func6, Tryd.ntmps6
  go_wp2_with fail
  refine (head_any _ (((HE.out.below ((Below.refl _ _).alloc (Nat.le_refl _) _)).below ((Below.refl _ _).alloc (Nat.le_refl _) _)).below ((Below.refl _ _).alloc (Nat.le_refl _) _))).mono ?_
  rintro e w1 ⟨rfl, hb1⟩
  have hz1 := hb1.size
  simp only [World.size_alloc] at hz1
  have T0x : At2 w1 (w.heap.size) (.int .i64 a) (.int .i64 b) := by
    have := (((At2.new w (.int .i64 a) (.int .i64 b) 23).alloc (by first | (simp; done) | (simp; omega)) (.cells #[.int .i64 c, .int .i64 d] 23)).alloc (by first | (simp; done) | (simp; omega)) (.cells #[.int .i64 g, .int .i64 h] 23)).below hb1 (by first | (simp; done) | (simp; omega))
    simpa using this
  have T1x : At2 w1 (w.heap.size + 1) (.int .i64 c) (.int .i64 d) := by
    have := ((At2.new (w.alloc (.cells #[.int .i64 a, .int .i64 b] 23)) (.int .i64 c) (.int .i64 d) 23).alloc (by first | (simp; done) | (simp; omega)) (.cells #[.int .i64 g, .int .i64 h] 23)).below hb1 (by first | (simp; done) | (simp; omega))
    simpa using this
  have T2x : At2 w1 (w.heap.size + 1 + 1) (.int .i64 g) (.int .i64 h) := by
    have := (At2.new ((w.alloc (.cells #[.int .i64 a, .int .i64 b] 23)).alloc (.cells #[.int .i64 c, .int .i64 d] 23)) (.int .i64 g) (.int .i64 h) 23).below hb1 (by first | (simp; done) | (simp; omega))
    simpa using this
  have HB1 : Below w.heap.size w w1 := ((((Below.refl _ _).alloc (by first | (exact Nat.le_refl _) | (simp; done) | (simp; omega)) _).alloc (by first | (exact Nat.le_refl _) | (simp; done) | (simp; omega)) _).alloc (by first | (exact Nat.le_refl _) | (simp; done) | (simp; omega)) _).trans (hb1.mono (by simp; omega))
  have hq1 := HB1.size
  clear hb1
  obtain ⟨p0a, p0b, p0c, p0d⟩ := T0x
  have p0l : w.heap.size < w1.heap.size := World.block_lt_of_cell? _ _ p0a
  obtain ⟨p1a, p1b, p1c, p1d⟩ := T1x
  have p1l : w.heap.size + 1 < w1.heap.size := World.block_lt_of_cell? _ _ p1a
  obtain ⟨p2a, p2b, p2c, p2d⟩ := T2x
  have p2l : w.heap.size + 1 + 1 < w1.heap.size := World.block_lt_of_cell? _ _ p2a
  go_wp2_with fail
  refine (numbers3 a b c d g h true _ HV.out a0 a1 b0 b1 c0 c1 d0 d1 g0 g1 h0 h1 _).mono ?_
  rintro e w2 ⟨rfl, hb2⟩
  have hz2 := hb2.size
  have p0t := (At2.mk p0a p0b p0c p0d).below hb2 (by omega)
  have p1t := (At2.mk p1a p1b p1c p1d).below hb2 (by omega)
  have p2t := (At2.mk p2a p2b p2c p2d).below hb2 (by omega)
  have HB2 : Below w.heap.size w w2 := HB1.trans (hb2.mono hq1)
  have hq2 := HB2.size
  clear hb2 HB1 p0a p0b p0c p0d p0l p1a p1b p1c p1d p1l p2a p2b p2c p2d p2l
  obtain ⟨p0a, p0b, p0c, p0d⟩ := p0t
  have p0l : w.heap.size < w2.heap.size := World.block_lt_of_cell? _ _ p0a
  obtain ⟨p1a, p1b, p1c, p1d⟩ := p1t
  have p1l : w.heap.size + 1 < w2.heap.size := World.block_lt_of_cell? _ _ p1a
  obtain ⟨p2a, p2b, p2c, p2d⟩ := p2t
  have p2l : w.heap.size + 1 + 1 < w2.heap.size := World.block_lt_of_cell? _ _ p2a
  go_wp2_with fail
  refine (K1.out _).mono ?_
  rintro e w3 ⟨rfl, hb3⟩
  have hz3 := hb3.size
  have p0t := (At2.mk p0a p0b p0c p0d).below hb3 (by omega)
  have p1t := (At2.mk p1a p1b p1c p1d).below hb3 (by omega)
  have p2t := (At2.mk p2a p2b p2c p2d).below hb3 (by omega)
  have HB3 : Below w.heap.size w w3 := HB2.trans (hb3.mono hq2)
  have hq3 := HB3.size
  clear hb3 HB2 p0a p0b p0c p0d p0l p1a p1b p1c p1d p1l p2a p2b p2c p2d p2l
  obtain ⟨p0a, p0b, p0c, p0d⟩ := p0t
  have p0l : w.heap.size < w3.heap.size := World.block_lt_of_cell? _ _ p0a
  obtain ⟨p1a, p1b, p1c, p1d⟩ := p1t
  have p1l : w.heap.size + 1 < w3.heap.size := World.block_lt_of_cell? _ _ p1a
  obtain ⟨p2a, p2b, p2c, p2d⟩ := p2t
  have p2l : w.heap.size + 1 + 1 < w3.heap.size := World.block_lt_of_cell? _ _ p2a
  go_wp2_with fail
  refine (K2.out _).mono ?_
  rintro e w4 ⟨rfl, hb4⟩
  have hz4 := hb4.size
  simp only [World.size_alloc] at hz4
  have p0t := ((At2.mk p0a p0b p0c p0d).alloc (by omega) _).below hb4 (by simp; omega)
  have p1t := ((At2.mk p1a p1b p1c p1d).alloc (by omega) _).below hb4 (by simp; omega)
  have p2t := ((At2.mk p2a p2b p2c p2d).alloc (by omega) _).below hb4 (by simp; omega)
  have pt := (At2.new w3 (.int .i64 p1) (.int .i64 p2) 23).below hb4 (by simp)
  have HB4 : Below w.heap.size w w4 := (HB3.alloc hq3 _).trans (hb4.mono (by simp; omega))
  have hq4 := HB4.size
  clear hb4 HB3 p0a p0b p0c p0d p0l p1a p1b p1c p1d p1l p2a p2b p2c p2d p2l
  obtain ⟨p0a, p0b, p0c, p0d⟩ := p0t
  have p0l : w.heap.size < w4.heap.size := World.block_lt_of_cell? _ _ p0a
  obtain ⟨p1a, p1b, p1c, p1d⟩ := p1t
  have p1l : w.heap.size + 1 < w4.heap.size := World.block_lt_of_cell? _ _ p1a
  obtain ⟨p2a, p2b, p2c, p2d⟩ := p2t
  have p2l : w.heap.size + 1 + 1 < w4.heap.size := World.block_lt_of_cell? _ _ p2a
  obtain ⟨pa, pb, pc, pd⟩ := pt
  have pl : w3.heap.size < w4.heap.size := World.block_lt_of_cell? _ _ pa
  go_wp2_with fail
  refine (K3.out _).mono ?_
  rintro e w5 ⟨rfl, hb5⟩
  have hz5 := hb5.size
  simp only [World.size_alloc] at hz5
  have p0t := ((At2.mk p0a p0b p0c p0d).alloc (by omega) _).below hb5 (by simp; omega)
  have p1t := ((At2.mk p1a p1b p1c p1d).alloc (by omega) _).below hb5 (by simp; omega)
  have p2t := ((At2.mk p2a p2b p2c p2d).alloc (by omega) _).below hb5 (by simp; omega)
  have pt := ((At2.mk pa pb pc pd).alloc (by omega) _).below hb5 (by simp; omega)
  have qt := (At2.new w4 (.int .i64 p1) (.int .i64 p2) 23).below hb5 (by simp)
  have HB5 : Below w.heap.size w w5 := (HB4.alloc hq4 _).trans (hb5.mono (by simp; omega))
  have hq5 := HB5.size
  clear hb5 HB4 p0a p0b p0c p0d p0l p1a p1b p1c p1d p1l p2a p2b p2c p2d p2l pa pb pc pd pl
  obtain ⟨p0a, p0b, p0c, p0d⟩ := p0t
  have p0l : w.heap.size < w5.heap.size := World.block_lt_of_cell? _ _ p0a
  obtain ⟨p1a, p1b, p1c, p1d⟩ := p1t
  have p1l : w.heap.size + 1 < w5.heap.size := World.block_lt_of_cell? _ _ p1a
  obtain ⟨p2a, p2b, p2c, p2d⟩ := p2t
  have p2l : w.heap.size + 1 + 1 < w5.heap.size := World.block_lt_of_cell? _ _ p2a
  obtain ⟨pa, pb, pc, pd⟩ := pt
  have pl : w3.heap.size < w5.heap.size := World.block_lt_of_cell? _ _ pa
  obtain ⟨qa, qb, qc, qd⟩ := qt
  have ql : w4.heap.size < w5.heap.size := World.block_lt_of_cell? _ _ qa
  go_wp2_with fail
  refine (K4.out _).mono ?_
  rintro e w6 ⟨rfl, hb6⟩
  have hz6 := hb6.size
  simp only [World.size_alloc] at hz6
  have p0t := ((At2.mk p0a p0b p0c p0d).alloc (by omega) _).below hb6 (by simp; omega)
  have p1t := ((At2.mk p1a p1b p1c p1d).alloc (by omega) _).below hb6 (by simp; omega)
  have p2t := ((At2.mk p2a p2b p2c p2d).alloc (by omega) _).below hb6 (by simp; omega)
  have pt := ((At2.mk pa pb pc pd).alloc (by omega) _).below hb6 (by simp; omega)
  have kt := (At2.new w5 (.int .i64 a) (.int .i64 b) 23).below hb6 (by simp)
  have HB6 : Below w.heap.size w w6 := (HB5.alloc hq5 _).trans (hb6.mono (by simp; omega))
  have hq6 := HB6.size
  clear hb6 HB5 p0a p0b p0c p0d p0l p1a p1b p1c p1d p1l p2a p2b p2c p2d p2l pa pb pc pd pl qa qb qc qd ql
  obtain ⟨p0a, p0b, p0c, p0d⟩ := p0t
  have p0l : w.heap.size < w6.heap.size := World.block_lt_of_cell? _ _ p0a
  obtain ⟨p1a, p1b, p1c, p1d⟩ := p1t
  have p1l : w.heap.size + 1 < w6.heap.size := World.block_lt_of_cell? _ _ p1a
  obtain ⟨p2a, p2b, p2c, p2d⟩ := p2t
  have p2l : w.heap.size + 1 + 1 < w6.heap.size := World.block_lt_of_cell? _ _ p2a
  obtain ⟨pa, pb, pc, pd⟩ := pt
  have pl : w3.heap.size < w6.heap.size := World.block_lt_of_cell? _ _ pa
  obtain ⟨ka, kb, kc, kd⟩ := kt
  have kl : w5.heap.size < w6.heap.size := World.block_lt_of_cell? _ _ ka
  go_wp2_with fail
  refine (K5.out _).mono ?_
  rintro e w7 ⟨rfl, hb7⟩
  have hz7 := hb7.size
  simp only [World.size_alloc] at hz7
  have p0t := ((At2.mk p0a p0b p0c p0d).alloc (by omega) _).below hb7 (by simp; omega)
  have p1t := ((At2.mk p1a p1b p1c p1d).alloc (by omega) _).below hb7 (by simp; omega)
  have p2t := ((At2.mk p2a p2b p2c p2d).alloc (by omega) _).below hb7 (by simp; omega)
  have pt := ((At2.mk pa pb pc pd).alloc (by omega) _).below hb7 (by simp; omega)
  have rt := (At2.new w6 (.int .i64 r1) (.int .i64 r2) 23).below hb7 (by simp)
  have HB7 : Below w.heap.size w w7 := (HB6.alloc hq6 _).trans (hb7.mono (by simp; omega))
  have hq7 := HB7.size
  clear hb7 HB6 p0a p0b p0c p0d p0l p1a p1b p1c p1d p1l p2a p2b p2c p2d p2l pa pb pc pd pl ka kb kc kd kl
  obtain ⟨p0a, p0b, p0c, p0d⟩ := p0t
  have p0l : w.heap.size < w7.heap.size := World.block_lt_of_cell? _ _ p0a
  obtain ⟨p1a, p1b, p1c, p1d⟩ := p1t
  have p1l : w.heap.size + 1 < w7.heap.size := World.block_lt_of_cell? _ _ p1a
  obtain ⟨p2a, p2b, p2c, p2d⟩ := p2t
  have p2l : w.heap.size + 1 + 1 < w7.heap.size := World.block_lt_of_cell? _ _ p2a
  obtain ⟨pa, pb, pc, pd⟩ := pt
  have pl : w3.heap.size < w7.heap.size := World.block_lt_of_cell? _ _ pa
  obtain ⟨ra, rb, rc, rd⟩ := rt
  have rl : w6.heap.size < w7.heap.size := World.block_lt_of_cell? _ _ ra
  go_wp2_with fail
  refine (K6.out _).mono ?_
  rintro e w8 ⟨rfl, hb8⟩
  have hz8 := hb8.size
  simp only [World.size_alloc] at hz8
  have p0t := ((At2.mk p0a p0b p0c p0d).alloc (by omega) _).below hb8 (by simp; omega)
  have p1t := ((At2.mk p1a p1b p1c p1d).alloc (by omega) _).below hb8 (by simp; omega)
  have p2t := ((At2.mk p2a p2b p2c p2d).alloc (by omega) _).below hb8 (by simp; omega)
  have pt := ((At2.mk pa pb pc pd).alloc (by omega) _).below hb8 (by simp; omega)
  have rt := ((At2.mk ra rb rc rd).alloc (by omega) _).below hb8 (by simp; omega)
  have ut := (At2.new w7 (.int .i64 u1) (.int .i64 u2) 23).below hb8 (by simp)
  have HB8 : Below w.heap.size w w8 := (HB7.alloc hq7 _).trans (hb8.mono (by simp; omega))
  have hq8 := HB8.size
  clear hb8 HB7 p0a p0b p0c p0d p0l p1a p1b p1c p1d p1l p2a p2b p2c p2d p2l pa pb pc pd pl ra rb rc rd rl
  obtain ⟨p0a, p0b, p0c, p0d⟩ := p0t
  have p0l : w.heap.size < w8.heap.size := World.block_lt_of_cell? _ _ p0a
  obtain ⟨p1a, p1b, p1c, p1d⟩ := p1t
  have p1l : w.heap.size + 1 < w8.heap.size := World.block_lt_of_cell? _ _ p1a
  obtain ⟨p2a, p2b, p2c, p2d⟩ := p2t
  have p2l : w.heap.size + 1 + 1 < w8.heap.size := World.block_lt_of_cell? _ _ p2a
  obtain ⟨pa, pb, pc, pd⟩ := pt
  have pl : w3.heap.size < w8.heap.size := World.block_lt_of_cell? _ _ pa
  obtain ⟨ra, rb, rc, rd⟩ := rt
  have rl : w6.heap.size < w8.heap.size := World.block_lt_of_cell? _ _ ra
  obtain ⟨ua, ub, uc, ud⟩ := ut
  have ul : w7.heap.size < w8.heap.size := World.block_lt_of_cell? _ _ ua
  go_wp2_with fail
  refine (K7.out _).mono ?_
  rintro e w9 ⟨rfl, hb9⟩
  have hz9 := hb9.size
  simp only [World.size_alloc] at hz9
  have p0t := ((At2.mk p0a p0b p0c p0d).alloc (by omega) _).below hb9 (by simp; omega)
  have p1t := ((At2.mk p1a p1b p1c p1d).alloc (by omega) _).below hb9 (by simp; omega)
  have p2t := ((At2.mk p2a p2b p2c p2d).alloc (by omega) _).below hb9 (by simp; omega)
  have pt := ((At2.mk pa pb pc pd).alloc (by omega) _).below hb9 (by simp; omega)
  have rt := ((At2.mk ra rb rc rd).alloc (by omega) _).below hb9 (by simp; omega)
  have ut := ((At2.mk ua ub uc ud).alloc (by omega) _).below hb9 (by simp; omega)
  have vt := (At2.new w8 (.int .i64 v1) (.int .i64 v2) 23).below hb9 (by simp)
  have HB9 : Below w.heap.size w w9 := (HB8.alloc hq8 _).trans (hb9.mono (by simp; omega))
  have hq9 := HB9.size
  clear hb9 HB8 p0a p0b p0c p0d p0l p1a p1b p1c p1d p1l p2a p2b p2c p2d p2l pa pb pc pd pl ra rb rc rd rl ua ub uc ud ul
  obtain ⟨p0a, p0b, p0c, p0d⟩ := p0t
  have p0l : w.heap.size < w9.heap.size := World.block_lt_of_cell? _ _ p0a
  obtain ⟨p1a, p1b, p1c, p1d⟩ := p1t
  have p1l : w.heap.size + 1 < w9.heap.size := World.block_lt_of_cell? _ _ p1a
  obtain ⟨p2a, p2b, p2c, p2d⟩ := p2t
  have p2l : w.heap.size + 1 + 1 < w9.heap.size := World.block_lt_of_cell? _ _ p2a
  obtain ⟨pa, pb, pc, pd⟩ := pt
  have pl : w3.heap.size < w9.heap.size := World.block_lt_of_cell? _ _ pa
  obtain ⟨ra, rb, rc, rd⟩ := rt
  have rl : w6.heap.size < w9.heap.size := World.block_lt_of_cell? _ _ ra
  obtain ⟨ua, ub, uc, ud⟩ := ut
  have ul : w7.heap.size < w9.heap.size := World.block_lt_of_cell? _ _ ua
  obtain ⟨va, vb, vc, vd⟩ := vt
  have vl : w8.heap.size < w9.heap.size := World.block_lt_of_cell? _ _ va
  go_wp2_with fail
  refine (K8.out _).mono ?_
  rintro e w10 ⟨rfl, hb10⟩
  have hz10 := hb10.size
  simp only [World.size_setCell] at hz10
  have p0t := ((At2.mk p0a p0b p0c p0d).other (b' := w6.heap.size) (by omega) (.int .i64 R1) (.int .i64 R2)).below hb10 (by first | omega | (simp; omega))
  have p1t := ((At2.mk p1a p1b p1c p1d).other (b' := w6.heap.size) (by omega) (.int .i64 R1) (.int .i64 R2)).below hb10 (by first | omega | (simp; omega))
  have p2t := ((At2.mk p2a p2b p2c p2d).other (b' := w6.heap.size) (by omega) (.int .i64 R1) (.int .i64 R2)).below hb10 (by first | omega | (simp; omega))
  have pt := ((At2.mk pa pb pc pd).other (b' := w6.heap.size) (by omega) (.int .i64 R1) (.int .i64 R2)).below hb10 (by first | omega | (simp; omega))
  have rt := ((At2.mk ra rb rc rd).set (.int .i64 R1) (.int .i64 R2)).below hb10 (by first | omega | (simp; omega))
  have ut := ((At2.mk ua ub uc ud).other (b' := w6.heap.size) (by omega) (.int .i64 R1) (.int .i64 R2)).below hb10 (by first | omega | (simp; omega))
  have vt := ((At2.mk va vb vc vd).other (b' := w6.heap.size) (by omega) (.int .i64 R1) (.int .i64 R2)).below hb10 (by first | omega | (simp; omega))
  have HB10 : Below w.heap.size w w10 := ((HB9.setCell (p := ⟨w6.heap.size, 0, none⟩) (by first | omega | (simp; omega)) (.int .i64 R1)).setCell (p := ⟨w6.heap.size, 1, none⟩) (by first | omega | (simp; omega)) (.int .i64 R2)).trans (hb10.mono (by first | omega | (simp; omega)))
  have hq10 := HB10.size
  clear hb10 HB9 p0a p0b p0c p0d p0l p1a p1b p1c p1d p1l p2a p2b p2c p2d p2l pa pb pc pd pl ra rb rc rd rl ua ub uc ud ul va vb vc vd vl
  obtain ⟨p0a, p0b, p0c, p0d⟩ := p0t
  have p0l : w.heap.size < w10.heap.size := World.block_lt_of_cell? _ _ p0a
  obtain ⟨p1a, p1b, p1c, p1d⟩ := p1t
  have p1l : w.heap.size + 1 < w10.heap.size := World.block_lt_of_cell? _ _ p1a
  obtain ⟨p2a, p2b, p2c, p2d⟩ := p2t
  have p2l : w.heap.size + 1 + 1 < w10.heap.size := World.block_lt_of_cell? _ _ p2a
  obtain ⟨pa, pb, pc, pd⟩ := pt
  have pl : w3.heap.size < w10.heap.size := World.block_lt_of_cell? _ _ pa
  obtain ⟨ra, rb, rc, rd⟩ := rt
  have rl : w6.heap.size < w10.heap.size := World.block_lt_of_cell? _ _ ra
  obtain ⟨ua, ub, uc, ud⟩ := ut
  have ul : w7.heap.size < w10.heap.size := World.block_lt_of_cell? _ _ ua
  obtain ⟨va, vb, vc, vd⟩ := vt
  have vl : w8.heap.size < w10.heap.size := World.block_lt_of_cell? _ _ va
  go_wp2_with fail
  refine (K9.out _).mono ?_
  rintro e w11 ⟨rfl, hb11⟩
  have hz11 := hb11.size
  simp only [World.size_setCell] at hz11
  have p0t := ((At2.mk p0a p0b p0c p0d).other (b' := w7.heap.size) (by omega) (.int .i64 U1) (.int .i64 U2)).below hb11 (by first | omega | (simp; omega))
  have p1t := ((At2.mk p1a p1b p1c p1d).other (b' := w7.heap.size) (by omega) (.int .i64 U1) (.int .i64 U2)).below hb11 (by first | omega | (simp; omega))
  have p2t := ((At2.mk p2a p2b p2c p2d).other (b' := w7.heap.size) (by omega) (.int .i64 U1) (.int .i64 U2)).below hb11 (by first | omega | (simp; omega))
  have pt := ((At2.mk pa pb pc pd).other (b' := w7.heap.size) (by omega) (.int .i64 U1) (.int .i64 U2)).below hb11 (by first | omega | (simp; omega))
  have rt := ((At2.mk ra rb rc rd).other (b' := w7.heap.size) (by omega) (.int .i64 U1) (.int .i64 U2)).below hb11 (by first | omega | (simp; omega))
  have ut := ((At2.mk ua ub uc ud).set (.int .i64 U1) (.int .i64 U2)).below hb11 (by first | omega | (simp; omega))
  have vt := ((At2.mk va vb vc vd).other (b' := w7.heap.size) (by omega) (.int .i64 U1) (.int .i64 U2)).below hb11 (by first | omega | (simp; omega))
  have HB11 : Below w.heap.size w w11 := ((HB10.setCell (p := ⟨w7.heap.size, 0, none⟩) (by first | omega | (simp; omega)) (.int .i64 U1)).setCell (p := ⟨w7.heap.size, 1, none⟩) (by first | omega | (simp; omega)) (.int .i64 U2)).trans (hb11.mono (by first | omega | (simp; omega)))
  have hq11 := HB11.size
  clear hb11 HB10 p0a p0b p0c p0d p0l p1a p1b p1c p1d p1l p2a p2b p2c p2d p2l pa pb pc pd pl ra rb rc rd rl ua ub uc ud ul va vb vc vd vl
  obtain ⟨p0a, p0b, p0c, p0d⟩ := p0t
  have p0l : w.heap.size < w11.heap.size := World.block_lt_of_cell? _ _ p0a
  obtain ⟨p1a, p1b, p1c, p1d⟩ := p1t
  have p1l : w.heap.size + 1 < w11.heap.size := World.block_lt_of_cell? _ _ p1a
  obtain ⟨p2a, p2b, p2c, p2d⟩ := p2t
  have p2l : w.heap.size + 1 + 1 < w11.heap.size := World.block_lt_of_cell? _ _ p2a
  obtain ⟨pa, pb, pc, pd⟩ := pt
  have pl : w3.heap.size < w11.heap.size := World.block_lt_of_cell? _ _ pa
  obtain ⟨ra, rb, rc, rd⟩ := rt
  have rl : w6.heap.size < w11.heap.size := World.block_lt_of_cell? _ _ ra
  obtain ⟨ua, ub, uc, ud⟩ := ut
  have ul : w7.heap.size < w11.heap.size := World.block_lt_of_cell? _ _ ua
  obtain ⟨va, vb, vc, vd⟩ := vt
  have vl : w8.heap.size < w11.heap.size := World.block_lt_of_cell? _ _ va
  go_wp2_with fail
  refine (K10.out _).mono ?_
  rintro e w12 ⟨rfl, hb12⟩
  have hz12 := hb12.size
  simp only [World.size_alloc] at hz12
  have p0t := ((At2.mk p0a p0b p0c p0d).alloc (by omega) _).below hb12 (by simp; omega)
  have p1t := ((At2.mk p1a p1b p1c p1d).alloc (by omega) _).below hb12 (by simp; omega)
  have p2t := ((At2.mk p2a p2b p2c p2d).alloc (by omega) _).below hb12 (by simp; omega)
  have pt := ((At2.mk pa pb pc pd).alloc (by omega) _).below hb12 (by simp; omega)
  have rt := ((At2.mk ra rb rc rd).alloc (by omega) _).below hb12 (by simp; omega)
  have ut := ((At2.mk ua ub uc ud).alloc (by omega) _).below hb12 (by simp; omega)
  have vt := ((At2.mk va vb vc vd).alloc (by omega) _).below hb12 (by simp; omega)
  have st := (At2.new w11 (.int .i64 s1) (.int .i64 s2) 23).below hb12 (by simp)
  have HB12 : Below w.heap.size w w12 := (HB11.alloc hq11 _).trans (hb12.mono (by simp; omega))
  have hq12 := HB12.size
  clear hb12 HB11 p0a p0b p0c p0d p0l p1a p1b p1c p1d p1l p2a p2b p2c p2d p2l pa pb pc pd pl ra rb rc rd rl ua ub uc ud ul va vb vc vd vl
  obtain ⟨p0a, p0b, p0c, p0d⟩ := p0t
  have p0l : w.heap.size < w12.heap.size := World.block_lt_of_cell? _ _ p0a
  obtain ⟨p1a, p1b, p1c, p1d⟩ := p1t
  have p1l : w.heap.size + 1 < w12.heap.size := World.block_lt_of_cell? _ _ p1a
  obtain ⟨p2a, p2b, p2c, p2d⟩ := p2t
  have p2l : w.heap.size + 1 + 1 < w12.heap.size := World.block_lt_of_cell? _ _ p2a
  obtain ⟨pa, pb, pc, pd⟩ := pt
  have pl : w3.heap.size < w12.heap.size := World.block_lt_of_cell? _ _ pa
  obtain ⟨ra, rb, rc, rd⟩ := rt
  have rl : w6.heap.size < w12.heap.size := World.block_lt_of_cell? _ _ ra
  obtain ⟨ua, ub, uc, ud⟩ := ut
  have ul : w7.heap.size < w12.heap.size := World.block_lt_of_cell? _ _ ua
  obtain ⟨va, vb, vc, vd⟩ := vt
  have vl : w8.heap.size < w12.heap.size := World.block_lt_of_cell? _ _ va
  obtain ⟨sa, sb, sc, sd⟩ := st
  have sl : w11.heap.size < w12.heap.size := World.block_lt_of_cell? _ _ sa
  go_wp2
  go_ret
  exact ⟨rfl, (by repeat' (first | exact HB12 | refine Below.setCell ?_ (by first | omega | (simp; done) | (simp; omega)) _ | refine below_drewN ?_ _ | refine Below.alloc ?_ (by first | omega | (simp; done) | (simp; omega)) _))⟩

set_option maxRecDepth 100000 in
set_option maxHeartbeats 2000000 in
theorem products_nik (a b c d g h p1 p2 r1 r2 u1 u2 v1 v2 ie ke R1 R2 U1 U2 s1 s2 V1 V2 Ke : Int) (w : World) (hE : Env w) (hv : (vld a b && vld c d && vld g h) = true)
    (a0 : -9223372036854775808 ≤ a) (a1 : a ≤ 9223372036854775807) (b0 : -9223372036854775808 ≤ b) (b1 : b ≤ 9223372036854775807)
    (c0 : -9223372036854775808 ≤ c) (c1 : c ≤ 9223372036854775807) (d0 : -9223372036854775808 ≤ d) (d1 : d ≤ 9223372036854775807)
    (g0 : -9223372036854775808 ≤ g) (g1 : g ≤ 9223372036854775807) (h0 : -9223372036854775808 ≤ h) (h1 : h ≤ 9223372036854775807)
    (k1 : Gives 18 #[.agg #[.int .i64 a, .int .i64 b], .agg #[.int .i64 c, .int .i64 d]] (.tuple #[.agg #[.int .i64 p1, .int .i64 p2], .int .i64 0]))
    (k2 : Gives 18 #[.agg #[.int .i64 c, .int .i64 d], .agg #[.int .i64 a, .int .i64 b]] (.tuple #[.agg #[.int .i64 p1, .int .i64 p2], .int .i64 0]))
    (k3 : Gives 20 #[.agg #[.int .i64 p1, .int .i64 p2], .agg #[.int .i64 c, .int .i64 d]] (.tuple #[.agg #[.int .i64 a, .int .i64 b], .int .i64 0]))
    (k4 : Gives 18 #[.agg #[.int .i64 c, .int .i64 d], .agg #[.int .i64 g, .int .i64 h]] (.tuple #[.agg #[.int .i64 r1, .int .i64 r2], .int .i64 0]))
    (k5 : Gives 18 #[.agg #[.int .i64 p1, .int .i64 p2], .agg #[.int .i64 g, .int .i64 h]] (.tuple #[.agg #[.int .i64 u1, .int .i64 u2], .int .i64 ie]))
    (k6 : Gives 18 #[.agg #[.int .i64 a, .int .i64 b], .agg #[.int .i64 r1, .int .i64 r2]] (.tuple #[.agg #[.int .i64 v1, .int .i64 v2], .int .i64 ke]))
    (k7 : Gives 14 #[.agg #[.int .i64 c, .int .i64 d], .agg #[.int .i64 g, .int .i64 h]] (.tuple #[.agg #[.int .i64 R1, .int .i64 R2], .int .i64 0]))
    (k8 : Gives 18 #[.agg #[.int .i64 a, .int .i64 b], .agg #[.int .i64 R1, .int .i64 R2]] (.tuple #[.agg #[.int .i64 U1, .int .i64 U2], .int .i64 0]))
    (k9 : Gives 18 #[.agg #[.int .i64 a, .int .i64 b], .agg #[.int .i64 g, .int .i64 h]] (.tuple #[.agg #[.int .i64 s1, .int .i64 s2], .int .i64 0]))
    (k10 : Gives 14 #[.agg #[.int .i64 p1, .int .i64 p2], .agg #[.int .i64 s1, .int .i64 s2]] (.tuple #[.agg #[.int .i64 V1, .int .i64 V2], .int .i64 Ke]))
    (hc : ¬ c = 0)  (hb1 : ¬ ie = 0) (hb2 : ¬ Ke = 0) :
    Calls Tryd.prog 6 #[.agg #[.int .i64 a, .int .i64 b], .agg #[.int .i64 c, .int .i64 d], .agg #[.int .i64 g, .int .i64 h]] w fun e w' =>
      e = .returned (.bool true) ∧ Below w.heap.size w w' := by
  have HE := Lib.hid hE
  have HV := Lib.hid hv
  have K1 := Lib.hid k1
  have K2 := Lib.hid k2
  have K3 := Lib.hid k3
  have K4 := Lib.hid k4
  have K5 := Lib.hid k5
  have K6 := Lib.hid k6
  have K7 := Lib.hid k7
  have K8 := Lib.hid k8
  have K9 := Lib.hid k9
  have K10 := Lib.hid k10
  clear hE hv k1 k2 k3 k4 k5 k6 k7 k8 k9 k10
  have f0 : (c == 0) = false := by simp; exact hc
  have f00 : (c != 0) = true := by simp; exact hc
  have f1 : (ie != 0) = true := by simp; exact hb1
  have f11 : (ie == 0) = false := by simp; exact hb1
  have f2 : (Ke != 0) = true := by simp; exact hb2
  have f22 : (Ke == 0) = false := by simp; exact hb2
  go_enter Tryd.func6, Tryd.ntmps6
  go_wp2_with fail
  refine (head_any _ (((HE.out.below ((Below.refl _ _).alloc (Nat.le_refl _) _)).below ((Below.refl _ _).alloc (Nat.le_refl _) _)).below ((Below.refl _ _).alloc (Nat.le_refl _) _))).mono ?_
  rintro e w1 ⟨rfl, hb1⟩
  have hz1 := hb1.size
  simp only [World.size_alloc] at hz1
  have T0x : At2 w1 (w.heap.size) (.int .i64 a) (.int .i64 b) := by
    have := (((At2.new w (.int .i64 a) (.int .i64 b) 23).alloc (by first | (simp; done) | (simp; omega)) (.cells #[.int .i64 c, .int .i64 d] 23)).alloc (by first | (simp; done) | (simp; omega)) (.cells #[.int .i64 g, .int .i64 h] 23)).below hb1 (by first | (simp; done) | (simp; omega))
    simpa using this
  have T1x : At2 w1 (w.heap.size + 1) (.int .i64 c) (.int .i64 d) := by
    have := ((At2.new (w.alloc (.cells #[.int .i64 a, .int .i64 b] 23)) (.int .i64 c) (.int .i64 d) 23).alloc (by first | (simp; done) | (simp; omega)) (.cells #[.int .i64 g, .int .i64 h] 23)).below hb1 (by first | (simp; done) | (simp; omega))
    simpa using this
  have T2x : At2 w1 (w.heap.size + 1 + 1) (.int .i64 g) (.int .i64 h) := by
    have := (At2.new ((w.alloc (.cells #[.int .i64 a, .int .i64 b] 23)).alloc (.cells #[.int .i64 c, .int .i64 d] 23)) (.int .i64 g) (.int .i64 h) 23).below hb1 (by first | (simp; done) | (simp; omega))
    simpa using this
  have HB1 : Below w.heap.size w w1 := ((((Below.refl _ _).alloc (by first | (exact Nat.le_refl _) | (simp; done) | (simp; omega)) _).alloc (by first | (exact Nat.le_refl _) | (simp; done) | (simp; omega)) _).alloc (by first | (exact Nat.le_refl _) | (simp; done) | (simp; omega)) _).trans (hb1.mono (by simp; omega))
  have hq1 := HB1.size
  clear hb1
  obtain ⟨p0a, p0b, p0c, p0d⟩ := T0x
  have p0l : w.heap.size < w1.heap.size := World.block_lt_of_cell? _ _ p0a
  obtain ⟨p1a, p1b, p1c, p1d⟩ := T1x
  have p1l : w.heap.size + 1 < w1.heap.size := World.block_lt_of_cell? _ _ p1a
  obtain ⟨p2a, p2b, p2c, p2d⟩ := T2x
  have p2l : w.heap.size + 1 + 1 < w1.heap.size := World.block_lt_of_cell? _ _ p2a
  go_wp2_with fail
  refine (numbers3 a b c d g h true _ HV.out a0 a1 b0 b1 c0 c1 d0 d1 g0 g1 h0 h1 _).mono ?_
  rintro e w2 ⟨rfl, hb2⟩
  have hz2 := hb2.size
  have p0t := (At2.mk p0a p0b p0c p0d).below hb2 (by omega)
  have p1t := (At2.mk p1a p1b p1c p1d).below hb2 (by omega)
  have p2t := (At2.mk p2a p2b p2c p2d).below hb2 (by omega)
  have HB2 : Below w.heap.size w w2 := HB1.trans (hb2.mono hq1)
  have hq2 := HB2.size
  clear hb2 HB1 p0a p0b p0c p0d p0l p1a p1b p1c p1d p1l p2a p2b p2c p2d p2l
  obtain ⟨p0a, p0b, p0c, p0d⟩ := p0t
  have p0l : w.heap.size < w2.heap.size := World.block_lt_of_cell? _ _ p0a
  obtain ⟨p1a, p1b, p1c, p1d⟩ := p1t
  have p1l : w.heap.size + 1 < w2.heap.size := World.block_lt_of_cell? _ _ p1a
  obtain ⟨p2a, p2b, p2c, p2d⟩ := p2t
  have p2l : w.heap.size + 1 + 1 < w2.heap.size := World.block_lt_of_cell? _ _ p2a
  go_wp2_with fail
  refine (K1.out _).mono ?_
  rintro e w3 ⟨rfl, hb3⟩
  have hz3 := hb3.size
  have p0t := (At2.mk p0a p0b p0c p0d).below hb3 (by omega)
  have p1t := (At2.mk p1a p1b p1c p1d).below hb3 (by omega)
  have p2t := (At2.mk p2a p2b p2c p2d).below hb3 (by omega)
  have HB3 : Below w.heap.size w w3 := HB2.trans (hb3.mono hq2)
  have hq3 := HB3.size
  clear hb3 HB2 p0a p0b p0c p0d p0l p1a p1b p1c p1d p1l p2a p2b p2c p2d p2l
  obtain ⟨p0a, p0b, p0c, p0d⟩ := p0t
  have p0l : w.heap.size < w3.heap.size := World.block_lt_of_cell? _ _ p0a
  obtain ⟨p1a, p1b, p1c, p1d⟩ := p1t
  have p1l : w.heap.size + 1 < w3.heap.size := World.block_lt_of_cell? _ _ p1a
  obtain ⟨p2a, p2b, p2c, p2d⟩ := p2t
  have p2l : w.heap.size + 1 + 1 < w3.heap.size := World.block_lt_of_cell? _ _ p2a
  go_wp2_with fail
  refine (K2.out _).mono ?_
  rintro e w4 ⟨rfl, hb4⟩
  have hz4 := hb4.size
  simp only [World.size_alloc] at hz4
  have p0t := ((At2.mk p0a p0b p0c p0d).alloc (by omega) _).below hb4 (by simp; omega)
  have p1t := ((At2.mk p1a p1b p1c p1d).alloc (by omega) _).below hb4 (by simp; omega)
  have p2t := ((At2.mk p2a p2b p2c p2d).alloc (by omega) _).below hb4 (by simp; omega)
  have pt := (At2.new w3 (.int .i64 p1) (.int .i64 p2) 23).below hb4 (by simp)
  have HB4 : Below w.heap.size w w4 := (HB3.alloc hq3 _).trans (hb4.mono (by simp; omega))
  have hq4 := HB4.size
  clear hb4 HB3 p0a p0b p0c p0d p0l p1a p1b p1c p1d p1l p2a p2b p2c p2d p2l
  obtain ⟨p0a, p0b, p0c, p0d⟩ := p0t
  have p0l : w.heap.size < w4.heap.size := World.block_lt_of_cell? _ _ p0a
  obtain ⟨p1a, p1b, p1c, p1d⟩ := p1t
  have p1l : w.heap.size + 1 < w4.heap.size := World.block_lt_of_cell? _ _ p1a
  obtain ⟨p2a, p2b, p2c, p2d⟩ := p2t
  have p2l : w.heap.size + 1 + 1 < w4.heap.size := World.block_lt_of_cell? _ _ p2a
  obtain ⟨pa, pb, pc, pd⟩ := pt
  have pl : w3.heap.size < w4.heap.size := World.block_lt_of_cell? _ _ pa
  go_wp2_with fail
  refine (K3.out _).mono ?_
  rintro e w5 ⟨rfl, hb5⟩
  have hz5 := hb5.size
  simp only [World.size_alloc] at hz5
  have p0t := ((At2.mk p0a p0b p0c p0d).alloc (by omega) _).below hb5 (by simp; omega)
  have p1t := ((At2.mk p1a p1b p1c p1d).alloc (by omega) _).below hb5 (by simp; omega)
  have p2t := ((At2.mk p2a p2b p2c p2d).alloc (by omega) _).below hb5 (by simp; omega)
  have pt := ((At2.mk pa pb pc pd).alloc (by omega) _).below hb5 (by simp; omega)
  have qt := (At2.new w4 (.int .i64 p1) (.int .i64 p2) 23).below hb5 (by simp)
  have HB5 : Below w.heap.size w w5 := (HB4.alloc hq4 _).trans (hb5.mono (by simp; omega))
  have hq5 := HB5.size
  clear hb5 HB4 p0a p0b p0c p0d p0l p1a p1b p1c p1d p1l p2a p2b p2c p2d p2l pa pb pc pd pl
  obtain ⟨p0a, p0b, p0c, p0d⟩ := p0t
  have p0l : w.heap.size < w5.heap.size := World.block_lt_of_cell? _ _ p0a
  obtain ⟨p1a, p1b, p1c, p1d⟩ := p1t
  have p1l : w.heap.size + 1 < w5.heap.size := World.block_lt_of_cell? _ _ p1a
  obtain ⟨p2a, p2b, p2c, p2d⟩ := p2t
  have p2l : w.heap.size + 1 + 1 < w5.heap.size := World.block_lt_of_cell? _ _ p2a
  obtain ⟨pa, pb, pc, pd⟩ := pt
  have pl : w3.heap.size < w5.heap.size := World.block_lt_of_cell? _ _ pa
  obtain ⟨qa, qb, qc, qd⟩ := qt
  have ql : w4.heap.size < w5.heap.size := World.block_lt_of_cell? _ _ qa
  go_wp2_with fail
  refine (K4.out _).mono ?_
  rintro e w6 ⟨rfl, hb6⟩
  have hz6 := hb6.size
  simp only [World.size_alloc] at hz6
  have p0t := ((At2.mk p0a p0b p0c p0d).alloc (by omega) _).below hb6 (by simp; omega)
  have p1t := ((At2.mk p1a p1b p1c p1d).alloc (by omega) _).below hb6 (by simp; omega)
  have p2t := ((At2.mk p2a p2b p2c p2d).alloc (by omega) _).below hb6 (by simp; omega)
  have pt := ((At2.mk pa pb pc pd).alloc (by omega) _).below hb6 (by simp; omega)
  have kt := (At2.new w5 (.int .i64 a) (.int .i64 b) 23).below hb6 (by simp)
  have HB6 : Below w.heap.size w w6 := (HB5.alloc hq5 _).trans (hb6.mono (by simp; omega))
  have hq6 := HB6.size
  clear hb6 HB5 p0a p0b p0c p0d p0l p1a p1b p1c p1d p1l p2a p2b p2c p2d p2l pa pb pc pd pl qa qb qc qd ql
  obtain ⟨p0a, p0b, p0c, p0d⟩ := p0t
  have p0l : w.heap.size < w6.heap.size := World.block_lt_of_cell? _ _ p0a
  obtain ⟨p1a, p1b, p1c, p1d⟩ := p1t
  have p1l : w.heap.size + 1 < w6.heap.size := World.block_lt_of_cell? _ _ p1a
  obtain ⟨p2a, p2b, p2c, p2d⟩ := p2t
  have p2l : w.heap.size + 1 + 1 < w6.heap.size := World.block_lt_of_cell? _ _ p2a
  obtain ⟨pa, pb, pc, pd⟩ := pt
  have pl : w3.heap.size < w6.heap.size := World.block_lt_of_cell? _ _ pa
  obtain ⟨ka, kb, kc, kd⟩ := kt
  have kl : w5.heap.size < w6.heap.size := World.block_lt_of_cell? _ _ ka
  go_wp2_with fail
  refine (K5.out _).mono ?_
  rintro e w7 ⟨rfl, hb7⟩
  have hz7 := hb7.size
  simp only [World.size_alloc] at hz7
  have p0t := ((At2.mk p0a p0b p0c p0d).alloc (by omega) _).below hb7 (by simp; omega)
  have p1t := ((At2.mk p1a p1b p1c p1d).alloc (by omega) _).below hb7 (by simp; omega)
  have p2t := ((At2.mk p2a p2b p2c p2d).alloc (by omega) _).below hb7 (by simp; omega)
  have pt := ((At2.mk pa pb pc pd).alloc (by omega) _).below hb7 (by simp; omega)
  have rt := (At2.new w6 (.int .i64 r1) (.int .i64 r2) 23).below hb7 (by simp)
  have HB7 : Below w.heap.size w w7 := (HB6.alloc hq6 _).trans (hb7.mono (by simp; omega))
  have hq7 := HB7.size
  clear hb7 HB6 p0a p0b p0c p0d p0l p1a p1b p1c p1d p1l p2a p2b p2c p2d p2l pa pb pc pd pl ka kb kc kd kl
  obtain ⟨p0a, p0b, p0c, p0d⟩ := p0t
  have p0l : w.heap.size < w7.heap.size := World.block_lt_of_cell? _ _ p0a
  obtain ⟨p1a, p1b, p1c, p1d⟩ := p1t
  have p1l : w.heap.size + 1 < w7.heap.size := World.block_lt_of_cell? _ _ p1a
  obtain ⟨p2a, p2b, p2c, p2d⟩ := p2t
  have p2l : w.heap.size + 1 + 1 < w7.heap.size := World.block_lt_of_cell? _ _ p2a
  obtain ⟨pa, pb, pc, pd⟩ := pt
  have pl : w3.heap.size < w7.heap.size := World.block_lt_of_cell? _ _ pa
  obtain ⟨ra, rb, rc, rd⟩ := rt
  have rl : w6.heap.size < w7.heap.size := World.block_lt_of_cell? _ _ ra
  go_wp2_with fail
  refine (K6.out _).mono ?_
  rintro e w8 ⟨rfl, hb8⟩
  have hz8 := hb8.size
  simp only [World.size_alloc] at hz8
  have p0t := ((At2.mk p0a p0b p0c p0d).alloc (by omega) _).below hb8 (by simp; omega)
  have p1t := ((At2.mk p1a p1b p1c p1d).alloc (by omega) _).below hb8 (by simp; omega)
  have p2t := ((At2.mk p2a p2b p2c p2d).alloc (by omega) _).below hb8 (by simp; omega)
  have pt := ((At2.mk pa pb pc pd).alloc (by omega) _).below hb8 (by simp; omega)
  have rt := ((At2.mk ra rb rc rd).alloc (by omega) _).below hb8 (by simp; omega)
  have ut := (At2.new w7 (.int .i64 u1) (.int .i64 u2) 23).below hb8 (by simp)
  have HB8 : Below w.heap.size w w8 := (HB7.alloc hq7 _).trans (hb8.mono (by simp; omega))
  have hq8 := HB8.size
  clear hb8 HB7 p0a p0b p0c p0d p0l p1a p1b p1c p1d p1l p2a p2b p2c p2d p2l pa pb pc pd pl ra rb rc rd rl
  obtain ⟨p0a, p0b, p0c, p0d⟩ := p0t
  have p0l : w.heap.size < w8.heap.size := World.block_lt_of_cell? _ _ p0a
  obtain ⟨p1a, p1b, p1c, p1d⟩ := p1t
  have p1l : w.heap.size + 1 < w8.heap.size := World.block_lt_of_cell? _ _ p1a
  obtain ⟨p2a, p2b, p2c, p2d⟩ := p2t
  have p2l : w.heap.size + 1 + 1 < w8.heap.size := World.block_lt_of_cell? _ _ p2a
  obtain ⟨pa, pb, pc, pd⟩ := pt
  have pl : w3.heap.size < w8.heap.size := World.block_lt_of_cell? _ _ pa
  obtain ⟨ra, rb, rc, rd⟩ := rt
  have rl : w6.heap.size < w8.heap.size := World.block_lt_of_cell? _ _ ra
  obtain ⟨ua, ub, uc, ud⟩ := ut
  have ul : w7.heap.size < w8.heap.size := World.block_lt_of_cell? _ _ ua
  go_wp2_with fail
  refine (K7.out _).mono ?_
  rintro e w9 ⟨rfl, hb9⟩
  have hz9 := hb9.size
  simp only [World.size_alloc] at hz9
  have p0t := ((At2.mk p0a p0b p0c p0d).alloc (by omega) _).below hb9 (by simp; omega)
  have p1t := ((At2.mk p1a p1b p1c p1d).alloc (by omega) _).below hb9 (by simp; omega)
  have p2t := ((At2.mk p2a p2b p2c p2d).alloc (by omega) _).below hb9 (by simp; omega)
  have pt := ((At2.mk pa pb pc pd).alloc (by omega) _).below hb9 (by simp; omega)
  have rt := ((At2.mk ra rb rc rd).alloc (by omega) _).below hb9 (by simp; omega)
  have ut := ((At2.mk ua ub uc ud).alloc (by omega) _).below hb9 (by simp; omega)
  have vt := (At2.new w8 (.int .i64 v1) (.int .i64 v2) 23).below hb9 (by simp)
  have HB9 : Below w.heap.size w w9 := (HB8.alloc hq8 _).trans (hb9.mono (by simp; omega))
  have hq9 := HB9.size
  clear hb9 HB8 p0a p0b p0c p0d p0l p1a p1b p1c p1d p1l p2a p2b p2c p2d p2l pa pb pc pd pl ra rb rc rd rl ua ub uc ud ul
  obtain ⟨p0a, p0b, p0c, p0d⟩ := p0t
  have p0l : w.heap.size < w9.heap.size := World.block_lt_of_cell? _ _ p0a
  obtain ⟨p1a, p1b, p1c, p1d⟩ := p1t
  have p1l : w.heap.size + 1 < w9.heap.size := World.block_lt_of_cell? _ _ p1a
  obtain ⟨p2a, p2b, p2c, p2d⟩ := p2t
  have p2l : w.heap.size + 1 + 1 < w9.heap.size := World.block_lt_of_cell? _ _ p2a
  obtain ⟨pa, pb, pc, pd⟩ := pt
  have pl : w3.heap.size < w9.heap.size := World.block_lt_of_cell? _ _ pa
  obtain ⟨ra, rb, rc, rd⟩ := rt
  have rl : w6.heap.size < w9.heap.size := World.block_lt_of_cell? _ _ ra
  obtain ⟨ua, ub, uc, ud⟩ := ut
  have ul : w7.heap.size < w9.heap.size := World.block_lt_of_cell? _ _ ua
  obtain ⟨va, vb, vc, vd⟩ := vt
  have vl : w8.heap.size < w9.heap.size := World.block_lt_of_cell? _ _ va
  go_wp2_with fail
  refine (K8.out _).mono ?_
  rintro e w10 ⟨rfl, hb10⟩
  have hz10 := hb10.size
  simp only [World.size_setCell] at hz10
  have p0t := ((At2.mk p0a p0b p0c p0d).other (b' := w6.heap.size) (by omega) (.int .i64 R1) (.int .i64 R2)).below hb10 (by first | omega | (simp; omega))
  have p1t := ((At2.mk p1a p1b p1c p1d).other (b' := w6.heap.size) (by omega) (.int .i64 R1) (.int .i64 R2)).below hb10 (by first | omega | (simp; omega))
  have p2t := ((At2.mk p2a p2b p2c p2d).other (b' := w6.heap.size) (by omega) (.int .i64 R1) (.int .i64 R2)).below hb10 (by first | omega | (simp; omega))
  have pt := ((At2.mk pa pb pc pd).other (b' := w6.heap.size) (by omega) (.int .i64 R1) (.int .i64 R2)).below hb10 (by first | omega | (simp; omega))
  have rt := ((At2.mk ra rb rc rd).set (.int .i64 R1) (.int .i64 R2)).below hb10 (by first | omega | (simp; omega))
  have ut := ((At2.mk ua ub uc ud).other (b' := w6.heap.size) (by omega) (.int .i64 R1) (.int .i64 R2)).below hb10 (by first | omega | (simp; omega))
  have vt := ((At2.mk va vb vc vd).other (b' := w6.heap.size) (by omega) (.int .i64 R1) (.int .i64 R2)).below hb10 (by first | omega | (simp; omega))
  have HB10 : Below w.heap.size w w10 := ((HB9.setCell (p := ⟨w6.heap.size, 0, none⟩) (by first | omega | (simp; omega)) (.int .i64 R1)).setCell (p := ⟨w6.heap.size, 1, none⟩) (by first | omega | (simp; omega)) (.int .i64 R2)).trans (hb10.mono (by first | omega | (simp; omega)))
  have hq10 := HB10.size
  clear hb10 HB9 p0a p0b p0c p0d p0l p1a p1b p1c p1d p1l p2a p2b p2c p2d p2l pa pb pc pd pl ra rb rc rd rl ua ub uc ud ul va vb vc vd vl
  obtain ⟨p0a, p0b, p0c, p0d⟩ := p0t
  have p0l : w.heap.size < w10.heap.size := World.block_lt_of_cell? _ _ p0a
  obtain ⟨p1a, p1b, p1c, p1d⟩ := p1t
  have p1l : w.heap.size + 1 < w10.heap.size := World.block_lt_of_cell? _ _ p1a
  obtain ⟨p2a, p2b, p2c, p2d⟩ := p2t
  have p2l : w.heap.size + 1 + 1 < w10.heap.size := World.block_lt_of_cell? _ _ p2a
  obtain ⟨pa, pb, pc, pd⟩ := pt
  have pl : w3.heap.size < w10.heap.size := World.block_lt_of_cell? _ _ pa
  obtain ⟨ra, rb, rc, rd⟩ := rt
  have rl : w6.heap.size < w10.heap.size := World.block_lt_of_cell? _ _ ra
  obtain ⟨ua, ub, uc, ud⟩ := ut
  have ul : w7.heap.size < w10.heap.size := World.block_lt_of_cell? _ _ ua
  obtain ⟨va, vb, vc, vd⟩ := vt
  have vl : w8.heap.size < w10.heap.size := World.block_lt_of_cell? _ _ va
  go_wp2_with fail
  refine (K9.out _).mono ?_
  rintro e w11 ⟨rfl, hb11⟩
  have hz11 := hb11.size
  simp only [World.size_setCell] at hz11
  have p0t := ((At2.mk p0a p0b p0c p0d).other (b' := w7.heap.size) (by omega) (.int .i64 U1) (.int .i64 U2)).below hb11 (by first | omega | (simp; omega))
  have p1t := ((At2.mk p1a p1b p1c p1d).other (b' := w7.heap.size) (by omega) (.int .i64 U1) (.int .i64 U2)).below hb11 (by first | omega | (simp; omega))
  have p2t := ((At2.mk p2a p2b p2c p2d).other (b' := w7.heap.size) (by omega) (.int .i64 U1) (.int .i64 U2)).below hb11 (by first | omega | (simp; omega))
  have pt := ((At2.mk pa pb pc pd).other (b' := w7.heap.size) (by omega) (.int .i64 U1) (.int .i64 U2)).below hb11 (by first | omega | (simp; omega))
  have rt := ((At2.mk ra rb rc rd).other (b' := w7.heap.size) (by omega) (.int .i64 U1) (.int .i64 U2)).below hb11 (by first | omega | (simp; omega))
  have ut := ((At2.mk ua ub uc ud).set (.int .i64 U1) (.int .i64 U2)).below hb11 (by first | omega | (simp; omega))
  have vt := ((At2.mk va vb vc vd).other (b' := w7.heap.size) (by omega) (.int .i64 U1) (.int .i64 U2)).below hb11 (by first | omega | (simp; omega))
  have HB11 : Below w.heap.size w w11 := ((HB10.setCell (p := ⟨w7.heap.size, 0, none⟩) (by first | omega | (simp; omega)) (.int .i64 U1)).setCell (p := ⟨w7.heap.size, 1, none⟩) (by first | omega | (simp; omega)) (.int .i64 U2)).trans (hb11.mono (by first | omega | (simp; omega)))
  have hq11 := HB11.size
  clear hb11 HB10 p0a p0b p0c p0d p0l p1a p1b p1c p1d p1l p2a p2b p2c p2d p2l pa pb pc pd pl ra rb rc rd rl ua ub uc ud ul va vb vc vd vl
  obtain ⟨p0a, p0b, p0c, p0d⟩ := p0t
  have p0l : w.heap.size < w11.heap.size := World.block_lt_of_cell? _ _ p0a
  obtain ⟨p1a, p1b, p1c, p1d⟩ := p1t
  have p1l : w.heap.size + 1 < w11.heap.size := World.block_lt_of_cell? _ _ p1a
  obtain ⟨p2a, p2b, p2c, p2d⟩ := p2t
  have p2l : w.heap.size + 1 + 1 < w11.heap.size := World.block_lt_of_cell? _ _ p2a
  obtain ⟨pa, pb, pc, pd⟩ := pt
  have pl : w3.heap.size < w11.heap.size := World.block_lt_of_cell? _ _ pa
  obtain ⟨ra, rb, rc, rd⟩ := rt
  have rl : w6.heap.size < w11.heap.size := World.block_lt_of_cell? _ _ ra
  obtain ⟨ua, ub, uc, ud⟩ := ut
  have ul : w7.heap.size < w11.heap.size := World.block_lt_of_cell? _ _ ua
  obtain ⟨va, vb, vc, vd⟩ := vt
  have vl : w8.heap.size < w11.heap.size := World.block_lt_of_cell? _ _ va
  go_wp2_with fail
  refine (K10.out _).mono ?_
  rintro e w12 ⟨rfl, hb12⟩
  have hz12 := hb12.size
  simp only [World.size_alloc] at hz12
  have p0t := ((At2.mk p0a p0b p0c p0d).alloc (by omega) _).below hb12 (by simp; omega)
  have p1t := ((At2.mk p1a p1b p1c p1d).alloc (by omega) _).below hb12 (by simp; omega)
  have p2t := ((At2.mk p2a p2b p2c p2d).alloc (by omega) _).below hb12 (by simp; omega)
  have pt := ((At2.mk pa pb pc pd).alloc (by omega) _).below hb12 (by simp; omega)
  have rt := ((At2.mk ra rb rc rd).alloc (by omega) _).below hb12 (by simp; omega)
  have ut := ((At2.mk ua ub uc ud).alloc (by omega) _).below hb12 (by simp; omega)
  have vt := ((At2.mk va vb vc vd).alloc (by omega) _).below hb12 (by simp; omega)
  have st := (At2.new w11 (.int .i64 s1) (.int .i64 s2) 23).below hb12 (by simp)
  have HB12 : Below w.heap.size w w12 := (HB11.alloc hq11 _).trans (hb12.mono (by simp; omega))
  have hq12 := HB12.size
  clear hb12 HB11 p0a p0b p0c p0d p0l p1a p1b p1c p1d p1l p2a p2b p2c p2d p2l pa pb pc pd pl ra rb rc rd rl ua ub uc ud ul va vb vc vd vl
  obtain ⟨p0a, p0b, p0c, p0d⟩ := p0t
  have p0l : w.heap.size < w12.heap.size := World.block_lt_of_cell? _ _ p0a
  obtain ⟨p1a, p1b, p1c, p1d⟩ := p1t
  have p1l : w.heap.size + 1 < w12.heap.size := World.block_lt_of_cell? _ _ p1a
  obtain ⟨p2a, p2b, p2c, p2d⟩ := p2t
  have p2l : w.heap.size + 1 + 1 < w12.heap.size := World.block_lt_of_cell? _ _ p2a
  obtain ⟨pa, pb, pc, pd⟩ := pt
  have pl : w3.heap.size < w12.heap.size := World.block_lt_of_cell? _ _ pa
  obtain ⟨ra, rb, rc, rd⟩ := rt
  have rl : w6.heap.size < w12.heap.size := World.block_lt_of_cell? _ _ ra
  obtain ⟨ua, ub, uc, ud⟩ := ut
  have ul : w7.heap.size < w12.heap.size := World.block_lt_of_cell? _ _ ua
  obtain ⟨va, vb, vc, vd⟩ := vt
  have vl : w8.heap.size < w12.heap.size := World.block_lt_of_cell? _ _ va
  obtain ⟨sa, sb, sc, sd⟩ := st
  have sl : w11.heap.size < w12.heap.size := World.block_lt_of_cell? _ _ sa
  go_wp2
  go_ret
  exact ⟨rfl, (by repeat' (first | exact HB12 | refine Below.setCell ?_ (by first | omega | (simp; done) | (simp; omega)) _ | refine below_drewN ?_ _ | refine Below.alloc ?_ (by first | omega | (simp; done) | (simp; omega)) _))⟩

set_option maxRecDepth 100000 in
set_option maxHeartbeats 2000000 in
theorem products_nio (a b c d g h p1 p2 r1 r2 u1 u2 v1 v2 ie ke R1 R2 U1 U2 s1 s2 : Int) (w : World) (hE : Env w) (hv : (vld a b && vld c d && vld g h) = true)
    (a0 : -9223372036854775808 ≤ a) (a1 : a ≤ 9223372036854775807) (b0 : -9223372036854775808 ≤ b) (b1 : b ≤ 9223372036854775807)
    (c0 : -9223372036854775808 ≤ c) (c1 : c ≤ 9223372036854775807) (d0 : -9223372036854775808 ≤ d) (d1 : d ≤ 9223372036854775807)
    (g0 : -9223372036854775808 ≤ g) (g1 : g ≤ 9223372036854775807) (h0 : -9223372036854775808 ≤ h) (h1 : h ≤ 9223372036854775807)
    (k1 : Gives 18 #[.agg #[.int .i64 a, .int .i64 b], .agg #[.int .i64 c, .int .i64 d]] (.tuple #[.agg #[.int .i64 p1, .int .i64 p2], .int .i64 0]))
    (k2 : Gives 18 #[.agg #[.int .i64 c, .int .i64 d], .agg #[.int .i64 a, .int .i64 b]] (.tuple #[.agg #[.int .i64 p1, .int .i64 p2], .int .i64 0]))
    (k3 : Gives 20 #[.agg #[.int .i64 p1, .int .i64 p2], .agg #[.int .i64 c, .int .i64 d]] (.tuple #[.agg #[.int .i64 a, .int .i64 b], .int .i64 0]))
    (k4 : Gives 18 #[.agg #[.int .i64 c, .int .i64 d], .agg #[.int .i64 g, .int .i64 h]] (.tuple #[.agg #[.int .i64 r1, .int .i64 r2], .int .i64 0]))
    (k5 : Gives 18 #[.agg #[.int .i64 p1, .int .i64 p2], .agg #[.int .i64 g, .int .i64 h]] (.tuple #[.agg #[.int .i64 u1, .int .i64 u2], .int .i64 ie]))
    (k6 : Gives 18 #[.agg #[.int .i64 a, .int .i64 b], .agg #[.int .i64 r1, .int .i64 r2]] (.tuple #[.agg #[.int .i64 v1, .int .i64 v2], .int .i64 ke]))
    (k7 : Gives 14 #[.agg #[.int .i64 c, .int .i64 d], .agg #[.int .i64 g, .int .i64 h]] (.tuple #[.agg #[.int .i64 R1, .int .i64 R2], .int .i64 0]))
    (k8 : Gives 18 #[.agg #[.int .i64 a, .int .i64 b], .agg #[.int .i64 R1, .int .i64 R2]] (.tuple #[.agg #[.int .i64 U1, .int .i64 U2], .int .i64 0]))
    (k9 : Gives 18 #[.agg #[.int .i64 a, .int .i64 b], .agg #[.int .i64 g, .int .i64 h]] (.tuple #[.agg #[.int .i64 s1, .int .i64 s2], .int .i64 0]))
    (k10 : Gives 14 #[.agg #[.int .i64 p1, .int .i64 p2], .agg #[.int .i64 s1, .int .i64 s2]] (.tuple #[.agg #[.int .i64 U1, .int .i64 U2], .int .i64 0]))
    (hc : ¬ c = 0)  (hb1 : ¬ ie = 0) :
    Calls Tryd.prog 6 #[.agg #[.int .i64 a, .int .i64 b], .agg #[.int .i64 c, .int .i64 d], .agg #[.int .i64 g, .int .i64 h]] w fun e w' =>
      e = .returned (.bool true) ∧ Below w.heap.size w w' := by
  have HE := Lib.hid hE
  have HV := Lib.hid hv
  have K1 := Lib.hid k1
  have K2 := Lib.hid k2
  have K3 := Lib.hid k3
  have K4 := Lib.hid k4
  have K5 := Lib.hid k5
  have K6 := Lib.hid k6
  have K7 := Lib.hid k7
  have K8 := Lib.hid k8
  have K9 := Lib.hid k9
  have K10 := Lib.hid k10
  clear hE hv k1 k2 k3 k4 k5 k6 k7 k8 k9 k10
  have f0 : (c == 0) = false := by simp; exact hc
  have f00 : (c != 0) = true := by simp; exact hc
  have f1 : (ie != 0) = true := by simp; exact hb1
  have f11 : (ie == 0) = false := by simp; exact hb1
  go_enter Tryd.func6, Tryd.ntmps6
  go_wp2_with fail
  refine (head_any _ (((HE.out.below ((Below.refl _ _).alloc (Nat.le_refl _) _)).below ((Below.refl _ _).alloc (Nat.le_refl _) _)).below ((Below.refl _ _).alloc (Nat.le_refl _) _))).mono ?_
  rintro e w1 ⟨rfl, hb1⟩
  have hz1 := hb1.size
  simp only [World.size_alloc] at hz1
  have T0x : At2 w1 (w.heap.size) (.int .i64 a) (.int .i64 b) := by
    have := (((At2.new w (.int .i64 a) (.int .i64 b) 23).alloc (by first | (simp; done) | (simp; omega)) (.cells #[.int .i64 c, .int .i64 d] 23)).alloc (by first | (simp; done) | (simp; omega)) (.cells #[.int .i64 g, .int .i64 h] 23)).below hb1 (by first | (simp; done) | (simp; omega))
    simpa using this
  have T1x : At2 w1 (w.heap.size + 1) (.int .i64 c) (.int .i64 d) := by
    have := ((At2.new (w.alloc (.cells #[.int .i64 a, .int .i64 b] 23)) (.int .i64 c) (.int .i64 d) 23).alloc (by first | (simp; done) | (simp; omega)) (.cells #[.int .i64 g, .int .i64 h] 23)).below hb1 (by first | (simp; done) | (simp; omega))
    simpa using this
  have T2x : At2 w1 (w.heap.size + 1 + 1) (.int .i64 g) (.int .i64 h) := by
    have := (At2.new ((w.alloc (.cells #[.int .i64 a, .int .i64 b] 23)).alloc (.cells #[.int .i64 c, .int .i64 d] 23)) (.int .i64 g) (.int .i64 h) 23).below hb1 (by first | (simp; done) | (simp; omega))
    simpa using this
  have HB1 : Below w.heap.size w w1 := ((((Below.refl _ _).alloc (by first | (exact Nat.le_refl _) | (simp; done) | (simp; omega)) _).alloc (by first | (exact Nat.le_refl _) | (simp; done) | (simp; omega)) _).alloc (by first | (exact Nat.le_refl _) | (simp; done) | (simp; omega)) _).trans (hb1.mono (by simp; omega))
  have hq1 := HB1.size
  clear hb1
  obtain ⟨p0a, p0b, p0c, p0d⟩ := T0x
  have p0l : w.heap.size < w1.heap.size := World.block_lt_of_cell? _ _ p0a
  obtain ⟨p1a, p1b, p1c, p1d⟩ := T1x
  have p1l : w.heap.size + 1 < w1.heap.size := World.block_lt_of_cell? _ _ p1a
  obtain ⟨p2a, p2b, p2c, p2d⟩ := T2x
  have p2l : w.heap.size + 1 + 1 < w1.heap.size := World.block_lt_of_cell? _ _ p2a
  go_wp2_with fail
  refine (numbers3 a b c d g h true _ HV.out a0 a1 b0 b1 c0 c1 d0 d1 g0 g1 h0 h1 _).mono ?_
  rintro e w2 ⟨rfl, hb2⟩
  have hz2 := hb2.size
  have p0t := (At2.mk p0a p0b p0c p0d).below hb2 (by omega)
  have p1t := (At2.mk p1a p1b p1c p1d).below hb2 (by omega)
  have p2t := (At2.mk p2a p2b p2c p2d).below hb2 (by omega)
  have HB2 : Below w.heap.size w w2 := HB1.trans (hb2.mono hq1)
  have hq2 := HB2.size
  clear hb2 HB1 p0a p0b p0c p0d p0l p1a p1b p1c p1d p1l p2a p2b p2c p2d p2l
  obtain ⟨p0a, p0b, p0c, p0d⟩ := p0t
  have p0l : w.heap.size < w2.heap.size := World.block_lt_of_cell? _ _ p0a
  obtain ⟨p1a, p1b, p1c, p1d⟩ := p1t
  have p1l : w.heap.size + 1 < w2.heap.size := World.block_lt_of_cell? _ _ p1a
  obtain ⟨p2a, p2b, p2c, p2d⟩ := p2t
  have p2l : w.heap.size + 1 + 1 < w2.heap.size := World.block_lt_of_cell? _ _ p2a
  go_wp2_with fail
  refine (K1.out _).mono ?_
  rintro e w3 ⟨rfl, hb3⟩
  have hz3 := hb3.size
  have p0t := (At2.mk p0a p0b p0c p0d).below hb3 (by omega)
  have p1t := (At2.mk p1a p1b p1c p1d).below hb3 (by omega)
  have p2t := (At2.mk p2a p2b p2c p2d).below hb3 (by omega)
  have HB3 : Below w.heap.size w w3 := HB2.trans (hb3.mono hq2)
  have hq3 := HB3.size
  clear hb3 HB2 p0a p0b p0c p0d p0l p1a p1b p1c p1d p1l p2a p2b p2c p2d p2l
  obtain ⟨p0a, p0b, p0c, p0d⟩ := p0t
  have p0l : w.heap.size < w3.heap.size := World.block_lt_of_cell? _ _ p0a
  obtain ⟨p1a, p1b, p1c, p1d⟩ := p1t
  have p1l : w.heap.size + 1 < w3.heap.size := World.block_lt_of_cell? _ _ p1a
  obtain ⟨p2a, p2b, p2c, p2d⟩ := p2t
  have p2l : w.heap.size + 1 + 1 < w3.heap.size := World.block_lt_of_cell? _ _ p2a
  go_wp2_with fail
  refine (K2.out _).mono ?_
  rintro e w4 ⟨rfl, hb4⟩
  have hz4 := hb4.size
  simp only [World.size_alloc] at hz4
  have p0t := ((At2.mk p0a p0b p0c p0d).alloc (by omega) _).below hb4 (by simp; omega)
  have p1t := ((At2.mk p1a p1b p1c p1d).alloc (by omega) _).below hb4 (by simp; omega)
  have p2t := ((At2.mk p2a p2b p2c p2d).alloc (by omega) _).below hb4 (by simp; omega)
  have pt := (At2.new w3 (.int .i64 p1) (.int .i64 p2) 23).below hb4 (by simp)
  have HB4 : Below w.heap.size w w4 := (HB3.alloc hq3 _).trans (hb4.mono (by simp; omega))
  have hq4 := HB4.size
  clear hb4 HB3 p0a p0b p0c p0d p0l p1a p1b p1c p1d p1l p2a p2b p2c p2d p2l
  obtain ⟨p0a, p0b, p0c, p0d⟩ := p0t
  have p0l : w.heap.size < w4.heap.size := World.block_lt_of_cell? _ _ p0a
  obtain ⟨p1a, p1b, p1c, p1d⟩ := p1t
  have p1l : w.heap.size + 1 < w4.heap.size := World.block_lt_of_cell? _ _ p1a
  obtain ⟨p2a, p2b, p2c, p2d⟩ := p2t
  have p2l : w.heap.size + 1 + 1 < w4.heap.size := World.block_lt_of_cell? _ _ p2a
  obtain ⟨pa, pb, pc, pd⟩ := pt
  have pl : w3.heap.size < w4.heap.size := World.block_lt_of_cell? _ _ pa
  go_wp2_with fail
  refine (K3.out _).mono ?_
  rintro e w5 ⟨rfl, hb5⟩
  have hz5 := hb5.size
  simp only [World.size_alloc] at hz5
  have p0t := ((At2.mk p0a p0b p0c p0d).alloc (by omega) _).below hb5 (by simp; omega)
  have p1t := ((At2.mk p1a p1b p1c p1d).alloc (by omega) _).below hb5 (by simp; omega)
  have p2t := ((At2.mk p2a p2b p2c p2d).alloc (by omega) _).below hb5 (by simp; omega)
  have pt := ((At2.mk pa pb pc pd).alloc (by omega) _).below hb5 (by simp; omega)
  have qt := (At2.new w4 (.int .i64 p1) (.int .i64 p2) 23).below hb5 (by simp)
  have HB5 : Below w.heap.size w w5 := (HB4.alloc hq4 _).trans (hb5.mono (by simp; omega))
  have hq5 := HB5.size
  clear hb5 HB4 p0a p0b p0c p0d p0l p1a p1b p1c p1d p1l p2a p2b p2c p2d p2l pa pb pc pd pl
  obtain ⟨p0a, p0b, p0c, p0d⟩ := p0t
  have p0l : w.heap.size < w5.heap.size := World.block_lt_of_cell? _ _ p0a
  obtain ⟨p1a, p1b, p1c, p1d⟩ := p1t
  have p1l : w.heap.size + 1 < w5.heap.size := World.block_lt_of_cell? _ _ p1a
  obtain ⟨p2a, p2b, p2c, p2d⟩ := p2t
  have p2l : w.heap.size + 1 + 1 < w5.heap.size := World.block_lt_of_cell? _ _ p2a
  obtain ⟨pa, pb, pc, pd⟩ := pt
  have pl : w3.heap.size < w5.heap.size := World.block_lt_of_cell? _ _ pa
  obtain ⟨qa, qb, qc, qd⟩ := qt
  have ql : w4.heap.size < w5.heap.size := World.block_lt_of_cell? _ _ qa
  go_wp2_with fail
  refine (K4.out _).mono ?_
  rintro e w6 ⟨rfl, hb6⟩
  have hz6 := hb6.size
  simp only [World.size_alloc] at hz6
  have p0t := ((At2.mk p0a p0b p0c p0d).alloc (by omega) _).below hb6 (by simp; omega)
  have p1t := ((At2.mk p1a p1b p1c p1d).alloc (by omega) _).below hb6 (by simp; omega)
  have p2t := ((At2.mk p2a p2b p2c p2d).alloc (by omega) _).below hb6 (by simp; omega)
  have pt := ((At2.mk pa pb pc pd).alloc (by omega) _).below hb6 (by simp; omega)
  have kt := (At2.new w5 (.int .i64 a) (.int .i64 b) 23).below hb6 (by simp)
  have HB6 : Below w.heap.size w w6 := (HB5.alloc hq5 _).trans (hb6.mono (by simp; omega))
  have hq6 := HB6.size
  clear hb6 HB5 p0a p0b p0c p0d p0l p1a p1b p1c p1d p1l p2a p2b p2c p2d p2l pa pb pc pd pl qa qb qc qd ql
  obtain ⟨p0a, p0b, p0c, p0d⟩ := p0t
  have p0l : w.heap.size < w6.heap.size := World.block_lt_of_cell? _ _ p0a
  obtain ⟨p1a, p1b, p1c, p1d⟩ := p1t
  have p1l : w.heap.size + 1 < w6.heap.size := World.block_lt_of_cell? _ _ p1a
  obtain ⟨p2a, p2b, p2c, p2d⟩ := p2t
  have p2l : w.heap.size + 1 + 1 < w6.heap.size := World.block_lt_of_cell? _ _ p2a
  obtain ⟨pa, pb, pc, pd⟩ := pt
  have pl : w3.heap.size < w6.heap.size := World.block_lt_of_cell? _ _ pa
  obtain ⟨ka, kb, kc, kd⟩ := kt
  have kl : w5.heap.size < w6.heap.size := World.block_lt_of_cell? _ _ ka
  go_wp2_with fail
  refine (K5.out _).mono ?_
  rintro e w7 ⟨rfl, hb7⟩
  have hz7 := hb7.size
  simp only [World.size_alloc] at hz7
  have p0t := ((At2.mk p0a p0b p0c p0d).alloc (by omega) _).below hb7 (by simp; omega)
  have p1t := ((At2.mk p1a p1b p1c p1d).alloc (by omega) _).below hb7 (by simp; omega)
  have p2t := ((At2.mk p2a p2b p2c p2d).alloc (by omega) _).below hb7 (by simp; omega)
  have pt := ((At2.mk pa pb pc pd).alloc (by omega) _).below hb7 (by simp; omega)
  have rt := (At2.new w6 (.int .i64 r1) (.int .i64 r2) 23).below hb7 (by simp)
  have HB7 : Below w.heap.size w w7 := (HB6.alloc hq6 _).trans (hb7.mono (by simp; omega))
  have hq7 := HB7.size
  clear hb7 HB6 p0a p0b p0c p0d p0l p1a p1b p1c p1d p1l p2a p2b p2c p2d p2l pa pb pc pd pl ka kb kc kd kl
  obtain ⟨p0a, p0b, p0c, p0d⟩ := p0t
  have p0l : w.heap.size < w7.heap.size := World.block_lt_of_cell? _ _ p0a
  obtain ⟨p1a, p1b, p1c, p1d⟩ := p1t
  have p1l : w.heap.size + 1 < w7.heap.size := World.block_lt_of_cell? _ _ p1a
  obtain ⟨p2a, p2b, p2c, p2d⟩ := p2t
  have p2l : w.heap.size + 1 + 1 < w7.heap.size := World.block_lt_of_cell? _ _ p2a
  obtain ⟨pa, pb, pc, pd⟩ := pt
  have pl : w3.heap.size < w7.heap.size := World.block_lt_of_cell? _ _ pa
  obtain ⟨ra, rb, rc, rd⟩ := rt
  have rl : w6.heap.size < w7.heap.size := World.block_lt_of_cell? _ _ ra
  go_wp2_with fail
  refine (K6.out _).mono ?_
  rintro e w8 ⟨rfl, hb8⟩
  have hz8 := hb8.size
  simp only [World.size_alloc] at hz8
  have p0t := ((At2.mk p0a p0b p0c p0d).alloc (by omega) _).below hb8 (by simp; omega)
  have p1t := ((At2.mk p1a p1b p1c p1d).alloc (by omega) _).below hb8 (by simp; omega)
  have p2t := ((At2.mk p2a p2b p2c p2d).alloc (by omega) _).below hb8 (by simp; omega)
  have pt := ((At2.mk pa pb pc pd).alloc (by omega) _).below hb8 (by simp; omega)
  have rt := ((At2.mk ra rb rc rd).alloc (by omega) _).below hb8 (by simp; omega)
  have ut := (At2.new w7 (.int .i64 u1) (.int .i64 u2) 23).below hb8 (by simp)
  have HB8 : Below w.heap.size w w8 := (HB7.alloc hq7 _).trans (hb8.mono (by simp; omega))
  have hq8 := HB8.size
  clear hb8 HB7 p0a p0b p0c p0d p0l p1a p1b p1c p1d p1l p2a p2b p2c p2d p2l pa pb pc pd pl ra rb rc rd rl
  obtain ⟨p0a, p0b, p0c, p0d⟩ := p0t
  have p0l : w.heap.size < w8.heap.size := World.block_lt_of_cell? _ _ p0a
  obtain ⟨p1a, p1b, p1c, p1d⟩ := p1t
  have p1l : w.heap.size + 1 < w8.heap.size := World.block_lt_of_cell? _ _ p1a
  obtain ⟨p2a, p2b, p2c, p2d⟩ := p2t
  have p2l : w.heap.size + 1 + 1 < w8.heap.size := World.block_lt_of_cell? _ _ p2a
  obtain ⟨pa, pb, pc, pd⟩ := pt
  have pl : w3.heap.size < w8.heap.size := World.block_lt_of_cell? _ _ pa
  obtain ⟨ra, rb, rc, rd⟩ := rt
  have rl : w6.heap.size < w8.heap.size := World.block_lt_of_cell? _ _ ra
  obtain ⟨ua, ub, uc, ud⟩ := ut
  have ul : w7.heap.size < w8.heap.size := World.block_lt_of_cell? _ _ ua
  go_wp2_with fail
  refine (K7.out _).mono ?_
  rintro e w9 ⟨rfl, hb9⟩
  have hz9 := hb9.size
  simp only [World.size_alloc] at hz9
  have p0t := ((At2.mk p0a p0b p0c p0d).alloc (by omega) _).below hb9 (by simp; omega)
  have p1t := ((At2.mk p1a p1b p1c p1d).alloc (by omega) _).below hb9 (by simp; omega)
  have p2t := ((At2.mk p2a p2b p2c p2d).alloc (by omega) _).below hb9 (by simp; omega)
  have pt := ((At2.mk pa pb pc pd).alloc (by omega) _).below hb9 (by simp; omega)
  have rt := ((At2.mk ra rb rc rd).alloc (by omega) _).below hb9 (by simp; omega)
  have ut := ((At2.mk ua ub uc ud).alloc (by omega) _).below hb9 (by simp; omega)
  have vt := (At2.new w8 (.int .i64 v1) (.int .i64 v2) 23).below hb9 (by simp)
  have HB9 : Below w.heap.size w w9 := (HB8.alloc hq8 _).trans (hb9.mono (by simp; omega))
  have hq9 := HB9.size
  clear hb9 HB8 p0a p0b p0c p0d p0l p1a p1b p1c p1d p1l p2a p2b p2c p2d p2l pa pb pc pd pl ra rb rc rd rl ua ub uc ud ul
  obtain ⟨p0a, p0b, p0c, p0d⟩ := p0t
  have p0l : w.heap.size < w9.heap.size := World.block_lt_of_cell? _ _ p0a
  obtain ⟨p1a, p1b, p1c, p1d⟩ := p1t
  have p1l : w.heap.size + 1 < w9.heap.size := World.block_lt_of_cell? _ _ p1a
  obtain ⟨p2a, p2b, p2c, p2d⟩ := p2t
  have p2l : w.heap.size + 1 + 1 < w9.heap.size := World.block_lt_of_cell? _ _ p2a
  obtain ⟨pa, pb, pc, pd⟩ := pt
  have pl : w3.heap.size < w9.heap.size := World.block_lt_of_cell? _ _ pa
  obtain ⟨ra, rb, rc, rd⟩ := rt
  have rl : w6.heap.size < w9.heap.size := World.block_lt_of_cell? _ _ ra
  obtain ⟨ua, ub, uc, ud⟩ := ut
  have ul : w7.heap.size < w9.heap.size := World.block_lt_of_cell? _ _ ua
  obtain ⟨va, vb, vc, vd⟩ := vt
  have vl : w8.heap.size < w9.heap.size := World.block_lt_of_cell? _ _ va
  go_wp2_with fail
  refine (K8.out _).mono ?_
  rintro e w10 ⟨rfl, hb10⟩
  have hz10 := hb10.size
  simp only [World.size_setCell] at hz10
  have p0t := ((At2.mk p0a p0b p0c p0d).other (b' := w6.heap.size) (by omega) (.int .i64 R1) (.int .i64 R2)).below hb10 (by first | omega | (simp; omega))
  have p1t := ((At2.mk p1a p1b p1c p1d).other (b' := w6.heap.size) (by omega) (.int .i64 R1) (.int .i64 R2)).below hb10 (by first | omega | (simp; omega))
  have p2t := ((At2.mk p2a p2b p2c p2d).other (b' := w6.heap.size) (by omega) (.int .i64 R1) (.int .i64 R2)).below hb10 (by first | omega | (simp; omega))
  have pt := ((At2.mk pa pb pc pd).other (b' := w6.heap.size) (by omega) (.int .i64 R1) (.int .i64 R2)).below hb10 (by first | omega | (simp; omega))
  have rt := ((At2.mk ra rb rc rd).set (.int .i64 R1) (.int .i64 R2)).below hb10 (by first | omega | (simp; omega))
  have ut := ((At2.mk ua ub uc ud).other (b' := w6.heap.size) (by omega) (.int .i64 R1) (.int .i64 R2)).below hb10 (by first | omega | (simp; omega))
  have vt := ((At2.mk va vb vc vd).other (b' := w6.heap.size) (by omega) (.int .i64 R1) (.int .i64 R2)).below hb10 (by first | omega | (simp; omega))
  have HB10 : Below w.heap.size w w10 := ((HB9.setCell (p := ⟨w6.heap.size, 0, none⟩) (by first | omega | (simp; omega)) (.int .i64 R1)).setCell (p := ⟨w6.heap.size, 1, none⟩) (by first | omega | (simp; omega)) (.int .i64 R2)).trans (hb10.mono (by first | omega | (simp; omega)))
  have hq10 := HB10.size
  clear hb10 HB9 p0a p0b p0c p0d p0l p1a p1b p1c p1d p1l p2a p2b p2c p2d p2l pa pb pc pd pl ra rb rc rd rl ua ub uc ud ul va vb vc vd vl
  obtain ⟨p0a, p0b, p0c, p0d⟩ := p0t
  have p0l : w.heap.size < w10.heap.size := World.block_lt_of_cell? _ _ p0a
  obtain ⟨p1a, p1b, p1c, p1d⟩ := p1t
  have p1l : w.heap.size + 1 < w10.heap.size := World.block_lt_of_cell? _ _ p1a
  obtain ⟨p2a, p2b, p2c, p2d⟩ := p2t
  have p2l : w.heap.size + 1 + 1 < w10.heap.size := World.block_lt_of_cell? _ _ p2a
  obtain ⟨pa, pb, pc, pd⟩ := pt
  have pl : w3.heap.size < w10.heap.size := World.block_lt_of_cell? _ _ pa
  obtain ⟨ra, rb, rc, rd⟩ := rt
  have rl : w6.heap.size < w10.heap.size := World.block_lt_of_cell? _ _ ra
  obtain ⟨ua, ub, uc, ud⟩ := ut
  have ul : w7.heap.size < w10.heap.size := World.block_lt_of_cell? _ _ ua
  obtain ⟨va, vb, vc, vd⟩ := vt
  have vl : w8.heap.size < w10.heap.size := World.block_lt_of_cell? _ _ va
  go_wp2_with fail
  refine (K9.out _).mono ?_
  rintro e w11 ⟨rfl, hb11⟩
  have hz11 := hb11.size
  simp only [World.size_setCell] at hz11
  have p0t := ((At2.mk p0a p0b p0c p0d).other (b' := w7.heap.size) (by omega) (.int .i64 U1) (.int .i64 U2)).below hb11 (by first | omega | (simp; omega))
  have p1t := ((At2.mk p1a p1b p1c p1d).other (b' := w7.heap.size) (by omega) (.int .i64 U1) (.int .i64 U2)).below hb11 (by first | omega | (simp; omega))
  have p2t := ((At2.mk p2a p2b p2c p2d).other (b' := w7.heap.size) (by omega) (.int .i64 U1) (.int .i64 U2)).below hb11 (by first | omega | (simp; omega))
  have pt := ((At2.mk pa pb pc pd).other (b' := w7.heap.size) (by omega) (.int .i64 U1) (.int .i64 U2)).below hb11 (by first | omega | (simp; omega))
  have rt := ((At2.mk ra rb rc rd).other (b' := w7.heap.size) (by omega) (.int .i64 U1) (.int .i64 U2)).below hb11 (by first | omega | (simp; omega))
  have ut := ((At2.mk ua ub uc ud).set (.int .i64 U1) (.int .i64 U2)).below hb11 (by first | omega | (simp; omega))
  have vt := ((At2.mk va vb vc vd).other (b' := w7.heap.size) (by omega) (.int .i64 U1) (.int .i64 U2)).below hb11 (by first | omega | (simp; omega))
  have HB11 : Below w.heap.size w w11 := ((HB10.setCell (p := ⟨w7.heap.size, 0, none⟩) (by first | omega | (simp; omega)) (.int .i64 U1)).setCell (p := ⟨w7.heap.size, 1, none⟩) (by first | omega | (simp; omega)) (.int .i64 U2)).trans (hb11.mono (by first | omega | (simp; omega)))
  have hq11 := HB11.size
  clear hb11 HB10 p0a p0b p0c p0d p0l p1a p1b p1c p1d p1l p2a p2b p2c p2d p2l pa pb pc pd pl ra rb rc rd rl ua ub uc ud ul va vb vc vd vl
  obtain ⟨p0a, p0b, p0c, p0d⟩ := p0t
  have p0l : w.heap.size < w11.heap.size := World.block_lt_of_cell? _ _ p0a
  obtain ⟨p1a, p1b, p1c, p1d⟩ := p1t
  have p1l : w.heap.size + 1 < w11.heap.size := World.block_lt_of_cell? _ _ p1a
  obtain ⟨p2a, p2b, p2c, p2d⟩ := p2t
  have p2l : w.heap.size + 1 + 1 < w11.heap.size := World.block_lt_of_cell? _ _ p2a
  obtain ⟨pa, pb, pc, pd⟩ := pt
  have pl : w3.heap.size < w11.heap.size := World.block_lt_of_cell? _ _ pa
  obtain ⟨ra, rb, rc, rd⟩ := rt
  have rl : w6.heap.size < w11.heap.size := World.block_lt_of_cell? _ _ ra
  obtain ⟨ua, ub, uc, ud⟩ := ut
  have ul : w7.heap.size < w11.heap.size := World.block_lt_of_cell? _ _ ua
  obtain ⟨va, vb, vc, vd⟩ := vt
  have vl : w8.heap.size < w11.heap.size := World.block_lt_of_cell? _ _ va
  go_wp2_with fail
  refine (K10.out _).mono ?_
  rintro e w12 ⟨rfl, hb12⟩
  have hz12 := hb12.size
  simp only [World.size_alloc] at hz12
  have p0t := ((At2.mk p0a p0b p0c p0d).alloc (by omega) _).below hb12 (by simp; omega)
  have p1t := ((At2.mk p1a p1b p1c p1d).alloc (by omega) _).below hb12 (by simp; omega)
  have p2t := ((At2.mk p2a p2b p2c p2d).alloc (by omega) _).below hb12 (by simp; omega)
  have pt := ((At2.mk pa pb pc pd).alloc (by omega) _).below hb12 (by simp; omega)
  have rt := ((At2.mk ra rb rc rd).alloc (by omega) _).below hb12 (by simp; omega)
  have ut := ((At2.mk ua ub uc ud).alloc (by omega) _).below hb12 (by simp; omega)
  have vt := ((At2.mk va vb vc vd).alloc (by omega) _).below hb12 (by simp; omega)
  have st := (At2.new w11 (.int .i64 s1) (.int .i64 s2) 23).below hb12 (by simp)
  have HB12 : Below w.heap.size w w12 := (HB11.alloc hq11 _).trans (hb12.mono (by simp; omega))
  have hq12 := HB12.size
  clear hb12 HB11 p0a p0b p0c p0d p0l p1a p1b p1c p1d p1l p2a p2b p2c p2d p2l pa pb pc pd pl ra rb rc rd rl ua ub uc ud ul va vb vc vd vl
  obtain ⟨p0a, p0b, p0c, p0d⟩ := p0t
  have p0l : w.heap.size < w12.heap.size := World.block_lt_of_cell? _ _ p0a
  obtain ⟨p1a, p1b, p1c, p1d⟩ := p1t
  have p1l : w.heap.size + 1 < w12.heap.size := World.block_lt_of_cell? _ _ p1a
  obtain ⟨p2a, p2b, p2c, p2d⟩ := p2t
  have p2l : w.heap.size + 1 + 1 < w12.heap.size := World.block_lt_of_cell? _ _ p2a
  obtain ⟨pa, pb, pc, pd⟩ := pt
  have pl : w3.heap.size < w12.heap.size := World.block_lt_of_cell? _ _ pa
  obtain ⟨ra, rb, rc, rd⟩ := rt
  have rl : w6.heap.size < w12.heap.size := World.block_lt_of_cell? _ _ ra
  obtain ⟨ua, ub, uc, ud⟩ := ut
  have ul : w7.heap.size < w12.heap.size := World.block_lt_of_cell? _ _ ua
  obtain ⟨va, vb, vc, vd⟩ := vt
  have vl : w8.heap.size < w12.heap.size := World.block_lt_of_cell? _ _ va
  obtain ⟨sa, sb, sc, sd⟩ := st
  have sl : w11.heap.size < w12.heap.size := World.block_lt_of_cell? _ _ sa
  go_wp2
  go_ret
  exact ⟨rfl, (by repeat' (first | exact HB12 | refine Below.setCell ?_ (by first | omega | (simp; done) | (simp; omega)) _ | refine below_drewN ?_ _ | refine Below.alloc ?_ (by first | omega | (simp; done) | (simp; omega)) _))⟩

end Go.Proofs.YtohnmffokichkaaDoor
