/-
  The law that compares: all functions return what the reference implementation returns.
-/
import Derived.Test.YtidhhndclkilnaaDoorGSignW
namespace Go.Proofs.YtidhhndclkilnaaDoor
open Go.RowKit Dg Gr

theorem Cel.far {w : World} {b b' : Nat} {x y : Value} (h : Cel w b x y) (hne : b' ≠ b) (o : Nat) (v : Value) : Cel (w.setCell ⟨b', o, none⟩ v) b x y := by
  obtain ⟨c0, c1, f0, f1⟩ := h
  have ne : ∀ k, (⟨b', o, none⟩ : Addr) ≠ ⟨b, k, none⟩ := fun k e => hne (by cases e; rfl)
  exact ⟨(World.cell?_setCell_other _ _ _ _ (ne 0)).trans c0, (World.cell?_setCell_other _ _ _ _ (ne 1)).trans c1, by rw [World.frozen?_setCell]; exact f0, by rw [World.frozen?_setCell]; exact f1⟩
set_option maxRecDepth 100000 in
set_option maxHeartbeats 6000000 in
theorem match_law (K : Con) (a b x y SC SS : Int) (l1 : List Int) (p1 : Option Addr) (b1 off1 cap1 len1 : Nat) (w : World) (hT : Tab w)
    (hS1 : SlF i64v w p1 b1 off1 len1 l1) (hI1 : I64s l1) (hc1 : len1 ≤ cap1) :
    Calls Tryd.prog 3 #[.int .i64 a, .int .i64 b, .int .i64 x, .int .i64 y, .agg #[.int .i64 SC, .int .i64 SS], .slice p1 len1 cap1] w fun e w' => e = .returned (.bool true) ∧ RowKit.Below w.heap.size w w' := by
  have HD := Lib.hid (fun w hT => head_any K w hT)
  have HT := Lib.hid hT
  obtain ⟨N1, hN1⟩ : ∃ N, (min (len1 : Int) 20).toNat = N := ⟨_, rfl⟩
  have lN : N1 ≤ 20 := by omega
  have F1 := Lib.hid (fun w => few_any p1 len1 cap1 N1 w hc1 hN1)
  have L1 := Lib.hid (hS1.take (k := N1) (by omega))
  have I1 := i64s_take hI1 N1
  generalize l1.take N1 = l at *
  have G1 := Lib.hid (K.mul a b)
  have R1 := Lib.hid (rmul_any a b)
  have M1 := Lib.hid (K.member a)
  have M2 := Lib.hid (rmember_any a)
  have G2 := Lib.hid (K.exp a x)
  have R2 := Lib.hid (rExp_any a x)
  have G3 := Lib.hid (K.commit b x y)
  have R3 := Lib.hid (rcommit_any b x y)
  have G4 := Lib.hid (fun w hS hT => K.sign x y l p1 b1 off1 cap1 N1 w hS I1 (by omega) hT)
  have R4 := Lib.hid (fun w hS => rsign_any x y l p1 b1 off1 cap1 N1 w hS I1 (by omega))
  have G5 := Lib.hid (fun w hS hT => K.verify a SC SS l p1 b1 off1 cap1 N1 w hS I1 (by omega) hT)
  have R5 := Lib.hid (fun w hS => rverify_any a SC SS l p1 b1 off1 cap1 N1 w hS I1 (by omega))
  have G6 := Lib.hid (fun w hT => K.same a b x y w hT)
  have R6 := Lib.hid (rsame_any a b x y)
  have G7 := Lib.hid (fun w hT => K.equal a x b y SC SS w hT)
  have R7 := Lib.hid (requal_any a x b y SC SS)
  generalize (mulR a b).1 = m1 at *
  generalize (mulR a b).2 = m2 at *
  generalize memZ a = ma at *
  generalize (expR a x).1 = e1 at *
  generalize (expR a x).2 = e2 at *
  generalize (comR b x y).1 = c1 at *
  generalize (comR b x y).2 = c2 at *
  generalize (sigR x y l).1 = s1 at *
  generalize (sigR x y l).2.1 = s2 at *
  generalize (sigR x y l).2.2 = s3 at *
  generalize (verR a SC SS l).1 = v1 at *
  generalize (verR a SC SS l).2 = v2 at *
  generalize (samR a b x y).1 = q1 at *
  generalize (samR a b x y).2.1 = q2 at *
  generalize (samR a b x y).2.2 = q3 at *
  generalize (eqlR a x b y SC SS).1 = t1 at *
  generalize (eqlR a x b y SC SS).2 = t2 at *
  clear hN1 hS1 hI1 hc1 I1 K hT
  have B0 := Lib.hid ((Below.refl w.heap.size w).alloc (Nat.le_refl _) (.cells #[.int .i64 SC, .int .i64 SS] 23))
  have A0 := Lib.hid (Cel.new w (.int .i64 SC) (.int .i64 SS) 23)
  go_enter Tryd.func3, Tryd.ntmps3
  go_wp2_with fail
  generalize w.alloc (.cells #[.int .i64 SC, .int .i64 SS] 23) = w0 at *
  refine (HD.out _ (HT.out.below B0.out)).mono ?_
  rintro _ w1 ⟨rfl, hb⟩
  have B1 := Lib.hid (B0.out.trans (hb.mono B0.out.size))
  have A1 := Lib.hid (A0.out.below hb)
  clear hb B0 A0
  go_wp2_with fail
  refine (F1.out _).mono ?_
  rintro _ u ⟨rfl, rfl⟩
  rename World => w1
  go_wp2_with fail
  refine (G1.out _).mono ?_
  rintro _ w2 ⟨rfl, hb⟩
  have B2 := Lib.hid (B1.out.trans (hb.mono B1.out.size))
  have A2 := Lib.hid (A1.out.below hb)
  clear hb B1 A1
  go_wp2_with fail
  refine (R1.out _).mono ?_
  rintro _ u ⟨rfl, rfl⟩
  rename World => w2
  go_wp2_with fail
  refine (M1.out _).mono ?_
  rintro _ w3 ⟨rfl, hb⟩
  have B3 := Lib.hid (B2.out.trans (hb.mono B2.out.size))
  have A3 := Lib.hid (A2.out.below hb)
  clear hb B2 A2
  go_wp2_with fail
  refine (M2.out _).mono ?_
  rintro _ u ⟨rfl, rfl⟩
  rename World => w3
  go_wp2_with fail
  refine (G2.out _).mono ?_
  rintro _ w4 ⟨rfl, hb⟩
  have B4 := Lib.hid (B3.out.trans (hb.mono B3.out.size))
  have A4 := Lib.hid (A3.out.below hb)
  clear hb B3 A3
  go_wp2_with fail
  refine (R2.out _).mono ?_
  rintro _ u ⟨rfl, rfl⟩
  rename World => w4
  go_wp2_with fail
  refine (G3.out _).mono ?_
  rintro _ w5 ⟨rfl, hb⟩
  have B5 := Lib.hid (B4.out.trans (hb.mono B4.out.size))
  have A5 := Lib.hid (A4.out.below hb)
  clear hb B4 A4
  go_wp2_with fail
  refine (R3.out _).mono ?_
  rintro _ u ⟨rfl, rfl⟩
  rename World => w5
  go_wp2_with fail
  refine (G4.out _ (L1.out.below B5.out L1.out.lt) (HT.out.below B5.out)).mono ?_
  rintro _ w6 ⟨rfl, hb⟩
  have B6 := Lib.hid (B5.out.trans (hb.mono B5.out.size))
  have A6 := Lib.hid (A5.out.below hb)
  clear hb B5 A5
  have B7 := Lib.hid (B6.out.alloc B6.out.size (.cells #[.int .i64 s1, .int .i64 s2] 23))
  have A7 := Lib.hid (A6.out.below ((Below.refl w6.heap.size w6).alloc (Nat.le_refl _) (.cells #[.int .i64 s1, .int .i64 s2] 23)))
  have P7 := Lib.hid (Cel.new w6 (.int .i64 s1) (.int .i64 s2) 23)
  have leP : w.heap.size ≤ w6.heap.size := B6.out.size
  have neAP : w6.heap.size ≠ w.heap.size := fun e => by have := World.block_lt_of_cell? _ _ A6.out.c0; simp only at this; omega
  clear B6 A6
  go_wp2_with fail
  generalize w6.alloc (.cells #[.int .i64 s1, .int .i64 s2] 23) = w7 at *
  refine (R4.out _ (L1.out.below B7.out L1.out.lt)).mono ?_
  rintro _ w8 ⟨rfl, hb⟩
  have B8 := Lib.hid (B7.out.trans (hb.mono B7.out.size))
  have A8 := Lib.hid (A7.out.below hb)
  have P8 := Lib.hid (P7.out.below hb)
  clear hb B7 A7 P7
  have B9 := Lib.hid (B8.out.alloc B8.out.size (.cells #[.int .i64 s1, .int .i64 s2] 23))
  have A9 := Lib.hid (A8.out.below ((Below.refl w8.heap.size w8).alloc (Nat.le_refl _) (.cells #[.int .i64 s1, .int .i64 s2] 23)))
  have P9 := Lib.hid (P8.out.below ((Below.refl w8.heap.size w8).alloc (Nat.le_refl _) (.cells #[.int .i64 s1, .int .i64 s2] 23)))
  have Q9 := Lib.hid (Cel.new w8 (.int .i64 s1) (.int .i64 s2) 23)
  have leQ : w.heap.size ≤ w8.heap.size := B8.out.size
  have neAQ : w8.heap.size ≠ w.heap.size := fun e => by have := World.block_lt_of_cell? _ _ A8.out.c0; simp only at this; omega
  have nePQ : w8.heap.size ≠ w6.heap.size := fun e => by have := World.block_lt_of_cell? _ _ P8.out.c0; simp only at this; omega
  clear B8 A8 P8
  obtain ⟨a0, a1, -, -⟩ := A9.out
  obtain ⟨p0, p1, -, -⟩ := P9.out
  go_wp2_with fail
  generalize w8.alloc (.cells #[.int .i64 s1, .int .i64 s2] 23) = w9 at *
  refine (G5.out _ (L1.out.below B9.out L1.out.lt) (HT.out.below B9.out)).mono ?_
  rintro _ w10 ⟨rfl, hb⟩
  have B10 := Lib.hid (B9.out.trans (hb.mono B9.out.size))
  have A10 := Lib.hid (A9.out.below hb)
  have P10 := Lib.hid (P9.out.below hb)
  have Q10 := Lib.hid (Q9.out.below hb)
  clear hb B9 A9 P9 Q9
  clear a0 a1 p0 p1
  obtain ⟨a0, a1, -, -⟩ := A10.out
  go_wp2_with fail
  refine (R5.out _ (L1.out.below B10.out L1.out.lt)).mono ?_
  rintro _ w11 ⟨rfl, hb⟩
  have B11 := Lib.hid (B10.out.trans (hb.mono B10.out.size))
  have A11 := Lib.hid (A10.out.below hb)
  have P11 := Lib.hid (P10.out.below hb)
  have Q11 := Lib.hid (Q10.out.below hb)
  clear hb B10 A10 P10 Q10
  clear a0 a1
  go_wp2_with fail
  refine (G6.out _ (HT.out.below B11.out)).mono ?_
  rintro _ w12 ⟨rfl, hb⟩
  have B12 := Lib.hid (B11.out.trans (hb.mono B11.out.size))
  have A12 := Lib.hid (A11.out.below hb)
  have P12 := Lib.hid (P11.out.below hb)
  have Q12 := Lib.hid (Q11.out.below hb)
  clear hb B11 A11 P11 Q11
  have B13 := Lib.hid ((B12.out.setCell (p := ⟨w6.heap.size, 0, none⟩) leP (.int .i64 q1)).setCell (p := ⟨w6.heap.size, 1, none⟩) leP (.int .i64 q2))
  have P13 := Lib.hid ((P12.out.set0 (.int .i64 q1)).set1 (.int .i64 q2))
  have A13 := Lib.hid ((A12.out.far neAP 0 (.int .i64 q1)).far neAP 1 (.int .i64 q2))
  have Q13 := Lib.hid ((Q12.out.far (Ne.symm nePQ) 0 (.int .i64 q1)).far (Ne.symm nePQ) 1 (.int .i64 q2))
  obtain ⟨k0, k1, k2, k3⟩ := P12.out
  go_wp2_with fail
  clear k0 k1 k2 k3 B12 A12 P12 Q12
  generalize (w12.setCell ⟨w6.heap.size, 0, none⟩ (.int .i64 q1)).setCell ⟨w6.heap.size, 1, none⟩ (.int .i64 q2) = w13 at *
  refine (R6.out _).mono ?_
  rintro _ w14 ⟨rfl, hb⟩
  have B14 := Lib.hid (B13.out.trans (hb.mono B13.out.size))
  have A14 := Lib.hid (A13.out.below hb)
  have P14 := Lib.hid (P13.out.below hb)
  have Q14 := Lib.hid (Q13.out.below hb)
  clear hb B13 A13 P13 Q13
  have B15 := Lib.hid ((B14.out.setCell (p := ⟨w8.heap.size, 0, none⟩) leQ (.int .i64 q1)).setCell (p := ⟨w8.heap.size, 1, none⟩) leQ (.int .i64 q2))
  have Q15 := Lib.hid ((Q14.out.set0 (.int .i64 q1)).set1 (.int .i64 q2))
  have A15 := Lib.hid ((A14.out.far neAQ 0 (.int .i64 q1)).far neAQ 1 (.int .i64 q2))
  have P15 := Lib.hid ((P14.out.far nePQ 0 (.int .i64 q1)).far nePQ 1 (.int .i64 q2))
  obtain ⟨k0, k1, k2, k3⟩ := Q14.out
  obtain ⟨p0, p1', -, -⟩ := P14.out
  obtain ⟨a0, a1, -, -⟩ := A14.out
  have xAQ := neAQ
  have xPQ := nePQ
  go_wp2_with fail
  clear k0 k1 k2 k3 p0 p1' a0 a1 xAQ xPQ B14 A14 P14 Q14
  generalize (w14.setCell ⟨w8.heap.size, 0, none⟩ (.int .i64 q1)).setCell ⟨w8.heap.size, 1, none⟩ (.int .i64 q2) = w15 at *
  refine (G7.out _ (HT.out.below B15.out)).mono ?_
  rintro _ w16 ⟨rfl, hb⟩
  have B16 := Lib.hid (B15.out.trans (hb.mono B15.out.size))
  have A16 := Lib.hid (A15.out.below hb)
  have P16 := Lib.hid (P15.out.below hb)
  have Q16 := Lib.hid (Q15.out.below hb)
  clear hb B15 A15 P15 Q15
  obtain ⟨a0, a1, -, -⟩ := A16.out
  go_wp2_with fail
  refine (R7.out _).mono ?_
  rintro _ w17 ⟨rfl, hb⟩
  have B17 := Lib.hid (B16.out.trans (hb.mono B16.out.size))
  have A17 := Lib.hid (A16.out.below hb)
  have P17 := Lib.hid (P16.out.below hb)
  have Q17 := Lib.hid (Q16.out.below hb)
  clear hb B16 A16 P16 Q16
  go_wp2_with fail
  go_ret
  exact ⟨rfl, B17.out⟩
end Go.Proofs.YtidhhndclkilnaaDoor
