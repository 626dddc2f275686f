/-
  The law on the reference: the walk.
-/
import Derived.Test.YtohnmffokichkaaDoorRef8
import Derived.Test.YtohnmffokichkaaDoorWalks9
import Derived.Test.YtohnmffokichkaaDoorWalksA
import Derived.Test.YtohnmffokichkaaDoorSets
import Derived.Deep.RegionHeld3
namespace Go.Proofs.YtohnmffokichkaaDoor
open Go.RowKit

theorem at_cell {w1 w2 : World} {b o : Nat} {x : Value} (hb : Below w1.heap.size w1 w2) (hc : w1.cell? ⟨b, o, none⟩ = some x) : w2.cell? ⟨b, o, none⟩ = some x :=
  (hb.cell (p := ⟨b, o, none⟩) (World.block_lt_of_cell? _ _ hc)).trans hc
theorem below_step {W w1 w2 : World} (hb : Below w1.heap.size w1 w2) (h : Below W.heap.size W w1) : Below W.heap.size W w2 := h.trans (hb.mono h.size)

/-- What a call returns where the library's variables read as they were laid. -/
def GivesM (f : Nat) (args : Array Value) (v : Value) : Prop := ∀ w : World, Env w → Calls Tryd.prog f args w fun e w' => e = .returned v ∧ Below w.heap.size w w'

set_option maxRecDepth 100000 in
set_option maxHeartbeats 1000000 in
theorem match_walk (a b c d n m x1 y1 e1 x2 y2 e2 x3 y3 e3 x4 y4 e4 x5 y5 e5 x6 y6 e6 g1 h1 g2 h2 h3 : Int) (s t : ByteArray) (v : Bool) (w : World) (hE : Env w)
    (k1 : GivesM 10 #[.agg #[.int .i64 a, .int .i64 b]] (.bool v))
    (k2 : GivesM 11 #[.agg #[.int .i64 a, .int .i64 b]] (.bool v))
    (k3 : GivesM 12 #[.int .i64 n, .int .i64 m] (.tuple #[.agg #[.int .i64 x1, .int .i64 y1], .int .i64 e1]))
    (k4 : GivesM 13 #[.int .i64 n, .int .i64 m] (.tuple #[.agg #[.int .i64 x1, .int .i64 y1], .int .i64 e1]))
    (k5 : GivesM 14 #[.agg #[.int .i64 a, .int .i64 b], .agg #[.int .i64 c, .int .i64 d]] (.tuple #[.agg #[.int .i64 x2, .int .i64 y2], .int .i64 e2]))
    (k6 : GivesM 15 #[.agg #[.int .i64 a, .int .i64 b], .agg #[.int .i64 c, .int .i64 d]] (.tuple #[.agg #[.int .i64 x2, .int .i64 y2], .int .i64 e2]))
    (k7 : GivesM 16 #[.agg #[.int .i64 a, .int .i64 b], .agg #[.int .i64 c, .int .i64 d]] (.tuple #[.agg #[.int .i64 x3, .int .i64 y3], .int .i64 e3]))
    (k8 : GivesM 17 #[.agg #[.int .i64 a, .int .i64 b], .agg #[.int .i64 c, .int .i64 d]] (.tuple #[.agg #[.int .i64 x3, .int .i64 y3], .int .i64 e3]))
    (k9 : GivesM 18 #[.agg #[.int .i64 a, .int .i64 b], .agg #[.int .i64 c, .int .i64 d]] (.tuple #[.agg #[.int .i64 x4, .int .i64 y4], .int .i64 e4]))
    (k10 : GivesM 19 #[.agg #[.int .i64 a, .int .i64 b], .agg #[.int .i64 c, .int .i64 d]] (.tuple #[.agg #[.int .i64 x4, .int .i64 y4], .int .i64 e4]))
    (k11 : GivesM 20 #[.agg #[.int .i64 a, .int .i64 b], .agg #[.int .i64 c, .int .i64 d]] (.tuple #[.agg #[.int .i64 x5, .int .i64 y5], .int .i64 e5]))
    (k12 : GivesM 21 #[.agg #[.int .i64 a, .int .i64 b], .agg #[.int .i64 c, .int .i64 d]] (.tuple #[.agg #[.int .i64 x5, .int .i64 y5], .int .i64 e5]))
    (k13 : GivesM 22 #[.agg #[.int .i64 a, .int .i64 b], .agg #[.int .i64 c, .int .i64 d]] (.tuple #[.int .i64 g1, .int .i64 h1]))
    (k14 : GivesM 23 #[.agg #[.int .i64 a, .int .i64 b], .agg #[.int .i64 c, .int .i64 d]] (.tuple #[.int .i64 g1, .int .i64 h1]))
    (k15 : GivesM 24 #[.agg #[.int .i64 a, .int .i64 b]] (.tuple #[.int .i64 g2, .int .i64 h2]))
    (k16 : GivesM 25 #[.agg #[.int .i64 a, .int .i64 b]] (.tuple #[.int .i64 g2, .int .i64 h2]))
    (k17 : GivesM 26 #[.agg #[.int .i64 a, .int .i64 b]] (.tuple #[.string t, .int .i64 h3]))
    (k18 : GivesM 27 #[.agg #[.int .i64 a, .int .i64 b]] (.tuple #[.string t, .int .i64 h3]))
    (k19 : GivesM 28 #[.string s] (.tuple #[.agg #[.int .i64 x6, .int .i64 y6], .int .i64 e6]))
    (k20 : GivesM 29 #[.string s] (.tuple #[.agg #[.int .i64 x6, .int .i64 y6], .int .i64 e6])) :
    Calls Tryd.prog 3 #[.agg #[.int .i64 a, .int .i64 b], .agg #[.int .i64 c, .int .i64 d], .int .i64 n, .int .i64 m, .string s] w fun e w' =>
      e = .returned (.bool true) ∧ Below w.heap.size w w' := by
  have HE := Lib.hid hE
  have K1 := Lib.hid k1
  have K2 := Lib.hid k2
  have K3 := Lib.hid k3
  have K4 := Lib.hid k4
  have K5 := Lib.hid k5
  have K6 := Lib.hid k6
  have K7 := Lib.hid k7
  have K8 := Lib.hid k8
  have K9 := Lib.hid k9
  have K10 := Lib.hid k10
  have K11 := Lib.hid k11
  have K12 := Lib.hid k12
  have K13 := Lib.hid k13
  have K14 := Lib.hid k14
  have K15 := Lib.hid k15
  have K16 := Lib.hid k16
  have K17 := Lib.hid k17
  have K18 := Lib.hid k18
  have K19 := Lib.hid k19
  have K20 := Lib.hid k20
  clear hE k1 k2 k3 k4 k5 k6 k7 k8 k9 k10 k11 k12 k13 k14 k15 k16 k17 k18 k19 k20
  go_enter Tryd.func3, Tryd.ntmps3
  go_wp
  have T0 : At2 ((w.alloc (.cells #[.int .i64 a, .int .i64 b] 23)).alloc (.cells #[.int .i64 c, .int .i64 d] 23)) w.heap.size (.int .i64 a) (.int .i64 b) := (At2.new w _ _ _).alloc (by simp) _
  have T1 : At2 ((w.alloc (.cells #[.int .i64 a, .int .i64 b] 23)).alloc (.cells #[.int .i64 c, .int .i64 d] 23)) (w.heap.size + 1) (.int .i64 c) (.int .i64 d) := by
    have := At2.new (w.alloc (.cells #[.int .i64 a, .int .i64 b] 23)) (.int .i64 c) (.int .i64 d) 23
    simpa using this
  have HB0 : Below w.heap.size w ((w.alloc (.cells #[.int .i64 a, .int .i64 b] 23)).alloc (.cells #[.int .i64 c, .int .i64 d] 23)) := ((Below.refl _ _).alloc (Nat.le_refl _) _).alloc (by simp) _
  have HV : Env ((w.alloc (.cells #[.int .i64 a, .int .i64 b] 23)).alloc (.cells #[.int .i64 c, .int .i64 d] 23)) := (HE.out.below ((Below.refl _ _).alloc (Nat.le_refl _) _)).below ((Below.refl _ _).alloc (Nat.le_refl _) _)
  have hZ : ((w.alloc (.cells #[.int .i64 a, .int .i64 b] 23)).alloc (.cells #[.int .i64 c, .int .i64 d] 23)).heap.size = w.heap.size + 2 := by simp
  generalize ((w.alloc (.cells #[.int .i64 a, .int .i64 b] 23)).alloc (.cells #[.int .i64 c, .int .i64 d] 23)) = W0 at T0 T1 HB0 HV hZ ⊢
  have HT1 := Lib.hid T1
  have HT0 := Lib.hid T0
  have HEV := Lib.hid HV
  have HBB := Lib.hid HB0
  have q0 := T0.c0
  have q1 := T0.c1
  clear T0 T1 HV HB0
  go_region_held3 (fun w' => w'.cell? ⟨w.heap.size, 0, none⟩ = some (.int .i64 a) ∧ w'.cell? ⟨w.heap.size, 1, none⟩ = some (.int .i64 b) ∧ Below W0.heap.size W0 w')
    (first | assumption | (refine ⟨?_, ?_, ?_⟩ <;> first | assumption | (apply at_cell <;> assumption) | (apply below_step <;> assumption) | exact Below.refl _ _ | exact below_drewN (Below.refl _ _) _ | (simp [*]; done)))
    (first
      | (go_at_call 9; obtain ⟨z0, z1, z2⟩ := ‹_ ∧ _ ∧ Below W0.heap.size W0 _›; refine (head_any _ (Env.below HEV.out z2)).mono ?_; rintro e w' ⟨rfl, hb⟩)
      | (go_at_call 10; obtain ⟨z0, z1, z2⟩ := ‹_ ∧ _ ∧ Below W0.heap.size W0 _›; refine (K1.out _ (Env.below HEV.out z2)).mono ?_; rintro e w' ⟨rfl, hb⟩)
      | (go_at_call 11; obtain ⟨z0, z1, z2⟩ := ‹_ ∧ _ ∧ Below W0.heap.size W0 _›; refine (K2.out _ (Env.below HEV.out z2)).mono ?_; rintro e w' ⟨rfl, hb⟩))
  obtain ⟨z0, z1, z2⟩ := ‹_ ∧ _ ∧ Below W0.heap.size W0 _›
  rename World => w1
  have T0x : At2 w1 w.heap.size (.int .i64 a) (.int .i64 b) := HT0.out.below z2 (by omega)
  have T1x : At2 w1 (w.heap.size + 1) (.int .i64 c) (.int .i64 d) := HT1.out.below z2 (by omega)
  have HB1 : Below w.heap.size w w1 := HBB.out.trans (z2.mono HBB.out.size)
  have hq1 := HB1.size
  clear z0 z1 z2 q0 q1 HT0 HT1 HEV HBB
  obtain ⟨p0a, p0b, p0c, p0d⟩ := T0x
  have p0l : w.heap.size < w1.heap.size := World.block_lt_of_cell? _ _ p0a
  obtain ⟨p1a, p1b, p1c, p1d⟩ := T1x
  have p1l : w.heap.size + 1 < w1.heap.size := World.block_lt_of_cell? _ _ p1a
  go_wp2_with fail
  refine (K3.out _ (HE.out.below HB1)).mono ?_
  rintro e w2 ⟨rfl, hb2⟩
  have hz2 := hb2.size
  have p0t := (At2.mk p0a p0b p0c p0d).below hb2 (by omega)
  have p1t := (At2.mk p1a p1b p1c p1d).below hb2 (by omega)
  have HB2 : Below w.heap.size w w2 := HB1.trans (hb2.mono hq1)
  have hq2 := HB2.size
  clear hb2 HB1 p0a p0b p0c p0d p0l p1a p1b p1c p1d p1l
  obtain ⟨p0a, p0b, p0c, p0d⟩ := p0t
  have p0l : w.heap.size < w2.heap.size := World.block_lt_of_cell? _ _ p0a
  obtain ⟨p1a, p1b, p1c, p1d⟩ := p1t
  have p1l : w.heap.size + 1 < w2.heap.size := World.block_lt_of_cell? _ _ p1a
  go_wp2_with fail
  refine (K4.out _ ((HE.out.below HB2).below ((Below.refl _ _).alloc (Nat.le_refl _) _))).mono ?_
  rintro e w3 ⟨rfl, hb3⟩
  have hz3 := hb3.size
  simp only [World.size_alloc] at hz3
  have p0t := ((At2.mk p0a p0b p0c p0d).alloc (by omega) _).below hb3 (by simp; omega)
  have p1t := ((At2.mk p1a p1b p1c p1d).alloc (by omega) _).below hb3 (by simp; omega)
  have qt := (At2.new w2 (.int .i64 x1) (.int .i64 y1) 23).below hb3 (by simp)
  have HB3 : Below w.heap.size w w3 := (HB2.alloc hq2 _).trans (hb3.mono (by simp; omega))
  have hq3 := HB3.size
  have nqp0 := p0l
  have nqp1 := p1l
  clear hb3 HB2 p0a p0b p0c p0d p0l p1a p1b p1c p1d p1l
  obtain ⟨p0a, p0b, p0c, p0d⟩ := p0t
  have p0l : w.heap.size < w3.heap.size := World.block_lt_of_cell? _ _ p0a
  obtain ⟨p1a, p1b, p1c, p1d⟩ := p1t
  have p1l : w.heap.size + 1 < w3.heap.size := World.block_lt_of_cell? _ _ p1a
  obtain ⟨qa, qb, qc, qd⟩ := qt
  have ql : w2.heap.size < w3.heap.size := World.block_lt_of_cell? _ _ qa
  go_wp2_with fail
  refine (K5.out _ ((HE.out.below HB3).below ((Below.refl _ _).alloc (Nat.le_refl _) _))).mono ?_
  rintro e w4 ⟨rfl, hb4⟩
  have hz4 := hb4.size
  simp only [World.size_alloc] at hz4
  have p0t := ((At2.mk p0a p0b p0c p0d).alloc (by omega) _).below hb4 (by simp; omega)
  have p1t := ((At2.mk p1a p1b p1c p1d).alloc (by omega) _).below hb4 (by simp; omega)
  have qt := ((At2.mk qa qb qc qd).alloc (by omega) _).below hb4 (by simp; omega)
  have rt := (At2.new w3 (.int .i64 x1) (.int .i64 y1) 23).below hb4 (by simp)
  have HB4 : Below w.heap.size w w4 := (HB3.alloc hq3 _).trans (hb4.mono (by simp; omega))
  have hq4 := HB4.size
  have nrp0 := p0l
  have nrp1 := p1l
  have nrq := ql
  clear hb4 HB3 p0a p0b p0c p0d p0l p1a p1b p1c p1d p1l qa qb qc qd ql
  obtain ⟨p0a, p0b, p0c, p0d⟩ := p0t
  have p0l : w.heap.size < w4.heap.size := World.block_lt_of_cell? _ _ p0a
  obtain ⟨p1a, p1b, p1c, p1d⟩ := p1t
  have p1l : w.heap.size + 1 < w4.heap.size := World.block_lt_of_cell? _ _ p1a
  obtain ⟨qa, qb, qc, qd⟩ := qt
  have ql : w2.heap.size < w4.heap.size := World.block_lt_of_cell? _ _ qa
  obtain ⟨ra, rb, rc, rd⟩ := rt
  have rl : w3.heap.size < w4.heap.size := World.block_lt_of_cell? _ _ ra
  obtain ⟨p0sa, p0sb, p0sc, p0sd⟩ := (At2.mk p0a p0b p0c p0d).other (b' := w2.heap.size) (by omega) (.int .i64 x2) (.int .i64 y2)
  obtain ⟨p1sa, p1sb, p1sc, p1sd⟩ := (At2.mk p1a p1b p1c p1d).other (b' := w2.heap.size) (by omega) (.int .i64 x2) (.int .i64 y2)
  obtain ⟨qsa, qsb, qsc, qsd⟩ := (At2.mk qa qb qc qd).set (.int .i64 x2) (.int .i64 y2)
  obtain ⟨rsa, rsb, rsc, rsd⟩ := (At2.mk ra rb rc rd).other (b' := w2.heap.size) (by omega) (.int .i64 x2) (.int .i64 y2)
  go_wp2_with fail
  clear p0sa p0sb p0sc p0sd p1sa p1sb p1sc p1sd qsa qsb qsc qsd rsa rsb rsc rsd
  refine (K6.out _ (HE.out.below ((HB4.setCell (p := ⟨w2.heap.size, 0, none⟩) (by first | omega | (simp; omega)) (.int .i64 x2)).setCell (p := ⟨w2.heap.size, 1, none⟩) (by first | omega | (simp; omega)) (.int .i64 y2)))).mono ?_
  rintro e w5 ⟨rfl, hb5⟩
  have hz5 := hb5.size
  simp only [World.size_setCell] at hz5
  have p0t := ((At2.mk p0a p0b p0c p0d).other (b' := w2.heap.size) (by omega) (.int .i64 x2) (.int .i64 y2)).below hb5 (by first | omega | (simp; omega))
  have p1t := ((At2.mk p1a p1b p1c p1d).other (b' := w2.heap.size) (by omega) (.int .i64 x2) (.int .i64 y2)).below hb5 (by first | omega | (simp; omega))
  have qt := ((At2.mk qa qb qc qd).set (.int .i64 x2) (.int .i64 y2)).below hb5 (by first | omega | (simp; omega))
  have rt := ((At2.mk ra rb rc rd).other (b' := w2.heap.size) (by omega) (.int .i64 x2) (.int .i64 y2)).below hb5 (by first | omega | (simp; omega))
  have HB5 : Below w.heap.size w w5 := ((HB4.setCell (p := ⟨w2.heap.size, 0, none⟩) (by first | omega | (simp; omega)) (.int .i64 x2)).setCell (p := ⟨w2.heap.size, 1, none⟩) (by first | omega | (simp; omega)) (.int .i64 y2)).trans (hb5.mono (by first | omega | (simp; omega)))
  have hq5 := HB5.size
  clear hb5 HB4 p0a p0b p0c p0d p0l p1a p1b p1c p1d p1l qa qb qc qd ql ra rb rc rd rl
  obtain ⟨p0a, p0b, p0c, p0d⟩ := p0t
  have p0l : w.heap.size < w5.heap.size := World.block_lt_of_cell? _ _ p0a
  obtain ⟨p1a, p1b, p1c, p1d⟩ := p1t
  have p1l : w.heap.size + 1 < w5.heap.size := World.block_lt_of_cell? _ _ p1a
  obtain ⟨qa, qb, qc, qd⟩ := qt
  have ql : w2.heap.size < w5.heap.size := World.block_lt_of_cell? _ _ qa
  obtain ⟨ra, rb, rc, rd⟩ := rt
  have rl : w3.heap.size < w5.heap.size := World.block_lt_of_cell? _ _ ra
  obtain ⟨p0sa, p0sb, p0sc, p0sd⟩ := (At2.mk p0a p0b p0c p0d).other (b' := w3.heap.size) (by omega) (.int .i64 x2) (.int .i64 y2)
  obtain ⟨p1sa, p1sb, p1sc, p1sd⟩ := (At2.mk p1a p1b p1c p1d).other (b' := w3.heap.size) (by omega) (.int .i64 x2) (.int .i64 y2)
  obtain ⟨qsa, qsb, qsc, qsd⟩ := (At2.mk qa qb qc qd).other (b' := w3.heap.size) (by omega) (.int .i64 x2) (.int .i64 y2)
  obtain ⟨rsa, rsb, rsc, rsd⟩ := (At2.mk ra rb rc rd).set (.int .i64 x2) (.int .i64 y2)
  go_wp2_with fail
  clear p0sa p0sb p0sc p0sd p1sa p1sb p1sc p1sd qsa qsb qsc qsd rsa rsb rsc rsd
  refine (K7.out _ (HE.out.below ((HB5.setCell (p := ⟨w3.heap.size, 0, none⟩) (by first | omega | (simp; omega)) (.int .i64 x2)).setCell (p := ⟨w3.heap.size, 1, none⟩) (by first | omega | (simp; omega)) (.int .i64 y2)))).mono ?_
  rintro e w6 ⟨rfl, hb6⟩
  have hz6 := hb6.size
  simp only [World.size_setCell] at hz6
  have p0t := ((At2.mk p0a p0b p0c p0d).other (b' := w3.heap.size) (by omega) (.int .i64 x2) (.int .i64 y2)).below hb6 (by first | omega | (simp; omega))
  have p1t := ((At2.mk p1a p1b p1c p1d).other (b' := w3.heap.size) (by omega) (.int .i64 x2) (.int .i64 y2)).below hb6 (by first | omega | (simp; omega))
  have qt := ((At2.mk qa qb qc qd).other (b' := w3.heap.size) (by omega) (.int .i64 x2) (.int .i64 y2)).below hb6 (by first | omega | (simp; omega))
  have rt := ((At2.mk ra rb rc rd).set (.int .i64 x2) (.int .i64 y2)).below hb6 (by first | omega | (simp; omega))
  have HB6 : Below w.heap.size w w6 := ((HB5.setCell (p := ⟨w3.heap.size, 0, none⟩) (by first | omega | (simp; omega)) (.int .i64 x2)).setCell (p := ⟨w3.heap.size, 1, none⟩) (by first | omega | (simp; omega)) (.int .i64 y2)).trans (hb6.mono (by first | omega | (simp; omega)))
  have hq6 := HB6.size
  clear hb6 HB5 p0a p0b p0c p0d p0l p1a p1b p1c p1d p1l qa qb qc qd ql ra rb rc rd rl
  obtain ⟨p0a, p0b, p0c, p0d⟩ := p0t
  have p0l : w.heap.size < w6.heap.size := World.block_lt_of_cell? _ _ p0a
  obtain ⟨p1a, p1b, p1c, p1d⟩ := p1t
  have p1l : w.heap.size + 1 < w6.heap.size := World.block_lt_of_cell? _ _ p1a
  obtain ⟨qa, qb, qc, qd⟩ := qt
  have ql : w2.heap.size < w6.heap.size := World.block_lt_of_cell? _ _ qa
  obtain ⟨ra, rb, rc, rd⟩ := rt
  have rl : w3.heap.size < w6.heap.size := World.block_lt_of_cell? _ _ ra
  obtain ⟨p0sa, p0sb, p0sc, p0sd⟩ := (At2.mk p0a p0b p0c p0d).other (b' := w2.heap.size) (by omega) (.int .i64 x3) (.int .i64 y3)
  obtain ⟨p1sa, p1sb, p1sc, p1sd⟩ := (At2.mk p1a p1b p1c p1d).other (b' := w2.heap.size) (by omega) (.int .i64 x3) (.int .i64 y3)
  obtain ⟨qsa, qsb, qsc, qsd⟩ := (At2.mk qa qb qc qd).set (.int .i64 x3) (.int .i64 y3)
  obtain ⟨rsa, rsb, rsc, rsd⟩ := (At2.mk ra rb rc rd).other (b' := w2.heap.size) (by omega) (.int .i64 x3) (.int .i64 y3)
  go_wp2_with fail
  clear p0sa p0sb p0sc p0sd p1sa p1sb p1sc p1sd qsa qsb qsc qsd rsa rsb rsc rsd
  refine (K8.out _ (HE.out.below ((HB6.setCell (p := ⟨w2.heap.size, 0, none⟩) (by first | omega | (simp; omega)) (.int .i64 x3)).setCell (p := ⟨w2.heap.size, 1, none⟩) (by first | omega | (simp; omega)) (.int .i64 y3)))).mono ?_
  rintro e w7 ⟨rfl, hb7⟩
  have hz7 := hb7.size
  simp only [World.size_setCell] at hz7
  have p0t := ((At2.mk p0a p0b p0c p0d).other (b' := w2.heap.size) (by omega) (.int .i64 x3) (.int .i64 y3)).below hb7 (by first | omega | (simp; omega))
  have p1t := ((At2.mk p1a p1b p1c p1d).other (b' := w2.heap.size) (by omega) (.int .i64 x3) (.int .i64 y3)).below hb7 (by first | omega | (simp; omega))
  have qt := ((At2.mk qa qb qc qd).set (.int .i64 x3) (.int .i64 y3)).below hb7 (by first | omega | (simp; omega))
  have rt := ((At2.mk ra rb rc rd).other (b' := w2.heap.size) (by omega) (.int .i64 x3) (.int .i64 y3)).below hb7 (by first | omega | (simp; omega))
  have HB7 : Below w.heap.size w w7 := ((HB6.setCell (p := ⟨w2.heap.size, 0, none⟩) (by first | omega | (simp; omega)) (.int .i64 x3)).setCell (p := ⟨w2.heap.size, 1, none⟩) (by first | omega | (simp; omega)) (.int .i64 y3)).trans (hb7.mono (by first | omega | (simp; omega)))
  have hq7 := HB7.size
  clear hb7 HB6 p0a p0b p0c p0d p0l p1a p1b p1c p1d p1l qa qb qc qd ql ra rb rc rd rl
  obtain ⟨p0a, p0b, p0c, p0d⟩ := p0t
  have p0l : w.heap.size < w7.heap.size := World.block_lt_of_cell? _ _ p0a
  obtain ⟨p1a, p1b, p1c, p1d⟩ := p1t
  have p1l : w.heap.size + 1 < w7.heap.size := World.block_lt_of_cell? _ _ p1a
  obtain ⟨qa, qb, qc, qd⟩ := qt
  have ql : w2.heap.size < w7.heap.size := World.block_lt_of_cell? _ _ qa
  obtain ⟨ra, rb, rc, rd⟩ := rt
  have rl : w3.heap.size < w7.heap.size := World.block_lt_of_cell? _ _ ra
  obtain ⟨p0sa, p0sb, p0sc, p0sd⟩ := (At2.mk p0a p0b p0c p0d).other (b' := w3.heap.size) (by omega) (.int .i64 x3) (.int .i64 y3)
  obtain ⟨p1sa, p1sb, p1sc, p1sd⟩ := (At2.mk p1a p1b p1c p1d).other (b' := w3.heap.size) (by omega) (.int .i64 x3) (.int .i64 y3)
  obtain ⟨qsa, qsb, qsc, qsd⟩ := (At2.mk qa qb qc qd).other (b' := w3.heap.size) (by omega) (.int .i64 x3) (.int .i64 y3)
  obtain ⟨rsa, rsb, rsc, rsd⟩ := (At2.mk ra rb rc rd).set (.int .i64 x3) (.int .i64 y3)
  go_wp2_with fail
  clear p0sa p0sb p0sc p0sd p1sa p1sb p1sc p1sd qsa qsb qsc qsd rsa rsb rsc rsd
  refine (K9.out _ (HE.out.below ((HB7.setCell (p := ⟨w3.heap.size, 0, none⟩) (by first | omega | (simp; omega)) (.int .i64 x3)).setCell (p := ⟨w3.heap.size, 1, none⟩) (by first | omega | (simp; omega)) (.int .i64 y3)))).mono ?_
  rintro e w8 ⟨rfl, hb8⟩
  have hz8 := hb8.size
  simp only [World.size_setCell] at hz8
  have p0t := ((At2.mk p0a p0b p0c p0d).other (b' := w3.heap.size) (by omega) (.int .i64 x3) (.int .i64 y3)).below hb8 (by first | omega | (simp; omega))
  have p1t := ((At2.mk p1a p1b p1c p1d).other (b' := w3.heap.size) (by omega) (.int .i64 x3) (.int .i64 y3)).below hb8 (by first | omega | (simp; omega))
  have qt := ((At2.mk qa qb qc qd).other (b' := w3.heap.size) (by omega) (.int .i64 x3) (.int .i64 y3)).below hb8 (by first | omega | (simp; omega))
  have rt := ((At2.mk ra rb rc rd).set (.int .i64 x3) (.int .i64 y3)).below hb8 (by first | omega | (simp; omega))
  have HB8 : Below w.heap.size w w8 := ((HB7.setCell (p := ⟨w3.heap.size, 0, none⟩) (by first | omega | (simp; omega)) (.int .i64 x3)).setCell (p := ⟨w3.heap.size, 1, none⟩) (by first | omega | (simp; omega)) (.int .i64 y3)).trans (hb8.mono (by first | omega | (simp; omega)))
  have hq8 := HB8.size
  clear hb8 HB7 p0a p0b p0c p0d p0l p1a p1b p1c p1d p1l qa qb qc qd ql ra rb rc rd rl
  obtain ⟨p0a, p0b, p0c, p0d⟩ := p0t
  have p0l : w.heap.size < w8.heap.size := World.block_lt_of_cell? _ _ p0a
  obtain ⟨p1a, p1b, p1c, p1d⟩ := p1t
  have p1l : w.heap.size + 1 < w8.heap.size := World.block_lt_of_cell? _ _ p1a
  obtain ⟨qa, qb, qc, qd⟩ := qt
  have ql : w2.heap.size < w8.heap.size := World.block_lt_of_cell? _ _ qa
  obtain ⟨ra, rb, rc, rd⟩ := rt
  have rl : w3.heap.size < w8.heap.size := World.block_lt_of_cell? _ _ ra
  obtain ⟨p0sa, p0sb, p0sc, p0sd⟩ := (At2.mk p0a p0b p0c p0d).other (b' := w2.heap.size) (by omega) (.int .i64 x4) (.int .i64 y4)
  obtain ⟨p1sa, p1sb, p1sc, p1sd⟩ := (At2.mk p1a p1b p1c p1d).other (b' := w2.heap.size) (by omega) (.int .i64 x4) (.int .i64 y4)
  obtain ⟨qsa, qsb, qsc, qsd⟩ := (At2.mk qa qb qc qd).set (.int .i64 x4) (.int .i64 y4)
  obtain ⟨rsa, rsb, rsc, rsd⟩ := (At2.mk ra rb rc rd).other (b' := w2.heap.size) (by omega) (.int .i64 x4) (.int .i64 y4)
  go_wp2_with fail
  clear p0sa p0sb p0sc p0sd p1sa p1sb p1sc p1sd qsa qsb qsc qsd rsa rsb rsc rsd
  refine (K10.out _ (HE.out.below ((HB8.setCell (p := ⟨w2.heap.size, 0, none⟩) (by first | omega | (simp; omega)) (.int .i64 x4)).setCell (p := ⟨w2.heap.size, 1, none⟩) (by first | omega | (simp; omega)) (.int .i64 y4)))).mono ?_
  rintro e w9 ⟨rfl, hb9⟩
  have hz9 := hb9.size
  simp only [World.size_setCell] at hz9
  have p0t := ((At2.mk p0a p0b p0c p0d).other (b' := w2.heap.size) (by omega) (.int .i64 x4) (.int .i64 y4)).below hb9 (by first | omega | (simp; omega))
  have p1t := ((At2.mk p1a p1b p1c p1d).other (b' := w2.heap.size) (by omega) (.int .i64 x4) (.int .i64 y4)).below hb9 (by first | omega | (simp; omega))
  have qt := ((At2.mk qa qb qc qd).set (.int .i64 x4) (.int .i64 y4)).below hb9 (by first | omega | (simp; omega))
  have rt := ((At2.mk ra rb rc rd).other (b' := w2.heap.size) (by omega) (.int .i64 x4) (.int .i64 y4)).below hb9 (by first | omega | (simp; omega))
  have HB9 : Below w.heap.size w w9 := ((HB8.setCell (p := ⟨w2.heap.size, 0, none⟩) (by first | omega | (simp; omega)) (.int .i64 x4)).setCell (p := ⟨w2.heap.size, 1, none⟩) (by first | omega | (simp; omega)) (.int .i64 y4)).trans (hb9.mono (by first | omega | (simp; omega)))
  have hq9 := HB9.size
  clear hb9 HB8 p0a p0b p0c p0d p0l p1a p1b p1c p1d p1l qa qb qc qd ql ra rb rc rd rl
  obtain ⟨p0a, p0b, p0c, p0d⟩ := p0t
  have p0l : w.heap.size < w9.heap.size := World.block_lt_of_cell? _ _ p0a
  obtain ⟨p1a, p1b, p1c, p1d⟩ := p1t
  have p1l : w.heap.size + 1 < w9.heap.size := World.block_lt_of_cell? _ _ p1a
  obtain ⟨qa, qb, qc, qd⟩ := qt
  have ql : w2.heap.size < w9.heap.size := World.block_lt_of_cell? _ _ qa
  obtain ⟨ra, rb, rc, rd⟩ := rt
  have rl : w3.heap.size < w9.heap.size := World.block_lt_of_cell? _ _ ra
  obtain ⟨p0sa, p0sb, p0sc, p0sd⟩ := (At2.mk p0a p0b p0c p0d).other (b' := w3.heap.size) (by omega) (.int .i64 x4) (.int .i64 y4)
  obtain ⟨p1sa, p1sb, p1sc, p1sd⟩ := (At2.mk p1a p1b p1c p1d).other (b' := w3.heap.size) (by omega) (.int .i64 x4) (.int .i64 y4)
  obtain ⟨qsa, qsb, qsc, qsd⟩ := (At2.mk qa qb qc qd).other (b' := w3.heap.size) (by omega) (.int .i64 x4) (.int .i64 y4)
  obtain ⟨rsa, rsb, rsc, rsd⟩ := (At2.mk ra rb rc rd).set (.int .i64 x4) (.int .i64 y4)
  go_wp2_with fail
  clear p0sa p0sb p0sc p0sd p1sa p1sb p1sc p1sd qsa qsb qsc qsd rsa rsb rsc rsd
  refine (K11.out _ (HE.out.below ((HB9.setCell (p := ⟨w3.heap.size, 0, none⟩) (by first | omega | (simp; omega)) (.int .i64 x4)).setCell (p := ⟨w3.heap.size, 1, none⟩) (by first | omega | (simp; omega)) (.int .i64 y4)))).mono ?_
  rintro e w10 ⟨rfl, hb10⟩
  have hz10 := hb10.size
  simp only [World.size_setCell] at hz10
  have p0t := ((At2.mk p0a p0b p0c p0d).other (b' := w3.heap.size) (by omega) (.int .i64 x4) (.int .i64 y4)).below hb10 (by first | omega | (simp; omega))
  have p1t := ((At2.mk p1a p1b p1c p1d).other (b' := w3.heap.size) (by omega) (.int .i64 x4) (.int .i64 y4)).below hb10 (by first | omega | (simp; omega))
  have qt := ((At2.mk qa qb qc qd).other (b' := w3.heap.size) (by omega) (.int .i64 x4) (.int .i64 y4)).below hb10 (by first | omega | (simp; omega))
  have rt := ((At2.mk ra rb rc rd).set (.int .i64 x4) (.int .i64 y4)).below hb10 (by first | omega | (simp; omega))
  have HB10 : Below w.heap.size w w10 := ((HB9.setCell (p := ⟨w3.heap.size, 0, none⟩) (by first | omega | (simp; omega)) (.int .i64 x4)).setCell (p := ⟨w3.heap.size, 1, none⟩) (by first | omega | (simp; omega)) (.int .i64 y4)).trans (hb10.mono (by first | omega | (simp; omega)))
  have hq10 := HB10.size
  clear hb10 HB9 p0a p0b p0c p0d p0l p1a p1b p1c p1d p1l qa qb qc qd ql ra rb rc rd rl
  obtain ⟨p0a, p0b, p0c, p0d⟩ := p0t
  have p0l : w.heap.size < w10.heap.size := World.block_lt_of_cell? _ _ p0a
  obtain ⟨p1a, p1b, p1c, p1d⟩ := p1t
  have p1l : w.heap.size + 1 < w10.heap.size := World.block_lt_of_cell? _ _ p1a
  obtain ⟨qa, qb, qc, qd⟩ := qt
  have ql : w2.heap.size < w10.heap.size := World.block_lt_of_cell? _ _ qa
  obtain ⟨ra, rb, rc, rd⟩ := rt
  have rl : w3.heap.size < w10.heap.size := World.block_lt_of_cell? _ _ ra
  obtain ⟨p0sa, p0sb, p0sc, p0sd⟩ := (At2.mk p0a p0b p0c p0d).other (b' := w2.heap.size) (by omega) (.int .i64 x5) (.int .i64 y5)
  obtain ⟨p1sa, p1sb, p1sc, p1sd⟩ := (At2.mk p1a p1b p1c p1d).other (b' := w2.heap.size) (by omega) (.int .i64 x5) (.int .i64 y5)
  obtain ⟨qsa, qsb, qsc, qsd⟩ := (At2.mk qa qb qc qd).set (.int .i64 x5) (.int .i64 y5)
  obtain ⟨rsa, rsb, rsc, rsd⟩ := (At2.mk ra rb rc rd).other (b' := w2.heap.size) (by omega) (.int .i64 x5) (.int .i64 y5)
  go_wp2_with fail
  clear p0sa p0sb p0sc p0sd p1sa p1sb p1sc p1sd qsa qsb qsc qsd rsa rsb rsc rsd
  refine (K12.out _ (HE.out.below ((HB10.setCell (p := ⟨w2.heap.size, 0, none⟩) (by first | omega | (simp; omega)) (.int .i64 x5)).setCell (p := ⟨w2.heap.size, 1, none⟩) (by first | omega | (simp; omega)) (.int .i64 y5)))).mono ?_
  rintro e w11 ⟨rfl, hb11⟩
  have hz11 := hb11.size
  simp only [World.size_setCell] at hz11
  have p0t := ((At2.mk p0a p0b p0c p0d).other (b' := w2.heap.size) (by omega) (.int .i64 x5) (.int .i64 y5)).below hb11 (by first | omega | (simp; omega))
  have p1t := ((At2.mk p1a p1b p1c p1d).other (b' := w2.heap.size) (by omega) (.int .i64 x5) (.int .i64 y5)).below hb11 (by first | omega | (simp; omega))
  have qt := ((At2.mk qa qb qc qd).set (.int .i64 x5) (.int .i64 y5)).below hb11 (by first | omega | (simp; omega))
  have rt := ((At2.mk ra rb rc rd).other (b' := w2.heap.size) (by omega) (.int .i64 x5) (.int .i64 y5)).below hb11 (by first | omega | (simp; omega))
  have HB11 : Below w.heap.size w w11 := ((HB10.setCell (p := ⟨w2.heap.size, 0, none⟩) (by first | omega | (simp; omega)) (.int .i64 x5)).setCell (p := ⟨w2.heap.size, 1, none⟩) (by first | omega | (simp; omega)) (.int .i64 y5)).trans (hb11.mono (by first | omega | (simp; omega)))
  have hq11 := HB11.size
  clear hb11 HB10 p0a p0b p0c p0d p0l p1a p1b p1c p1d p1l qa qb qc qd ql ra rb rc rd rl
  obtain ⟨p0a, p0b, p0c, p0d⟩ := p0t
  have p0l : w.heap.size < w11.heap.size := World.block_lt_of_cell? _ _ p0a
  obtain ⟨p1a, p1b, p1c, p1d⟩ := p1t
  have p1l : w.heap.size + 1 < w11.heap.size := World.block_lt_of_cell? _ _ p1a
  obtain ⟨qa, qb, qc, qd⟩ := qt
  have ql : w2.heap.size < w11.heap.size := World.block_lt_of_cell? _ _ qa
  obtain ⟨ra, rb, rc, rd⟩ := rt
  have rl : w3.heap.size < w11.heap.size := World.block_lt_of_cell? _ _ ra
  obtain ⟨p0sa, p0sb, p0sc, p0sd⟩ := (At2.mk p0a p0b p0c p0d).other (b' := w3.heap.size) (by omega) (.int .i64 x5) (.int .i64 y5)
  obtain ⟨p1sa, p1sb, p1sc, p1sd⟩ := (At2.mk p1a p1b p1c p1d).other (b' := w3.heap.size) (by omega) (.int .i64 x5) (.int .i64 y5)
  obtain ⟨qsa, qsb, qsc, qsd⟩ := (At2.mk qa qb qc qd).other (b' := w3.heap.size) (by omega) (.int .i64 x5) (.int .i64 y5)
  obtain ⟨rsa, rsb, rsc, rsd⟩ := (At2.mk ra rb rc rd).set (.int .i64 x5) (.int .i64 y5)
  go_wp2_with fail
  clear p0sa p0sb p0sc p0sd p1sa p1sb p1sc p1sd qsa qsb qsc qsd rsa rsb rsc rsd
  refine (K13.out _ (HE.out.below ((HB11.setCell (p := ⟨w3.heap.size, 0, none⟩) (by first | omega | (simp; omega)) (.int .i64 x5)).setCell (p := ⟨w3.heap.size, 1, none⟩) (by first | omega | (simp; omega)) (.int .i64 y5)))).mono ?_
  rintro e w12 ⟨rfl, hb12⟩
  have hz12 := hb12.size
  simp only [World.size_setCell] at hz12
  have p0t := ((At2.mk p0a p0b p0c p0d).other (b' := w3.heap.size) (by omega) (.int .i64 x5) (.int .i64 y5)).below hb12 (by first | omega | (simp; omega))
  have p1t := ((At2.mk p1a p1b p1c p1d).other (b' := w3.heap.size) (by omega) (.int .i64 x5) (.int .i64 y5)).below hb12 (by first | omega | (simp; omega))
  have qt := ((At2.mk qa qb qc qd).other (b' := w3.heap.size) (by omega) (.int .i64 x5) (.int .i64 y5)).below hb12 (by first | omega | (simp; omega))
  have rt := ((At2.mk ra rb rc rd).set (.int .i64 x5) (.int .i64 y5)).below hb12 (by first | omega | (simp; omega))
  have HB12 : Below w.heap.size w w12 := ((HB11.setCell (p := ⟨w3.heap.size, 0, none⟩) (by first | omega | (simp; omega)) (.int .i64 x5)).setCell (p := ⟨w3.heap.size, 1, none⟩) (by first | omega | (simp; omega)) (.int .i64 y5)).trans (hb12.mono (by first | omega | (simp; omega)))
  have hq12 := HB12.size
  clear hb12 HB11 p0a p0b p0c p0d p0l p1a p1b p1c p1d p1l qa qb qc qd ql ra rb rc rd rl
  obtain ⟨p0a, p0b, p0c, p0d⟩ := p0t
  have p0l : w.heap.size < w12.heap.size := World.block_lt_of_cell? _ _ p0a
  obtain ⟨p1a, p1b, p1c, p1d⟩ := p1t
  have p1l : w.heap.size + 1 < w12.heap.size := World.block_lt_of_cell? _ _ p1a
  obtain ⟨qa, qb, qc, qd⟩ := qt
  have ql : w2.heap.size < w12.heap.size := World.block_lt_of_cell? _ _ qa
  obtain ⟨ra, rb, rc, rd⟩ := rt
  have rl : w3.heap.size < w12.heap.size := World.block_lt_of_cell? _ _ ra
  go_wp2_with fail
  refine (K14.out _ (HE.out.below HB12)).mono ?_
  rintro e w13 ⟨rfl, hb13⟩
  have hz13 := hb13.size
  have p0t := (At2.mk p0a p0b p0c p0d).below hb13 (by omega)
  have p1t := (At2.mk p1a p1b p1c p1d).below hb13 (by omega)
  have qt := (At2.mk qa qb qc qd).below hb13 (by omega)
  have rt := (At2.mk ra rb rc rd).below hb13 (by omega)
  have HB13 : Below w.heap.size w w13 := HB12.trans (hb13.mono hq12)
  have hq13 := HB13.size
  clear hb13 HB12 p0a p0b p0c p0d p0l p1a p1b p1c p1d p1l qa qb qc qd ql ra rb rc rd rl
  obtain ⟨p0a, p0b, p0c, p0d⟩ := p0t
  have p0l : w.heap.size < w13.heap.size := World.block_lt_of_cell? _ _ p0a
  obtain ⟨p1a, p1b, p1c, p1d⟩ := p1t
  have p1l : w.heap.size + 1 < w13.heap.size := World.block_lt_of_cell? _ _ p1a
  obtain ⟨qa, qb, qc, qd⟩ := qt
  have ql : w2.heap.size < w13.heap.size := World.block_lt_of_cell? _ _ qa
  obtain ⟨ra, rb, rc, rd⟩ := rt
  have rl : w3.heap.size < w13.heap.size := World.block_lt_of_cell? _ _ ra
  go_wp2_with fail
  refine (K15.out _ (HE.out.below HB13)).mono ?_
  rintro e w14 ⟨rfl, hb14⟩
  have hz14 := hb14.size
  have p0t := (At2.mk p0a p0b p0c p0d).below hb14 (by omega)
  have p1t := (At2.mk p1a p1b p1c p1d).below hb14 (by omega)
  have qt := (At2.mk qa qb qc qd).below hb14 (by omega)
  have rt := (At2.mk ra rb rc rd).below hb14 (by omega)
  have HB14 : Below w.heap.size w w14 := HB13.trans (hb14.mono hq13)
  have hq14 := HB14.size
  clear hb14 HB13 p0a p0b p0c p0d p0l p1a p1b p1c p1d p1l qa qb qc qd ql ra rb rc rd rl
  obtain ⟨p0a, p0b, p0c, p0d⟩ := p0t
  have p0l : w.heap.size < w14.heap.size := World.block_lt_of_cell? _ _ p0a
  obtain ⟨p1a, p1b, p1c, p1d⟩ := p1t
  have p1l : w.heap.size + 1 < w14.heap.size := World.block_lt_of_cell? _ _ p1a
  obtain ⟨qa, qb, qc, qd⟩ := qt
  have ql : w2.heap.size < w14.heap.size := World.block_lt_of_cell? _ _ qa
  obtain ⟨ra, rb, rc, rd⟩ := rt
  have rl : w3.heap.size < w14.heap.size := World.block_lt_of_cell? _ _ ra
  go_wp2_with fail
  refine (K16.out _ (HE.out.below HB14)).mono ?_
  rintro e w15 ⟨rfl, hb15⟩
  have hz15 := hb15.size
  have p0t := (At2.mk p0a p0b p0c p0d).below hb15 (by omega)
  have p1t := (At2.mk p1a p1b p1c p1d).below hb15 (by omega)
  have qt := (At2.mk qa qb qc qd).below hb15 (by omega)
  have rt := (At2.mk ra rb rc rd).below hb15 (by omega)
  have HB15 : Below w.heap.size w w15 := HB14.trans (hb15.mono hq14)
  have hq15 := HB15.size
  clear hb15 HB14 p0a p0b p0c p0d p0l p1a p1b p1c p1d p1l qa qb qc qd ql ra rb rc rd rl
  obtain ⟨p0a, p0b, p0c, p0d⟩ := p0t
  have p0l : w.heap.size < w15.heap.size := World.block_lt_of_cell? _ _ p0a
  obtain ⟨p1a, p1b, p1c, p1d⟩ := p1t
  have p1l : w.heap.size + 1 < w15.heap.size := World.block_lt_of_cell? _ _ p1a
  obtain ⟨qa, qb, qc, qd⟩ := qt
  have ql : w2.heap.size < w15.heap.size := World.block_lt_of_cell? _ _ qa
  obtain ⟨ra, rb, rc, rd⟩ := rt
  have rl : w3.heap.size < w15.heap.size := World.block_lt_of_cell? _ _ ra
  go_wp2_with fail
  refine (K17.out _ (HE.out.below HB15)).mono ?_
  rintro e w16 ⟨rfl, hb16⟩
  have hz16 := hb16.size
  have p0t := (At2.mk p0a p0b p0c p0d).below hb16 (by omega)
  have p1t := (At2.mk p1a p1b p1c p1d).below hb16 (by omega)
  have qt := (At2.mk qa qb qc qd).below hb16 (by omega)
  have rt := (At2.mk ra rb rc rd).below hb16 (by omega)
  have HB16 : Below w.heap.size w w16 := HB15.trans (hb16.mono hq15)
  have hq16 := HB16.size
  clear hb16 HB15 p0a p0b p0c p0d p0l p1a p1b p1c p1d p1l qa qb qc qd ql ra rb rc rd rl
  obtain ⟨p0a, p0b, p0c, p0d⟩ := p0t
  have p0l : w.heap.size < w16.heap.size := World.block_lt_of_cell? _ _ p0a
  obtain ⟨p1a, p1b, p1c, p1d⟩ := p1t
  have p1l : w.heap.size + 1 < w16.heap.size := World.block_lt_of_cell? _ _ p1a
  obtain ⟨qa, qb, qc, qd⟩ := qt
  have ql : w2.heap.size < w16.heap.size := World.block_lt_of_cell? _ _ qa
  obtain ⟨ra, rb, rc, rd⟩ := rt
  have rl : w3.heap.size < w16.heap.size := World.block_lt_of_cell? _ _ ra
  go_wp2_with fail
  refine (K18.out _ (HE.out.below HB16)).mono ?_
  rintro e w17 ⟨rfl, hb17⟩
  have hz17 := hb17.size
  have p0t := (At2.mk p0a p0b p0c p0d).below hb17 (by omega)
  have p1t := (At2.mk p1a p1b p1c p1d).below hb17 (by omega)
  have qt := (At2.mk qa qb qc qd).below hb17 (by omega)
  have rt := (At2.mk ra rb rc rd).below hb17 (by omega)
  have HB17 : Below w.heap.size w w17 := HB16.trans (hb17.mono hq16)
  have hq17 := HB17.size
  clear hb17 HB16 p0a p0b p0c p0d p0l p1a p1b p1c p1d p1l qa qb qc qd ql ra rb rc rd rl
  obtain ⟨p0a, p0b, p0c, p0d⟩ := p0t
  have p0l : w.heap.size < w17.heap.size := World.block_lt_of_cell? _ _ p0a
  obtain ⟨p1a, p1b, p1c, p1d⟩ := p1t
  have p1l : w.heap.size + 1 < w17.heap.size := World.block_lt_of_cell? _ _ p1a
  obtain ⟨qa, qb, qc, qd⟩ := qt
  have ql : w2.heap.size < w17.heap.size := World.block_lt_of_cell? _ _ qa
  obtain ⟨ra, rb, rc, rd⟩ := rt
  have rl : w3.heap.size < w17.heap.size := World.block_lt_of_cell? _ _ ra
  go_wp2_with fail
  refine (K19.out _ (HE.out.below HB17)).mono ?_
  rintro e w18 ⟨rfl, hb18⟩
  have hz18 := hb18.size
  have p0t := (At2.mk p0a p0b p0c p0d).below hb18 (by omega)
  have p1t := (At2.mk p1a p1b p1c p1d).below hb18 (by omega)
  have qt := (At2.mk qa qb qc qd).below hb18 (by omega)
  have rt := (At2.mk ra rb rc rd).below hb18 (by omega)
  have HB18 : Below w.heap.size w w18 := HB17.trans (hb18.mono hq17)
  have hq18 := HB18.size
  clear hb18 HB17 p0a p0b p0c p0d p0l p1a p1b p1c p1d p1l qa qb qc qd ql ra rb rc rd rl
  obtain ⟨p0a, p0b, p0c, p0d⟩ := p0t
  have p0l : w.heap.size < w18.heap.size := World.block_lt_of_cell? _ _ p0a
  obtain ⟨p1a, p1b, p1c, p1d⟩ := p1t
  have p1l : w.heap.size + 1 < w18.heap.size := World.block_lt_of_cell? _ _ p1a
  obtain ⟨qa, qb, qc, qd⟩ := qt
  have ql : w2.heap.size < w18.heap.size := World.block_lt_of_cell? _ _ qa
  obtain ⟨ra, rb, rc, rd⟩ := rt
  have rl : w3.heap.size < w18.heap.size := World.block_lt_of_cell? _ _ ra
  obtain ⟨p0sa, p0sb, p0sc, p0sd⟩ := (At2.mk p0a p0b p0c p0d).other (b' := w2.heap.size) (by omega) (.int .i64 x6) (.int .i64 y6)
  obtain ⟨p1sa, p1sb, p1sc, p1sd⟩ := (At2.mk p1a p1b p1c p1d).other (b' := w2.heap.size) (by omega) (.int .i64 x6) (.int .i64 y6)
  obtain ⟨qsa, qsb, qsc, qsd⟩ := (At2.mk qa qb qc qd).set (.int .i64 x6) (.int .i64 y6)
  obtain ⟨rsa, rsb, rsc, rsd⟩ := (At2.mk ra rb rc rd).other (b' := w2.heap.size) (by omega) (.int .i64 x6) (.int .i64 y6)
  go_wp2_with fail
  clear p0sa p0sb p0sc p0sd p1sa p1sb p1sc p1sd qsa qsb qsc qsd rsa rsb rsc rsd
  refine (K20.out _ (HE.out.below ((HB18.setCell (p := ⟨w2.heap.size, 0, none⟩) (by first | omega | (simp; omega)) (.int .i64 x6)).setCell (p := ⟨w2.heap.size, 1, none⟩) (by first | omega | (simp; omega)) (.int .i64 y6)))).mono ?_
  rintro e w19 ⟨rfl, hb19⟩
  have hz19 := hb19.size
  simp only [World.size_setCell] at hz19
  have p0t := ((At2.mk p0a p0b p0c p0d).other (b' := w2.heap.size) (by omega) (.int .i64 x6) (.int .i64 y6)).below hb19 (by first | omega | (simp; omega))
  have p1t := ((At2.mk p1a p1b p1c p1d).other (b' := w2.heap.size) (by omega) (.int .i64 x6) (.int .i64 y6)).below hb19 (by first | omega | (simp; omega))
  have qt := ((At2.mk qa qb qc qd).set (.int .i64 x6) (.int .i64 y6)).below hb19 (by first | omega | (simp; omega))
  have rt := ((At2.mk ra rb rc rd).other (b' := w2.heap.size) (by omega) (.int .i64 x6) (.int .i64 y6)).below hb19 (by first | omega | (simp; omega))
  have HB19 : Below w.heap.size w w19 := ((HB18.setCell (p := ⟨w2.heap.size, 0, none⟩) (by first | omega | (simp; omega)) (.int .i64 x6)).setCell (p := ⟨w2.heap.size, 1, none⟩) (by first | omega | (simp; omega)) (.int .i64 y6)).trans (hb19.mono (by first | omega | (simp; omega)))
  have hq19 := HB19.size
  clear hb19 HB18 p0a p0b p0c p0d p0l p1a p1b p1c p1d p1l qa qb qc qd ql ra rb rc rd rl
  obtain ⟨p0a, p0b, p0c, p0d⟩ := p0t
  have p0l : w.heap.size < w19.heap.size := World.block_lt_of_cell? _ _ p0a
  obtain ⟨p1a, p1b, p1c, p1d⟩ := p1t
  have p1l : w.heap.size + 1 < w19.heap.size := World.block_lt_of_cell? _ _ p1a
  obtain ⟨qa, qb, qc, qd⟩ := qt
  have ql : w2.heap.size < w19.heap.size := World.block_lt_of_cell? _ _ qa
  obtain ⟨ra, rb, rc, rd⟩ := rt
  have rl : w3.heap.size < w19.heap.size := World.block_lt_of_cell? _ _ ra
  go_wp2
  go_ret
  exact ⟨rfl, (by repeat' (first | exact HB19 | refine Below.setCell ?_ (by first | omega | (simp; done) | (simp; omega)) _ | refine below_drewN ?_ _ | refine Below.alloc ?_ (by first | omega | (simp; done) | (simp; omega)) _))⟩
end Go.Proofs.YtohnmffokichkaaDoor
