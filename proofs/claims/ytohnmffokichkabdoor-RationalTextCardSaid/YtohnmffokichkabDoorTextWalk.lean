/-
  The law on texts.
-/
import Derived.Test.YtohnmffokichkabDoorWalks9
import Derived.Test.YtohnmffokichkabDoorMath3
namespace Go.Proofs.YtohnmffokichkabDoor
open Go.RowKit

/-- What a call returns where the library's variables read as they were laid. -/
def GivesE (f : Nat) (args : Array Value) (v : Value) : Prop := ∀ w : World, Env w → Calls Tryd.prog f args w fun e w' => e = .returned v ∧ Below w.heap.size w w'
theorem givesE_of {f : Nat} {args : Array Value} {v v' : Value} (h : GivesE f args v) (e : v = v') : GivesE f args v' := by subst e; exact h

set_option maxRecDepth 100000 in
set_option maxHeartbeats 1000000 in
theorem text_law_yy (a b p1 p2 : Int) (s t : ByteArray) (w : World) (hE : Env w)
    (k1 : GivesE 5 #[.agg #[.int .i64 a, .int .i64 b]] (.bool true))
    (k2 : GivesE 6 #[.agg #[.int .i64 a, .int .i64 b]] (.tuple #[.string t, .int .i64 0]))
    (k3 : GivesE 7 #[.string t] (.tuple #[.agg #[.int .i64 a, .int .i64 b], .int .i64 0]))
    (k4 : GivesE 7 #[.string s] (.tuple #[.agg #[.int .i64 p1, .int .i64 p2], .int .i64 0]))
    (k5 : GivesE 6 #[.agg #[.int .i64 p1, .int .i64 p2]] (.tuple #[.string s, .int .i64 0]))
    (k6 : GivesE 5 #[.agg #[.int .i64 p1, .int .i64 p2]] (.bool true)) :
    Calls Tryd.prog 3 #[.agg #[.int .i64 a, .int .i64 b], .string s] w fun e w' =>
      e = .returned (.bool true) ∧ Below w.heap.size w w' := by
  have HE := Lib.hid hE
  have K1 := Lib.hid k1
  have K2 := Lib.hid k2
  have K3 := Lib.hid k3
  have K4 := Lib.hid k4
  have K5 := Lib.hid k5
  have K6 := Lib.hid k6
  clear hE k1 k2 k3 k4 k5 k6
  go_enter Tryd.func3, Tryd.ntmps3
  go_wp2_with fail
  refine (head_any _ (HE.out.below ((Below.refl _ _).alloc (Nat.le_refl _) _))).mono ?_
  rintro e w1 ⟨rfl, hb1⟩
  have hz1 := hb1.size
  simp only [World.size_alloc] at hz1
  have T0x : At2 w1 (w.heap.size) (.int .i64 a) (.int .i64 b) := by
    have := (At2.new w (.int .i64 a) (.int .i64 b) 23).below hb1 (by first | (simp; done) | (simp; omega))
    simpa using this
  have HB1 : Below w.heap.size w w1 := ((Below.refl _ _).alloc (by first | (exact Nat.le_refl _) | (simp; done) | (simp; omega)) _).trans (hb1.mono (by simp))
  have hq1 := HB1.size
  clear hb1
  obtain ⟨p0a, p0b, p0c, p0d⟩ := T0x
  have p0l : w.heap.size < w1.heap.size := World.block_lt_of_cell? _ _ p0a
  go_wp2_with fail
  refine (K1.out _ (HE.out.below HB1)).mono ?_
  rintro e w2 ⟨rfl, hb2⟩
  have hz2 := hb2.size
  have p0t := (At2.mk p0a p0b p0c p0d).below hb2 (by omega)
  have HB2 : Below w.heap.size w w2 := HB1.trans (hb2.mono hq1)
  have hq2 := HB2.size
  clear hb2 HB1 p0a p0b p0c p0d p0l
  obtain ⟨p0a, p0b, p0c, p0d⟩ := p0t
  have p0l : w.heap.size < w2.heap.size := World.block_lt_of_cell? _ _ p0a
  go_wp2_with fail
  refine (K2.out _ (HE.out.below HB2)).mono ?_
  rintro e w3 ⟨rfl, hb3⟩
  have hz3 := hb3.size
  have p0t := (At2.mk p0a p0b p0c p0d).below hb3 (by omega)
  have HB3 : Below w.heap.size w w3 := HB2.trans (hb3.mono hq2)
  have hq3 := HB3.size
  clear hb3 HB2 p0a p0b p0c p0d p0l
  obtain ⟨p0a, p0b, p0c, p0d⟩ := p0t
  have p0l : w.heap.size < w3.heap.size := World.block_lt_of_cell? _ _ p0a
  go_wp2_with fail
  refine (K3.out _ (HE.out.below HB3)).mono ?_
  rintro e w4 ⟨rfl, hb4⟩
  have hz4 := hb4.size
  have p0t := (At2.mk p0a p0b p0c p0d).below hb4 (by omega)
  have HB4 : Below w.heap.size w w4 := HB3.trans (hb4.mono hq3)
  have hq4 := HB4.size
  clear hb4 HB3 p0a p0b p0c p0d p0l
  obtain ⟨p0a, p0b, p0c, p0d⟩ := p0t
  have p0l : w.heap.size < w4.heap.size := World.block_lt_of_cell? _ _ p0a
  go_wp2_with fail
  refine (K4.out _ ((HE.out.below HB4).below ((Below.refl _ _).alloc (Nat.le_refl _) _))).mono ?_
  rintro e w5 ⟨rfl, hb5⟩
  have hz5 := hb5.size
  simp only [World.size_alloc] at hz5
  have p0t := ((At2.mk p0a p0b p0c p0d).alloc (by omega) _).below hb5 (by simp; omega)
  have qt := (At2.new w4 (.int .i64 a) (.int .i64 b) 23).below hb5 (by simp)
  have HB5 : Below w.heap.size w w5 := (HB4.alloc hq4 _).trans (hb5.mono (by simp; omega))
  have hq5 := HB5.size
  clear hb5 HB4 p0a p0b p0c p0d p0l
  obtain ⟨p0a, p0b, p0c, p0d⟩ := p0t
  have p0l : w.heap.size < w5.heap.size := World.block_lt_of_cell? _ _ p0a
  obtain ⟨qa, qb, qc, qd⟩ := qt
  have ql : w4.heap.size < w5.heap.size := World.block_lt_of_cell? _ _ qa
  go_wp2_with fail
  refine (K5.out _ ((HE.out.below HB5).below ((Below.refl _ _).alloc (Nat.le_refl _) _))).mono ?_
  rintro e w6 ⟨rfl, hb6⟩
  have hz6 := hb6.size
  simp only [World.size_alloc] at hz6
  have p0t := ((At2.mk p0a p0b p0c p0d).alloc (by omega) _).below hb6 (by simp; omega)
  have qt := ((At2.mk qa qb qc qd).alloc (by omega) _).below hb6 (by simp; omega)
  have rt := (At2.new w5 (.int .i64 p1) (.int .i64 p2) 23).below hb6 (by simp)
  have HB6 : Below w.heap.size w w6 := (HB5.alloc hq5 _).trans (hb6.mono (by simp; omega))
  have hq6 := HB6.size
  clear hb6 HB5 p0a p0b p0c p0d p0l qa qb qc qd ql
  obtain ⟨p0a, p0b, p0c, p0d⟩ := p0t
  have p0l : w.heap.size < w6.heap.size := World.block_lt_of_cell? _ _ p0a
  obtain ⟨qa, qb, qc, qd⟩ := qt
  have ql : w4.heap.size < w6.heap.size := World.block_lt_of_cell? _ _ qa
  obtain ⟨ra, rb, rc, rd⟩ := rt
  have rl : w5.heap.size < w6.heap.size := World.block_lt_of_cell? _ _ ra
  go_wp2_with fail
  refine (K6.out _ (HE.out.below HB6)).mono ?_
  rintro e w7 ⟨rfl, hb7⟩
  have hz7 := hb7.size
  have p0t := (At2.mk p0a p0b p0c p0d).below hb7 (by omega)
  have qt := (At2.mk qa qb qc qd).below hb7 (by omega)
  have rt := (At2.mk ra rb rc rd).below hb7 (by omega)
  have HB7 : Below w.heap.size w w7 := HB6.trans (hb7.mono hq6)
  have hq7 := HB7.size
  clear hb7 HB6 p0a p0b p0c p0d p0l qa qb qc qd ql ra rb rc rd rl
  obtain ⟨p0a, p0b, p0c, p0d⟩ := p0t
  have p0l : w.heap.size < w7.heap.size := World.block_lt_of_cell? _ _ p0a
  obtain ⟨qa, qb, qc, qd⟩ := qt
  have ql : w4.heap.size < w7.heap.size := World.block_lt_of_cell? _ _ qa
  obtain ⟨ra, rb, rc, rd⟩ := rt
  have rl : w5.heap.size < w7.heap.size := World.block_lt_of_cell? _ _ ra
  go_wp2
  go_ret
  exact ⟨rfl, (by repeat' (first | exact HB7 | refine Below.setCell ?_ (by first | omega | (simp; done) | (simp; omega)) _ | refine below_drewN ?_ _ | refine Below.alloc ?_ (by first | omega | (simp; done) | (simp; omega)) _))⟩

set_option maxRecDepth 100000 in
set_option maxHeartbeats 1000000 in
theorem text_law_yn (a b : Int) (s t : ByteArray) (w : World) (hE : Env w)
    (k1 : GivesE 5 #[.agg #[.int .i64 a, .int .i64 b]] (.bool true))
    (k2 : GivesE 6 #[.agg #[.int .i64 a, .int .i64 b]] (.tuple #[.string t, .int .i64 0]))
    (k3 : GivesE 7 #[.string t] (.tuple #[.agg #[.int .i64 a, .int .i64 b], .int .i64 0]))
    (k4 : GivesE 7 #[.string s] (.tuple #[.agg #[.int .i64 0, .int .i64 0], .int .i64 8])) :
    Calls Tryd.prog 3 #[.agg #[.int .i64 a, .int .i64 b], .string s] w fun e w' =>
      e = .returned (.bool true) ∧ Below w.heap.size w w' := by
  have HE := Lib.hid hE
  have K1 := Lib.hid k1
  have K2 := Lib.hid k2
  have K3 := Lib.hid k3
  have K4 := Lib.hid k4
  clear hE k1 k2 k3 k4
  go_enter Tryd.func3, Tryd.ntmps3
  go_wp2_with fail
  refine (head_any _ (HE.out.below ((Below.refl _ _).alloc (Nat.le_refl _) _))).mono ?_
  rintro e w1 ⟨rfl, hb1⟩
  have hz1 := hb1.size
  simp only [World.size_alloc] at hz1
  have T0x : At2 w1 (w.heap.size) (.int .i64 a) (.int .i64 b) := by
    have := (At2.new w (.int .i64 a) (.int .i64 b) 23).below hb1 (by first | (simp; done) | (simp; omega))
    simpa using this
  have HB1 : Below w.heap.size w w1 := ((Below.refl _ _).alloc (by first | (exact Nat.le_refl _) | (simp; done) | (simp; omega)) _).trans (hb1.mono (by simp))
  have hq1 := HB1.size
  clear hb1
  obtain ⟨p0a, p0b, p0c, p0d⟩ := T0x
  have p0l : w.heap.size < w1.heap.size := World.block_lt_of_cell? _ _ p0a
  go_wp2_with fail
  refine (K1.out _ (HE.out.below HB1)).mono ?_
  rintro e w2 ⟨rfl, hb2⟩
  have hz2 := hb2.size
  have p0t := (At2.mk p0a p0b p0c p0d).below hb2 (by omega)
  have HB2 : Below w.heap.size w w2 := HB1.trans (hb2.mono hq1)
  have hq2 := HB2.size
  clear hb2 HB1 p0a p0b p0c p0d p0l
  obtain ⟨p0a, p0b, p0c, p0d⟩ := p0t
  have p0l : w.heap.size < w2.heap.size := World.block_lt_of_cell? _ _ p0a
  go_wp2_with fail
  refine (K2.out _ (HE.out.below HB2)).mono ?_
  rintro e w3 ⟨rfl, hb3⟩
  have hz3 := hb3.size
  have p0t := (At2.mk p0a p0b p0c p0d).below hb3 (by omega)
  have HB3 : Below w.heap.size w w3 := HB2.trans (hb3.mono hq2)
  have hq3 := HB3.size
  clear hb3 HB2 p0a p0b p0c p0d p0l
  obtain ⟨p0a, p0b, p0c, p0d⟩ := p0t
  have p0l : w.heap.size < w3.heap.size := World.block_lt_of_cell? _ _ p0a
  go_wp2_with fail
  refine (K3.out _ (HE.out.below HB3)).mono ?_
  rintro e w4 ⟨rfl, hb4⟩
  have hz4 := hb4.size
  have p0t := (At2.mk p0a p0b p0c p0d).below hb4 (by omega)
  have HB4 : Below w.heap.size w w4 := HB3.trans (hb4.mono hq3)
  have hq4 := HB4.size
  clear hb4 HB3 p0a p0b p0c p0d p0l
  obtain ⟨p0a, p0b, p0c, p0d⟩ := p0t
  have p0l : w.heap.size < w4.heap.size := World.block_lt_of_cell? _ _ p0a
  go_wp2_with fail
  refine (K4.out _ ((HE.out.below HB4).below ((Below.refl _ _).alloc (Nat.le_refl _) _))).mono ?_
  rintro e w5 ⟨rfl, hb5⟩
  have hz5 := hb5.size
  simp only [World.size_alloc] at hz5
  have p0t := ((At2.mk p0a p0b p0c p0d).alloc (by omega) _).below hb5 (by simp; omega)
  have qt := (At2.new w4 (.int .i64 a) (.int .i64 b) 23).below hb5 (by simp)
  have HB5 : Below w.heap.size w w5 := (HB4.alloc hq4 _).trans (hb5.mono (by simp; omega))
  have hq5 := HB5.size
  clear hb5 HB4 p0a p0b p0c p0d p0l
  obtain ⟨p0a, p0b, p0c, p0d⟩ := p0t
  have p0l : w.heap.size < w5.heap.size := World.block_lt_of_cell? _ _ p0a
  obtain ⟨qa, qb, qc, qd⟩ := qt
  have ql : w4.heap.size < w5.heap.size := World.block_lt_of_cell? _ _ qa
  go_wp2
  go_ret
  exact ⟨rfl, (by repeat' (first | exact HB5 | refine Below.setCell ?_ (by first | omega | (simp; done) | (simp; omega)) _ | refine below_drewN ?_ _ | refine Below.alloc ?_ (by first | omega | (simp; done) | (simp; omega)) _))⟩

set_option maxRecDepth 100000 in
set_option maxHeartbeats 1000000 in
theorem text_law_ny (a b p1 p2 : Int) (s : ByteArray) (w : World) (hE : Env w)
    (k1 : GivesE 5 #[.agg #[.int .i64 a, .int .i64 b]] (.bool false))
    (k2 : GivesE 7 #[.string s] (.tuple #[.agg #[.int .i64 p1, .int .i64 p2], .int .i64 0]))
    (k3 : GivesE 6 #[.agg #[.int .i64 p1, .int .i64 p2]] (.tuple #[.string s, .int .i64 0]))
    (k4 : GivesE 5 #[.agg #[.int .i64 p1, .int .i64 p2]] (.bool true)) :
    Calls Tryd.prog 3 #[.agg #[.int .i64 a, .int .i64 b], .string s] w fun e w' =>
      e = .returned (.bool true) ∧ Below w.heap.size w w' := by
  have HE := Lib.hid hE
  have K1 := Lib.hid k1
  have K2 := Lib.hid k2
  have K3 := Lib.hid k3
  have K4 := Lib.hid k4
  clear hE k1 k2 k3 k4
  go_enter Tryd.func3, Tryd.ntmps3
  go_wp2_with fail
  refine (head_any _ (HE.out.below ((Below.refl _ _).alloc (Nat.le_refl _) _))).mono ?_
  rintro e w1 ⟨rfl, hb1⟩
  have hz1 := hb1.size
  simp only [World.size_alloc] at hz1
  have T0x : At2 w1 (w.heap.size) (.int .i64 a) (.int .i64 b) := by
    have := (At2.new w (.int .i64 a) (.int .i64 b) 23).below hb1 (by first | (simp; done) | (simp; omega))
    simpa using this
  have HB1 : Below w.heap.size w w1 := ((Below.refl _ _).alloc (by first | (exact Nat.le_refl _) | (simp; done) | (simp; omega)) _).trans (hb1.mono (by simp))
  have hq1 := HB1.size
  clear hb1
  obtain ⟨p0a, p0b, p0c, p0d⟩ := T0x
  have p0l : w.heap.size < w1.heap.size := World.block_lt_of_cell? _ _ p0a
  go_wp2_with fail
  refine (K1.out _ (HE.out.below HB1)).mono ?_
  rintro e w2 ⟨rfl, hb2⟩
  have hz2 := hb2.size
  have p0t := (At2.mk p0a p0b p0c p0d).below hb2 (by omega)
  have HB2 : Below w.heap.size w w2 := HB1.trans (hb2.mono hq1)
  have hq2 := HB2.size
  clear hb2 HB1 p0a p0b p0c p0d p0l
  obtain ⟨p0a, p0b, p0c, p0d⟩ := p0t
  have p0l : w.heap.size < w2.heap.size := World.block_lt_of_cell? _ _ p0a
  go_wp2_with fail
  refine (K2.out _ (HE.out.below HB2)).mono ?_
  rintro e w3 ⟨rfl, hb3⟩
  have hz3 := hb3.size
  have p0t := (At2.mk p0a p0b p0c p0d).below hb3 (by omega)
  have HB3 : Below w.heap.size w w3 := HB2.trans (hb3.mono hq2)
  have hq3 := HB3.size
  clear hb3 HB2 p0a p0b p0c p0d p0l
  obtain ⟨p0a, p0b, p0c, p0d⟩ := p0t
  have p0l : w.heap.size < w3.heap.size := World.block_lt_of_cell? _ _ p0a
  go_wp2_with fail
  refine (K3.out _ ((HE.out.below HB3).below ((Below.refl _ _).alloc (Nat.le_refl _) _))).mono ?_
  rintro e w4 ⟨rfl, hb4⟩
  have hz4 := hb4.size
  simp only [World.size_alloc] at hz4
  have p0t := ((At2.mk p0a p0b p0c p0d).alloc (by omega) _).below hb4 (by simp; omega)
  have rt := (At2.new w3 (.int .i64 p1) (.int .i64 p2) 23).below hb4 (by simp)
  have HB4 : Below w.heap.size w w4 := (HB3.alloc hq3 _).trans (hb4.mono (by simp; omega))
  have hq4 := HB4.size
  clear hb4 HB3 p0a p0b p0c p0d p0l
  obtain ⟨p0a, p0b, p0c, p0d⟩ := p0t
  have p0l : w.heap.size < w4.heap.size := World.block_lt_of_cell? _ _ p0a
  obtain ⟨ra, rb, rc, rd⟩ := rt
  have rl : w3.heap.size < w4.heap.size := World.block_lt_of_cell? _ _ ra
  go_wp2_with fail
  refine (K4.out _ (HE.out.below HB4)).mono ?_
  rintro e w5 ⟨rfl, hb5⟩
  have hz5 := hb5.size
  have p0t := (At2.mk p0a p0b p0c p0d).below hb5 (by omega)
  have rt := (At2.mk ra rb rc rd).below hb5 (by omega)
  have HB5 : Below w.heap.size w w5 := HB4.trans (hb5.mono hq4)
  have hq5 := HB5.size
  clear hb5 HB4 p0a p0b p0c p0d p0l ra rb rc rd rl
  obtain ⟨p0a, p0b, p0c, p0d⟩ := p0t
  have p0l : w.heap.size < w5.heap.size := World.block_lt_of_cell? _ _ p0a
  obtain ⟨ra, rb, rc, rd⟩ := rt
  have rl : w3.heap.size < w5.heap.size := World.block_lt_of_cell? _ _ ra
  go_wp2
  go_ret
  exact ⟨rfl, (by repeat' (first | exact HB5 | refine Below.setCell ?_ (by first | omega | (simp; done) | (simp; omega)) _ | refine below_drewN ?_ _ | refine Below.alloc ?_ (by first | omega | (simp; done) | (simp; omega)) _))⟩

set_option maxRecDepth 100000 in
set_option maxHeartbeats 1000000 in
theorem text_law_nn (a b : Int) (s : ByteArray) (w : World) (hE : Env w)
    (k1 : GivesE 5 #[.agg #[.int .i64 a, .int .i64 b]] (.bool false))
    (k2 : GivesE 7 #[.string s] (.tuple #[.agg #[.int .i64 0, .int .i64 0], .int .i64 8])) :
    Calls Tryd.prog 3 #[.agg #[.int .i64 a, .int .i64 b], .string s] w fun e w' =>
      e = .returned (.bool true) ∧ Below w.heap.size w w' := by
  have HE := Lib.hid hE
  have K1 := Lib.hid k1
  have K2 := Lib.hid k2
  clear hE k1 k2
  go_enter Tryd.func3, Tryd.ntmps3
  go_wp2_with fail
  refine (head_any _ (HE.out.below ((Below.refl _ _).alloc (Nat.le_refl _) _))).mono ?_
  rintro e w1 ⟨rfl, hb1⟩
  have hz1 := hb1.size
  simp only [World.size_alloc] at hz1
  have T0x : At2 w1 (w.heap.size) (.int .i64 a) (.int .i64 b) := by
    have := (At2.new w (.int .i64 a) (.int .i64 b) 23).below hb1 (by first | (simp; done) | (simp; omega))
    simpa using this
  have HB1 : Below w.heap.size w w1 := ((Below.refl _ _).alloc (by first | (exact Nat.le_refl _) | (simp; done) | (simp; omega)) _).trans (hb1.mono (by simp))
  have hq1 := HB1.size
  clear hb1
  obtain ⟨p0a, p0b, p0c, p0d⟩ := T0x
  have p0l : w.heap.size < w1.heap.size := World.block_lt_of_cell? _ _ p0a
  go_wp2_with fail
  refine (K1.out _ (HE.out.below HB1)).mono ?_
  rintro e w2 ⟨rfl, hb2⟩
  have hz2 := hb2.size
  have p0t := (At2.mk p0a p0b p0c p0d).below hb2 (by omega)
  have HB2 : Below w.heap.size w w2 := HB1.trans (hb2.mono hq1)
  have hq2 := HB2.size
  clear hb2 HB1 p0a p0b p0c p0d p0l
  obtain ⟨p0a, p0b, p0c, p0d⟩ := p0t
  have p0l : w.heap.size < w2.heap.size := World.block_lt_of_cell? _ _ p0a
  go_wp2_with fail
  refine (K2.out _ (HE.out.below HB2)).mono ?_
  rintro e w3 ⟨rfl, hb3⟩
  have hz3 := hb3.size
  have p0t := (At2.mk p0a p0b p0c p0d).below hb3 (by omega)
  have HB3 : Below w.heap.size w w3 := HB2.trans (hb3.mono hq2)
  have hq3 := HB3.size
  clear hb3 HB2 p0a p0b p0c p0d p0l
  obtain ⟨p0a, p0b, p0c, p0d⟩ := p0t
  have p0l : w.heap.size < w3.heap.size := World.block_lt_of_cell? _ _ p0a
  go_wp2
  go_ret
  exact ⟨rfl, (by repeat' (first | exact HB3 | refine Below.setCell ?_ (by first | omega | (simp; done) | (simp; omega)) _ | refine below_drewN ?_ _ | refine Below.alloc ?_ (by first | omega | (simp; done) | (simp; omega)) _))⟩

theorem bs_self (s : ByteArray) : bs s.data.toList = s := by apply ByteArray.ext; simp [bs]
theorem text_law (a b : Int) (s : ByteArray) (w : World) (hE : Env w)
    (a0 : -9223372036854775808 ≤ a) (a1 : a ≤ 9223372036854775807) (b0 : -9223372036854775808 ≤ b) (b1 : b ≤ 9223372036854775807) (hs : s.size ≤ 281474976710656) :
    Calls Tryd.prog 3 #[.agg #[.int .i64 a, .int .i64 b], .string s] w fun e w' =>
      e = .returned (.bool true) ∧ Below w.heap.size w w' := by
  have kv : ∀ v, vld a b = v → GivesE 5 #[.agg #[.int .i64 a, .int .i64 b]] (.bool v) := fun v hv w _ => by
    have h := valid_any a b w a0 a1 b0 b1
    rw [hv] at h; exact h
  have kt : ∀ c d, Q.Val c d → GivesE 6 #[.agg #[.int .i64 c, .int .i64 d]] (.tuple #[.string (bs (txt c d)), .int .i64 0]) := fun c d hv w hE => by
    have hv' := hv
    obtain ⟨h1, h2, h3, h4, _⟩ := hv'
    have h := text_any c d w hE (by omega) (by omega) (by omega) (by omega)
    rw [show texR c d = (txt c d, 0) by unfold texR; rw [if_pos ((vld_iff c d).2 hv)]] at h; exact h
  have kp : ∀ (u : ByteArray) p q e, u.size ≤ 281474976710656 → parR u = (p, q, e) → GivesE 7 #[.string u] (.tuple #[.agg #[.int .i64 p, .int .i64 q], .int .i64 e]) := fun u p q e hu hp w hE => by
    have h := parse_any u w hE hu
    rw [hp] at h; exact h
  obtain ⟨p, q, e, hp⟩ : ∃ p q e, parR s = (p, q, e) := ⟨_, _, _, rfl⟩
  have hlen : Q.Val a b → (bs (txt a b)).size ≤ 281474976710656 := fun _ => by
    rw [bs_size]
    have l1 := Lib.itoa_length_le a a0 a1
    have l2 := Lib.itoa_length_le b b0 b1
    unfold txt
    split
    · omega
    · simp; omega
  cases hv : vld a b
  · rcases par_ok hp with ⟨rfl, hq, ht⟩ | ⟨rfl, rfl, rfl⟩
    · have k5 := kt p q hq
      rw [ht, bs_self] at k5
      obtain ⟨h1, h2, h3, h4, _⟩ := (show Q.Val p q from hq)
      exact text_law_ny a b p q s w hE (kv false hv) (kp s p q 0 hs hp) k5 (fun w _ => by
        have h := valid_any p q w (by omega) (by omega) (by omega) (by omega)
        rw [(vld_iff p q).2 hq] at h; exact h)
    · exact text_law_nn a b s w hE (kv false hv) (kp s 0 0 8 hs hp)
  · have V := (vld_iff a b).1 hv
    have k2 := kt a b V
    have k3 := kp (bs (txt a b)) a b 0 (hlen V) (par_txt V)
    rcases par_ok hp with ⟨rfl, hq, ht⟩ | ⟨rfl, rfl, rfl⟩
    · have k5 := kt p q hq
      rw [ht, bs_self] at k5
      obtain ⟨h1, h2, h3, h4, _⟩ := (show Q.Val p q from hq)
      exact text_law_yy a b p q s _ w hE (kv true hv) k2 k3 (kp s p q 0 hs hp) k5 (fun w _ => by
        have h := valid_any p q w (by omega) (by omega) (by omega) (by omega)
        rw [(vld_iff p q).2 hq] at h; exact h)
    · exact text_law_yn a b s _ w hE (kv true hv) k2 k3 (kp s 0 0 8 hs hp)
end Go.Proofs.YtohnmffokichkabDoor
