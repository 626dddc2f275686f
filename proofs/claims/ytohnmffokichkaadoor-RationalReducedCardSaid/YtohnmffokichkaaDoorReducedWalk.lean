/-
  The walk of the law on what Make returns.
-/
import Derived.Test.YtohnmffokichkaaDoorSumsWalk
import Derived.Test.YtohnmffokichkaaDoorWalksB
namespace Go.Proofs.YtohnmffokichkaaDoor
open Go.RowKit

set_option maxRecDepth 100000 in
set_option maxHeartbeats 1000000 in
theorem reduced_zz (n k : Int) (w : World) (hE : Env w)
    (k1 : Gives 12 #[.int .i64 n, .int .i64 0] (.tuple #[.agg #[.int .i64 0, .int .i64 0], .int .i64 7]))
     (hk : k = 0) :
    Calls Tryd.prog 4 #[.int .i64 n, .int .i64 0, .int .i64 k] w fun e w' =>
      e = .returned (.bool true) ∧ Below w.heap.size w w' := by
  have HE := Lib.hid hE
  have K1 := Lib.hid k1
  clear hE k1
  subst hk
  go_enter Tryd.func4, Tryd.ntmps4
  go_wp2_with fail
  refine (head_any _ HE.out).mono ?_
  rintro e w1 ⟨rfl, hb1⟩
  have hz1 := hb1.size
  have HB1 : Below w.heap.size w w1 := hb1
  have hq1 := HB1.size
  clear hb1
  go_wp2_with fail
  refine (K1.out _).mono ?_
  rintro e w2 ⟨rfl, hb2⟩
  have hz2 := hb2.size
  have HB2 : Below w.heap.size w w2 := HB1.trans (hb2.mono hq1)
  have hq2 := HB2.size
  clear hb2 HB1 
  go_wp2
  go_ret
  exact ⟨rfl, (by repeat' (first | exact HB2 | refine Below.setCell ?_ (by first | omega | (simp; done) | (simp; omega)) _ | refine below_drewN ?_ _ | refine Below.alloc ?_ (by first | omega | (simp; done) | (simp; omega)) _))⟩

set_option maxRecDepth 100000 in
set_option maxHeartbeats 1000000 in
theorem reduced_za (n k : Int) (w : World) (hE : Env w)
    (k1 : Gives 12 #[.int .i64 n, .int .i64 0] (.tuple #[.agg #[.int .i64 0, .int .i64 0], .int .i64 7]))
     (hk : ¬ k = 0) (h1k : sml 1000 k = false) :
    Calls Tryd.prog 4 #[.int .i64 n, .int .i64 0, .int .i64 k] w fun e w' =>
      e = .returned (.bool true) ∧ Below w.heap.size w w' := by
  have HE := Lib.hid hE
  have K1 := Lib.hid k1
  clear hE k1
  have f2 : (k == 0) = false := by simp; exact hk
  have H1K := Lib.hid h1k
  clear h1k
  go_enter Tryd.func4, Tryd.ntmps4
  go_wp2_with fail
  refine (head_any _ HE.out).mono ?_
  rintro e w1 ⟨rfl, hb1⟩
  have hz1 := hb1.size
  have HB1 : Below w.heap.size w w1 := hb1
  have hq1 := HB1.size
  clear hb1
  go_wp2_with fail
  refine (K1.out _).mono ?_
  rintro e w2 ⟨rfl, hb2⟩
  have hz2 := hb2.size
  have HB2 : Below w.heap.size w w2 := HB1.trans (hb2.mono hq1)
  have hq2 := HB2.size
  clear hb2 HB1 
  go_wp2_with fail
  refine (small1 1000 k false _ _ (by simp) H1K.out (by omega) (by omega) _).mono ?_
  rintro e w3 ⟨rfl, hb3⟩
  have hz3 := hb3.size
  simp only [World.size_alloc] at hz3
  have rt := (At2.new w2 (.int .i64 0) (.int .i64 0) 23).below hb3 (by simp)
  have HB3 : Below w.heap.size w w3 := (HB2.alloc hq2 _).trans (hb3.mono (by simp; omega))
  have hq3 := HB3.size
  clear hb3 HB2 
  obtain ⟨ra, rb, rc, rd⟩ := rt
  have rl : w2.heap.size < w3.heap.size := World.block_lt_of_cell? _ _ ra
  go_wp2
  go_ret
  exact ⟨rfl, (by repeat' (first | exact HB3 | refine Below.setCell ?_ (by first | omega | (simp; done) | (simp; omega)) _ | refine below_drewN ?_ _ | refine Below.alloc ?_ (by first | omega | (simp; done) | (simp; omega)) _))⟩

set_option maxRecDepth 100000 in
set_option maxHeartbeats 1000000 in
theorem reduced_zb (n k : Int) (w : World) (hE : Env w)
    (k1 : Gives 12 #[.int .i64 n, .int .i64 0] (.tuple #[.agg #[.int .i64 0, .int .i64 0], .int .i64 7]))
     (hk : ¬ k = 0) (h1k : sml 1000 k = true) (h40 : (sml 1099511627776 n && sml 1099511627776 0) = false) :
    Calls Tryd.prog 4 #[.int .i64 n, .int .i64 0, .int .i64 k] w fun e w' =>
      e = .returned (.bool true) ∧ Below w.heap.size w w' := by
  have HE := Lib.hid hE
  have K1 := Lib.hid k1
  clear hE k1
  have f2 : (k == 0) = false := by simp; exact hk
  have H1K := Lib.hid h1k
  clear h1k
  have H40 := Lib.hid h40
  clear h40
  go_enter Tryd.func4, Tryd.ntmps4
  go_wp2_with fail
  refine (head_any _ HE.out).mono ?_
  rintro e w1 ⟨rfl, hb1⟩
  have hz1 := hb1.size
  have HB1 : Below w.heap.size w w1 := hb1
  have hq1 := HB1.size
  clear hb1
  go_wp2_with fail
  refine (K1.out _).mono ?_
  rintro e w2 ⟨rfl, hb2⟩
  have hz2 := hb2.size
  have HB2 : Below w.heap.size w w2 := HB1.trans (hb2.mono hq1)
  have hq2 := HB2.size
  clear hb2 HB1 
  go_wp2_with fail
  refine (small1 1000 k true _ _ (by simp) H1K.out (by omega) (by omega) _).mono ?_
  rintro e w3 ⟨rfl, hb3⟩
  have hz3 := hb3.size
  simp only [World.size_alloc] at hz3
  have rt := (At2.new w2 (.int .i64 0) (.int .i64 0) 23).below hb3 (by simp)
  have HB3 : Below w.heap.size w w3 := (HB2.alloc hq2 _).trans (hb3.mono (by simp; omega))
  have hq3 := HB3.size
  clear hb3 HB2 
  obtain ⟨ra, rb, rc, rd⟩ := rt
  have rl : w2.heap.size < w3.heap.size := World.block_lt_of_cell? _ _ ra
  go_wp2_with fail
  refine (small2 1099511627776 n 0 false _ _ (by simp) H40.out (by omega) (by omega) _).mono ?_
  rintro e w4 ⟨rfl, hb4⟩
  have hz4 := hb4.size
  have rt := (At2.mk ra rb rc rd).below hb4 (by omega)
  have HB4 : Below w.heap.size w w4 := HB3.trans (hb4.mono hq3)
  have hq4 := HB4.size
  clear hb4 HB3 ra rb rc rd rl
  obtain ⟨ra, rb, rc, rd⟩ := rt
  have rl : w2.heap.size < w4.heap.size := World.block_lt_of_cell? _ _ ra
  go_wp2
  go_ret
  exact ⟨rfl, (by repeat' (first | exact HB4 | refine Below.setCell ?_ (by first | omega | (simp; done) | (simp; omega)) _ | refine below_drewN ?_ _ | refine Below.alloc ?_ (by first | omega | (simp; done) | (simp; omega)) _))⟩

set_option maxRecDepth 100000 in
set_option maxHeartbeats 1000000 in
theorem reduced_zo (n k : Int) (w : World) (hE : Env w)
    (k1 : Gives 12 #[.int .i64 n, .int .i64 0] (.tuple #[.agg #[.int .i64 0, .int .i64 0], .int .i64 7]))
    (k3 : Gives 12 #[.int .i64 (wrap64 (k * n)), .int .i64 0] (.tuple #[.agg #[.int .i64 0, .int .i64 0], .int .i64 7]))
     (hk : ¬ k = 0) (h1k : sml 1000 k = true) (h40 : (sml 1099511627776 n && sml 1099511627776 0) = true) :
    Calls Tryd.prog 4 #[.int .i64 n, .int .i64 0, .int .i64 k] w fun e w' =>
      e = .returned (.bool true) ∧ Below w.heap.size w w' := by
  have HE := Lib.hid hE
  have K1 := Lib.hid k1
  have K3 := Lib.hid k3
  clear hE k1 k3
  have f2 : (k == 0) = false := by simp; exact hk
  have H1K := Lib.hid h1k
  clear h1k
  have H40 := Lib.hid h40
  clear h40
  go_enter Tryd.func4, Tryd.ntmps4
  go_wp2_with fail
  refine (head_any _ HE.out).mono ?_
  rintro e w1 ⟨rfl, hb1⟩
  have hz1 := hb1.size
  have HB1 : Below w.heap.size w w1 := hb1
  have hq1 := HB1.size
  clear hb1
  go_wp2_with fail
  refine (K1.out _).mono ?_
  rintro e w2 ⟨rfl, hb2⟩
  have hz2 := hb2.size
  have HB2 : Below w.heap.size w w2 := HB1.trans (hb2.mono hq1)
  have hq2 := HB2.size
  clear hb2 HB1 
  go_wp2_with fail
  refine (small1 1000 k true _ _ (by simp) H1K.out (by omega) (by omega) _).mono ?_
  rintro e w3 ⟨rfl, hb3⟩
  have hz3 := hb3.size
  simp only [World.size_alloc] at hz3
  have rt := (At2.new w2 (.int .i64 0) (.int .i64 0) 23).below hb3 (by simp)
  have HB3 : Below w.heap.size w w3 := (HB2.alloc hq2 _).trans (hb3.mono (by simp; omega))
  have hq3 := HB3.size
  clear hb3 HB2 
  obtain ⟨ra, rb, rc, rd⟩ := rt
  have rl : w2.heap.size < w3.heap.size := World.block_lt_of_cell? _ _ ra
  go_wp2_with fail
  refine (small2 1099511627776 n 0 true _ _ (by simp) H40.out (by omega) (by omega) _).mono ?_
  rintro e w4 ⟨rfl, hb4⟩
  have hz4 := hb4.size
  have rt := (At2.mk ra rb rc rd).below hb4 (by omega)
  have HB4 : Below w.heap.size w w4 := HB3.trans (hb4.mono hq3)
  have hq4 := HB4.size
  clear hb4 HB3 ra rb rc rd rl
  obtain ⟨ra, rb, rc, rd⟩ := rt
  have rl : w2.heap.size < w4.heap.size := World.block_lt_of_cell? _ _ ra
  go_wp2_with fail
  refine (K3.out _).mono ?_
  rintro e w5 ⟨rfl, hb5⟩
  have hz5 := hb5.size
  have rt := (At2.mk ra rb rc rd).below hb5 (by omega)
  have HB5 : Below w.heap.size w w5 := HB4.trans (hb5.mono hq4)
  have hq5 := HB5.size
  clear hb5 HB4 ra rb rc rd rl
  obtain ⟨ra, rb, rc, rd⟩ := rt
  have rl : w2.heap.size < w5.heap.size := World.block_lt_of_cell? _ _ ra
  go_wp2
  go_ret
  exact ⟨rfl, (by repeat' (first | exact HB5 | refine Below.setCell ?_ (by first | omega | (simp; done) | (simp; omega)) _ | refine below_drewN ?_ _ | refine Below.alloc ?_ (by first | omega | (simp; done) | (simp; omega)) _))⟩

set_option maxRecDepth 100000 in
set_option maxHeartbeats 1000000 in
theorem reduced_rz (n d k : Int) (w : World) (hE : Env w)
    (k1 : Gives 12 #[.int .i64 n, .int .i64 d] (.tuple #[.agg #[.int .i64 0, .int .i64 0], .int .i64 3]))
     (hd : ¬ d = 0) (hk : k = 0) :
    Calls Tryd.prog 4 #[.int .i64 n, .int .i64 d, .int .i64 k] w fun e w' =>
      e = .returned (.bool true) ∧ Below w.heap.size w w' := by
  have HE := Lib.hid hE
  have K1 := Lib.hid k1
  clear hE k1
  have f0 : (d == 0) = false := by simp; exact hd
  subst hk
  go_enter Tryd.func4, Tryd.ntmps4
  go_wp2_with fail
  refine (head_any _ HE.out).mono ?_
  rintro e w1 ⟨rfl, hb1⟩
  have hz1 := hb1.size
  have HB1 : Below w.heap.size w w1 := hb1
  have hq1 := HB1.size
  clear hb1
  go_wp2_with fail
  refine (K1.out _).mono ?_
  rintro e w2 ⟨rfl, hb2⟩
  have hz2 := hb2.size
  have HB2 : Below w.heap.size w w2 := HB1.trans (hb2.mono hq1)
  have hq2 := HB2.size
  clear hb2 HB1 
  go_wp2
  go_ret
  exact ⟨rfl, (by repeat' (first | exact HB2 | refine Below.setCell ?_ (by first | omega | (simp; done) | (simp; omega)) _ | refine below_drewN ?_ _ | refine Below.alloc ?_ (by first | omega | (simp; done) | (simp; omega)) _))⟩

set_option maxRecDepth 100000 in
set_option maxHeartbeats 1000000 in
theorem reduced_ra (n d k : Int) (w : World) (hE : Env w)
    (k1 : Gives 12 #[.int .i64 n, .int .i64 d] (.tuple #[.agg #[.int .i64 0, .int .i64 0], .int .i64 3]))
     (hd : ¬ d = 0) (hk : ¬ k = 0) (h1k : sml 1000 k = false) :
    Calls Tryd.prog 4 #[.int .i64 n, .int .i64 d, .int .i64 k] w fun e w' =>
      e = .returned (.bool true) ∧ Below w.heap.size w w' := by
  have HE := Lib.hid hE
  have K1 := Lib.hid k1
  clear hE k1
  have f0 : (d == 0) = false := by simp; exact hd
  have f2 : (k == 0) = false := by simp; exact hk
  have H1K := Lib.hid h1k
  clear h1k
  go_enter Tryd.func4, Tryd.ntmps4
  go_wp2_with fail
  refine (head_any _ HE.out).mono ?_
  rintro e w1 ⟨rfl, hb1⟩
  have hz1 := hb1.size
  have HB1 : Below w.heap.size w w1 := hb1
  have hq1 := HB1.size
  clear hb1
  go_wp2_with fail
  refine (K1.out _).mono ?_
  rintro e w2 ⟨rfl, hb2⟩
  have hz2 := hb2.size
  have HB2 : Below w.heap.size w w2 := HB1.trans (hb2.mono hq1)
  have hq2 := HB2.size
  clear hb2 HB1 
  go_wp2_with fail
  refine (small1 1000 k false _ _ (by simp) H1K.out (by omega) (by omega) _).mono ?_
  rintro e w3 ⟨rfl, hb3⟩
  have hz3 := hb3.size
  simp only [World.size_alloc] at hz3
  have rt := (At2.new w2 (.int .i64 0) (.int .i64 0) 23).below hb3 (by simp)
  have HB3 : Below w.heap.size w w3 := (HB2.alloc hq2 _).trans (hb3.mono (by simp; omega))
  have hq3 := HB3.size
  clear hb3 HB2 
  obtain ⟨ra, rb, rc, rd⟩ := rt
  have rl : w2.heap.size < w3.heap.size := World.block_lt_of_cell? _ _ ra
  go_wp2
  go_ret
  exact ⟨rfl, (by repeat' (first | exact HB3 | refine Below.setCell ?_ (by first | omega | (simp; done) | (simp; omega)) _ | refine below_drewN ?_ _ | refine Below.alloc ?_ (by first | omega | (simp; done) | (simp; omega)) _))⟩

set_option maxRecDepth 100000 in
set_option maxHeartbeats 1000000 in
theorem reduced_rb (n d k : Int) (w : World) (hE : Env w)
    (k1 : Gives 12 #[.int .i64 n, .int .i64 d] (.tuple #[.agg #[.int .i64 0, .int .i64 0], .int .i64 3]))
     (hd : ¬ d = 0) (hk : ¬ k = 0) (h1k : sml 1000 k = true) (h40 : (sml 1099511627776 n && sml 1099511627776 d) = false) :
    Calls Tryd.prog 4 #[.int .i64 n, .int .i64 d, .int .i64 k] w fun e w' =>
      e = .returned (.bool true) ∧ Below w.heap.size w w' := by
  have HE := Lib.hid hE
  have K1 := Lib.hid k1
  clear hE k1
  have f0 : (d == 0) = false := by simp; exact hd
  have f2 : (k == 0) = false := by simp; exact hk
  have H1K := Lib.hid h1k
  clear h1k
  have H40 := Lib.hid h40
  clear h40
  go_enter Tryd.func4, Tryd.ntmps4
  go_wp2_with fail
  refine (head_any _ HE.out).mono ?_
  rintro e w1 ⟨rfl, hb1⟩
  have hz1 := hb1.size
  have HB1 : Below w.heap.size w w1 := hb1
  have hq1 := HB1.size
  clear hb1
  go_wp2_with fail
  refine (K1.out _).mono ?_
  rintro e w2 ⟨rfl, hb2⟩
  have hz2 := hb2.size
  have HB2 : Below w.heap.size w w2 := HB1.trans (hb2.mono hq1)
  have hq2 := HB2.size
  clear hb2 HB1 
  go_wp2_with fail
  refine (small1 1000 k true _ _ (by simp) H1K.out (by omega) (by omega) _).mono ?_
  rintro e w3 ⟨rfl, hb3⟩
  have hz3 := hb3.size
  simp only [World.size_alloc] at hz3
  have rt := (At2.new w2 (.int .i64 0) (.int .i64 0) 23).below hb3 (by simp)
  have HB3 : Below w.heap.size w w3 := (HB2.alloc hq2 _).trans (hb3.mono (by simp; omega))
  have hq3 := HB3.size
  clear hb3 HB2 
  obtain ⟨ra, rb, rc, rd⟩ := rt
  have rl : w2.heap.size < w3.heap.size := World.block_lt_of_cell? _ _ ra
  go_wp2_with fail
  refine (small2 1099511627776 n d false _ _ (by simp) H40.out (by omega) (by omega) _).mono ?_
  rintro e w4 ⟨rfl, hb4⟩
  have hz4 := hb4.size
  have rt := (At2.mk ra rb rc rd).below hb4 (by omega)
  have HB4 : Below w.heap.size w w4 := HB3.trans (hb4.mono hq3)
  have hq4 := HB4.size
  clear hb4 HB3 ra rb rc rd rl
  obtain ⟨ra, rb, rc, rd⟩ := rt
  have rl : w2.heap.size < w4.heap.size := World.block_lt_of_cell? _ _ ra
  go_wp2
  go_ret
  exact ⟨rfl, (by repeat' (first | exact HB4 | refine Below.setCell ?_ (by first | omega | (simp; done) | (simp; omega)) _ | refine below_drewN ?_ _ | refine Below.alloc ?_ (by first | omega | (simp; done) | (simp; omega)) _))⟩

set_option maxRecDepth 100000 in
set_option maxHeartbeats 1000000 in
theorem reduced_ro (n d k : Int) (w : World) (hE : Env w)
    (k1 : Gives 12 #[.int .i64 n, .int .i64 d] (.tuple #[.agg #[.int .i64 0, .int .i64 0], .int .i64 3]))
    (k3 : Gives 12 #[.int .i64 (wrap64 (k * n)), .int .i64 (wrap64 (k * d))] (.tuple #[.agg #[.int .i64 0, .int .i64 0], .int .i64 3]))
     (hd : ¬ d = 0) (hk : ¬ k = 0) (h1k : sml 1000 k = true) (h40 : (sml 1099511627776 n && sml 1099511627776 d) = true) :
    Calls Tryd.prog 4 #[.int .i64 n, .int .i64 d, .int .i64 k] w fun e w' =>
      e = .returned (.bool true) ∧ Below w.heap.size w w' := by
  have HE := Lib.hid hE
  have K1 := Lib.hid k1
  have K3 := Lib.hid k3
  clear hE k1 k3
  have f0 : (d == 0) = false := by simp; exact hd
  have f2 : (k == 0) = false := by simp; exact hk
  have H1K := Lib.hid h1k
  clear h1k
  have H40 := Lib.hid h40
  clear h40
  go_enter Tryd.func4, Tryd.ntmps4
  go_wp2_with fail
  refine (head_any _ HE.out).mono ?_
  rintro e w1 ⟨rfl, hb1⟩
  have hz1 := hb1.size
  have HB1 : Below w.heap.size w w1 := hb1
  have hq1 := HB1.size
  clear hb1
  go_wp2_with fail
  refine (K1.out _).mono ?_
  rintro e w2 ⟨rfl, hb2⟩
  have hz2 := hb2.size
  have HB2 : Below w.heap.size w w2 := HB1.trans (hb2.mono hq1)
  have hq2 := HB2.size
  clear hb2 HB1 
  go_wp2_with fail
  refine (small1 1000 k true _ _ (by simp) H1K.out (by omega) (by omega) _).mono ?_
  rintro e w3 ⟨rfl, hb3⟩
  have hz3 := hb3.size
  simp only [World.size_alloc] at hz3
  have rt := (At2.new w2 (.int .i64 0) (.int .i64 0) 23).below hb3 (by simp)
  have HB3 : Below w.heap.size w w3 := (HB2.alloc hq2 _).trans (hb3.mono (by simp; omega))
  have hq3 := HB3.size
  clear hb3 HB2 
  obtain ⟨ra, rb, rc, rd⟩ := rt
  have rl : w2.heap.size < w3.heap.size := World.block_lt_of_cell? _ _ ra
  go_wp2_with fail
  refine (small2 1099511627776 n d true _ _ (by simp) H40.out (by omega) (by omega) _).mono ?_
  rintro e w4 ⟨rfl, hb4⟩
  have hz4 := hb4.size
  have rt := (At2.mk ra rb rc rd).below hb4 (by omega)
  have HB4 : Below w.heap.size w w4 := HB3.trans (hb4.mono hq3)
  have hq4 := HB4.size
  clear hb4 HB3 ra rb rc rd rl
  obtain ⟨ra, rb, rc, rd⟩ := rt
  have rl : w2.heap.size < w4.heap.size := World.block_lt_of_cell? _ _ ra
  go_wp2_with fail
  refine (K3.out _).mono ?_
  rintro e w5 ⟨rfl, hb5⟩
  have hz5 := hb5.size
  have rt := (At2.mk ra rb rc rd).below hb5 (by omega)
  have HB5 : Below w.heap.size w w5 := HB4.trans (hb5.mono hq4)
  have hq5 := HB5.size
  clear hb5 HB4 ra rb rc rd rl
  obtain ⟨ra, rb, rc, rd⟩ := rt
  have rl : w2.heap.size < w5.heap.size := World.block_lt_of_cell? _ _ ra
  go_wp2
  go_ret
  exact ⟨rfl, (by repeat' (first | exact HB5 | refine Below.setCell ?_ (by first | omega | (simp; done) | (simp; omega)) _ | refine below_drewN ?_ _ | refine Below.alloc ?_ (by first | omega | (simp; done) | (simp; omega)) _))⟩

set_option maxRecDepth 100000 in
set_option maxHeartbeats 1000000 in
theorem reduced_tz (n d k r1 r2 : Int) (w : World) (hE : Env w)
    (k1 : Gives 12 #[.int .i64 n, .int .i64 d] (.tuple #[.agg #[.int .i64 r1, .int .i64 r2], .int .i64 0]))
    (k2 : Gives 10 #[.agg #[.int .i64 r1, .int .i64 r2]] (.bool true))
     (hd : ¬ d = 0) (h31 : (sml 2147483648 n && sml 2147483648 d) = true) (heq : wrap64 (n * r2) = wrap64 (r1 * d)) (hk : k = 0) :
    Calls Tryd.prog 4 #[.int .i64 n, .int .i64 d, .int .i64 k] w fun e w' =>
      e = .returned (.bool true) ∧ Below w.heap.size w w' := by
  have HE := Lib.hid hE
  have K1 := Lib.hid k1
  have K2 := Lib.hid k2
  clear hE k1 k2
  have f0 : (d == 0) = false := by simp; exact hd
  have H31 := Lib.hid h31
  clear h31
  have f1 : (wrap64 (n * r2) != wrap64 (r1 * d)) = false := by simp [heq]
  clear heq
  subst hk
  go_enter Tryd.func4, Tryd.ntmps4
  go_wp2_with fail
  refine (head_any _ HE.out).mono ?_
  rintro e w1 ⟨rfl, hb1⟩
  have hz1 := hb1.size
  have HB1 : Below w.heap.size w w1 := hb1
  have hq1 := HB1.size
  clear hb1
  go_wp2_with fail
  refine (K1.out _).mono ?_
  rintro e w2 ⟨rfl, hb2⟩
  have hz2 := hb2.size
  have HB2 : Below w.heap.size w w2 := HB1.trans (hb2.mono hq1)
  have hq2 := HB2.size
  clear hb2 HB1 
  go_wp2_with fail
  refine (K2.out _).mono ?_
  rintro e w3 ⟨rfl, hb3⟩
  have hz3 := hb3.size
  simp only [World.size_alloc] at hz3
  have rt := (At2.new w2 (.int .i64 r1) (.int .i64 r2) 23).below hb3 (by simp)
  have HB3 : Below w.heap.size w w3 := (HB2.alloc hq2 _).trans (hb3.mono (by simp; omega))
  have hq3 := HB3.size
  clear hb3 HB2 
  obtain ⟨ra, rb, rc, rd⟩ := rt
  have rl : w2.heap.size < w3.heap.size := World.block_lt_of_cell? _ _ ra
  go_wp2_with fail
  refine (small2 2147483648 n d true _ _ (by simp) H31.out (by omega) (by omega) _).mono ?_
  rintro e w4 ⟨rfl, hb4⟩
  have hz4 := hb4.size
  have rt := (At2.mk ra rb rc rd).below hb4 (by omega)
  have HB4 : Below w.heap.size w w4 := HB3.trans (hb4.mono hq3)
  have hq4 := HB4.size
  clear hb4 HB3 ra rb rc rd rl
  obtain ⟨ra, rb, rc, rd⟩ := rt
  have rl : w2.heap.size < w4.heap.size := World.block_lt_of_cell? _ _ ra
  go_wp2
  go_ret
  exact ⟨rfl, (by repeat' (first | exact HB4 | refine Below.setCell ?_ (by first | omega | (simp; done) | (simp; omega)) _ | refine below_drewN ?_ _ | refine Below.alloc ?_ (by first | omega | (simp; done) | (simp; omega)) _))⟩

set_option maxRecDepth 100000 in
set_option maxHeartbeats 1000000 in
theorem reduced_ta (n d k r1 r2 : Int) (w : World) (hE : Env w)
    (k1 : Gives 12 #[.int .i64 n, .int .i64 d] (.tuple #[.agg #[.int .i64 r1, .int .i64 r2], .int .i64 0]))
    (k2 : Gives 10 #[.agg #[.int .i64 r1, .int .i64 r2]] (.bool true))
     (hd : ¬ d = 0) (h31 : (sml 2147483648 n && sml 2147483648 d) = true) (heq : wrap64 (n * r2) = wrap64 (r1 * d)) (hk : ¬ k = 0) (h1k : sml 1000 k = false) :
    Calls Tryd.prog 4 #[.int .i64 n, .int .i64 d, .int .i64 k] w fun e w' =>
      e = .returned (.bool true) ∧ Below w.heap.size w w' := by
  have HE := Lib.hid hE
  have K1 := Lib.hid k1
  have K2 := Lib.hid k2
  clear hE k1 k2
  have f0 : (d == 0) = false := by simp; exact hd
  have H31 := Lib.hid h31
  clear h31
  have f1 : (wrap64 (n * r2) != wrap64 (r1 * d)) = false := by simp [heq]
  clear heq
  have f2 : (k == 0) = false := by simp; exact hk
  have H1K := Lib.hid h1k
  clear h1k
  go_enter Tryd.func4, Tryd.ntmps4
  go_wp2_with fail
  refine (head_any _ HE.out).mono ?_
  rintro e w1 ⟨rfl, hb1⟩
  have hz1 := hb1.size
  have HB1 : Below w.heap.size w w1 := hb1
  have hq1 := HB1.size
  clear hb1
  go_wp2_with fail
  refine (K1.out _).mono ?_
  rintro e w2 ⟨rfl, hb2⟩
  have hz2 := hb2.size
  have HB2 : Below w.heap.size w w2 := HB1.trans (hb2.mono hq1)
  have hq2 := HB2.size
  clear hb2 HB1 
  go_wp2_with fail
  refine (K2.out _).mono ?_
  rintro e w3 ⟨rfl, hb3⟩
  have hz3 := hb3.size
  simp only [World.size_alloc] at hz3
  have rt := (At2.new w2 (.int .i64 r1) (.int .i64 r2) 23).below hb3 (by simp)
  have HB3 : Below w.heap.size w w3 := (HB2.alloc hq2 _).trans (hb3.mono (by simp; omega))
  have hq3 := HB3.size
  clear hb3 HB2 
  obtain ⟨ra, rb, rc, rd⟩ := rt
  have rl : w2.heap.size < w3.heap.size := World.block_lt_of_cell? _ _ ra
  go_wp2_with fail
  refine (small2 2147483648 n d true _ _ (by simp) H31.out (by omega) (by omega) _).mono ?_
  rintro e w4 ⟨rfl, hb4⟩
  have hz4 := hb4.size
  have rt := (At2.mk ra rb rc rd).below hb4 (by omega)
  have HB4 : Below w.heap.size w w4 := HB3.trans (hb4.mono hq3)
  have hq4 := HB4.size
  clear hb4 HB3 ra rb rc rd rl
  obtain ⟨ra, rb, rc, rd⟩ := rt
  have rl : w2.heap.size < w4.heap.size := World.block_lt_of_cell? _ _ ra
  go_wp2_with fail
  refine (small1 1000 k false _ _ (by simp) H1K.out (by omega) (by omega) _).mono ?_
  rintro e w5 ⟨rfl, hb5⟩
  have hz5 := hb5.size
  have rt := (At2.mk ra rb rc rd).below hb5 (by omega)
  have HB5 : Below w.heap.size w w5 := HB4.trans (hb5.mono hq4)
  have hq5 := HB5.size
  clear hb5 HB4 ra rb rc rd rl
  obtain ⟨ra, rb, rc, rd⟩ := rt
  have rl : w2.heap.size < w5.heap.size := World.block_lt_of_cell? _ _ ra
  go_wp2
  go_ret
  exact ⟨rfl, (by repeat' (first | exact HB5 | refine Below.setCell ?_ (by first | omega | (simp; done) | (simp; omega)) _ | refine below_drewN ?_ _ | refine Below.alloc ?_ (by first | omega | (simp; done) | (simp; omega)) _))⟩

set_option maxRecDepth 100000 in
set_option maxHeartbeats 1000000 in
theorem reduced_tb (n d k r1 r2 : Int) (w : World) (hE : Env w)
    (k1 : Gives 12 #[.int .i64 n, .int .i64 d] (.tuple #[.agg #[.int .i64 r1, .int .i64 r2], .int .i64 0]))
    (k2 : Gives 10 #[.agg #[.int .i64 r1, .int .i64 r2]] (.bool true))
     (hd : ¬ d = 0) (h31 : (sml 2147483648 n && sml 2147483648 d) = true) (heq : wrap64 (n * r2) = wrap64 (r1 * d)) (hk : ¬ k = 0) (h1k : sml 1000 k = true) (h40 : (sml 1099511627776 n && sml 1099511627776 d) = false) :
    Calls Tryd.prog 4 #[.int .i64 n, .int .i64 d, .int .i64 k] w fun e w' =>
      e = .returned (.bool true) ∧ Below w.heap.size w w' := by
  have HE := Lib.hid hE
  have K1 := Lib.hid k1
  have K2 := Lib.hid k2
  clear hE k1 k2
  have f0 : (d == 0) = false := by simp; exact hd
  have H31 := Lib.hid h31
  clear h31
  have f1 : (wrap64 (n * r2) != wrap64 (r1 * d)) = false := by simp [heq]
  clear heq
  have f2 : (k == 0) = false := by simp; exact hk
  have H1K := Lib.hid h1k
  clear h1k
  have H40 := Lib.hid h40
  clear h40
  go_enter Tryd.func4, Tryd.ntmps4
  go_wp2_with fail
  refine (head_any _ HE.out).mono ?_
  rintro e w1 ⟨rfl, hb1⟩
  have hz1 := hb1.size
  have HB1 : Below w.heap.size w w1 := hb1
  have hq1 := HB1.size
  clear hb1
  go_wp2_with fail
  refine (K1.out _).mono ?_
  rintro e w2 ⟨rfl, hb2⟩
  have hz2 := hb2.size
  have HB2 : Below w.heap.size w w2 := HB1.trans (hb2.mono hq1)
  have hq2 := HB2.size
  clear hb2 HB1 
  go_wp2_with fail
  refine (K2.out _).mono ?_
  rintro e w3 ⟨rfl, hb3⟩
  have hz3 := hb3.size
  simp only [World.size_alloc] at hz3
  have rt := (At2.new w2 (.int .i64 r1) (.int .i64 r2) 23).below hb3 (by simp)
  have HB3 : Below w.heap.size w w3 := (HB2.alloc hq2 _).trans (hb3.mono (by simp; omega))
  have hq3 := HB3.size
  clear hb3 HB2 
  obtain ⟨ra, rb, rc, rd⟩ := rt
  have rl : w2.heap.size < w3.heap.size := World.block_lt_of_cell? _ _ ra
  go_wp2_with fail
  refine (small2 2147483648 n d true _ _ (by simp) H31.out (by omega) (by omega) _).mono ?_
  rintro e w4 ⟨rfl, hb4⟩
  have hz4 := hb4.size
  have rt := (At2.mk ra rb rc rd).below hb4 (by omega)
  have HB4 : Below w.heap.size w w4 := HB3.trans (hb4.mono hq3)
  have hq4 := HB4.size
  clear hb4 HB3 ra rb rc rd rl
  obtain ⟨ra, rb, rc, rd⟩ := rt
  have rl : w2.heap.size < w4.heap.size := World.block_lt_of_cell? _ _ ra
  go_wp2_with fail
  refine (small1 1000 k true _ _ (by simp) H1K.out (by omega) (by omega) _).mono ?_
  rintro e w5 ⟨rfl, hb5⟩
  have hz5 := hb5.size
  have rt := (At2.mk ra rb rc rd).below hb5 (by omega)
  have HB5 : Below w.heap.size w w5 := HB4.trans (hb5.mono hq4)
  have hq5 := HB5.size
  clear hb5 HB4 ra rb rc rd rl
  obtain ⟨ra, rb, rc, rd⟩ := rt
  have rl : w2.heap.size < w5.heap.size := World.block_lt_of_cell? _ _ ra
  go_wp2_with fail
  refine (small2 1099511627776 n d false _ _ (by simp) H40.out (by omega) (by omega) _).mono ?_
  rintro e w6 ⟨rfl, hb6⟩
  have hz6 := hb6.size
  have rt := (At2.mk ra rb rc rd).below hb6 (by omega)
  have HB6 : Below w.heap.size w w6 := HB5.trans (hb6.mono hq5)
  have hq6 := HB6.size
  clear hb6 HB5 ra rb rc rd rl
  obtain ⟨ra, rb, rc, rd⟩ := rt
  have rl : w2.heap.size < w6.heap.size := World.block_lt_of_cell? _ _ ra
  go_wp2
  go_ret
  exact ⟨rfl, (by repeat' (first | exact HB6 | refine Below.setCell ?_ (by first | omega | (simp; done) | (simp; omega)) _ | refine below_drewN ?_ _ | refine Below.alloc ?_ (by first | omega | (simp; done) | (simp; omega)) _))⟩

set_option maxRecDepth 100000 in
set_option maxHeartbeats 1000000 in
theorem reduced_to (n d k r1 r2 : Int) (w : World) (hE : Env w)
    (k1 : Gives 12 #[.int .i64 n, .int .i64 d] (.tuple #[.agg #[.int .i64 r1, .int .i64 r2], .int .i64 0]))
    (k2 : Gives 10 #[.agg #[.int .i64 r1, .int .i64 r2]] (.bool true))
    (k3 : Gives 12 #[.int .i64 (wrap64 (k * n)), .int .i64 (wrap64 (k * d))] (.tuple #[.agg #[.int .i64 r1, .int .i64 r2], .int .i64 0]))
     (hd : ¬ d = 0) (h31 : (sml 2147483648 n && sml 2147483648 d) = true) (heq : wrap64 (n * r2) = wrap64 (r1 * d)) (hk : ¬ k = 0) (h1k : sml 1000 k = true) (h40 : (sml 1099511627776 n && sml 1099511627776 d) = true) :
    Calls Tryd.prog 4 #[.int .i64 n, .int .i64 d, .int .i64 k] w fun e w' =>
      e = .returned (.bool true) ∧ Below w.heap.size w w' := by
  have HE := Lib.hid hE
  have K1 := Lib.hid k1
  have K2 := Lib.hid k2
  have K3 := Lib.hid k3
  clear hE k1 k2 k3
  have f0 : (d == 0) = false := by simp; exact hd
  have H31 := Lib.hid h31
  clear h31
  have f1 : (wrap64 (n * r2) != wrap64 (r1 * d)) = false := by simp [heq]
  clear heq
  have f2 : (k == 0) = false := by simp; exact hk
  have H1K := Lib.hid h1k
  clear h1k
  have H40 := Lib.hid h40
  clear h40
  go_enter Tryd.func4, Tryd.ntmps4
  go_wp2_with fail
  refine (head_any _ HE.out).mono ?_
  rintro e w1 ⟨rfl, hb1⟩
  have hz1 := hb1.size
  have HB1 : Below w.heap.size w w1 := hb1
  have hq1 := HB1.size
  clear hb1
  go_wp2_with fail
  refine (K1.out _).mono ?_
  rintro e w2 ⟨rfl, hb2⟩
  have hz2 := hb2.size
  have HB2 : Below w.heap.size w w2 := HB1.trans (hb2.mono hq1)
  have hq2 := HB2.size
  clear hb2 HB1 
  go_wp2_with fail
  refine (K2.out _).mono ?_
  rintro e w3 ⟨rfl, hb3⟩
  have hz3 := hb3.size
  simp only [World.size_alloc] at hz3
  have rt := (At2.new w2 (.int .i64 r1) (.int .i64 r2) 23).below hb3 (by simp)
  have HB3 : Below w.heap.size w w3 := (HB2.alloc hq2 _).trans (hb3.mono (by simp; omega))
  have hq3 := HB3.size
  clear hb3 HB2 
  obtain ⟨ra, rb, rc, rd⟩ := rt
  have rl : w2.heap.size < w3.heap.size := World.block_lt_of_cell? _ _ ra
  go_wp2_with fail
  refine (small2 2147483648 n d true _ _ (by simp) H31.out (by omega) (by omega) _).mono ?_
  rintro e w4 ⟨rfl, hb4⟩
  have hz4 := hb4.size
  have rt := (At2.mk ra rb rc rd).below hb4 (by omega)
  have HB4 : Below w.heap.size w w4 := HB3.trans (hb4.mono hq3)
  have hq4 := HB4.size
  clear hb4 HB3 ra rb rc rd rl
  obtain ⟨ra, rb, rc, rd⟩ := rt
  have rl : w2.heap.size < w4.heap.size := World.block_lt_of_cell? _ _ ra
  go_wp2_with fail
  refine (small1 1000 k true _ _ (by simp) H1K.out (by omega) (by omega) _).mono ?_
  rintro e w5 ⟨rfl, hb5⟩
  have hz5 := hb5.size
  have rt := (At2.mk ra rb rc rd).below hb5 (by omega)
  have HB5 : Below w.heap.size w w5 := HB4.trans (hb5.mono hq4)
  have hq5 := HB5.size
  clear hb5 HB4 ra rb rc rd rl
  obtain ⟨ra, rb, rc, rd⟩ := rt
  have rl : w2.heap.size < w5.heap.size := World.block_lt_of_cell? _ _ ra
  go_wp2_with fail
  refine (small2 1099511627776 n d true _ _ (by simp) H40.out (by omega) (by omega) _).mono ?_
  rintro e w6 ⟨rfl, hb6⟩
  have hz6 := hb6.size
  have rt := (At2.mk ra rb rc rd).below hb6 (by omega)
  have HB6 : Below w.heap.size w w6 := HB5.trans (hb6.mono hq5)
  have hq6 := HB6.size
  clear hb6 HB5 ra rb rc rd rl
  obtain ⟨ra, rb, rc, rd⟩ := rt
  have rl : w2.heap.size < w6.heap.size := World.block_lt_of_cell? _ _ ra
  go_wp2_with fail
  refine (K3.out _).mono ?_
  rintro e w7 ⟨rfl, hb7⟩
  have hz7 := hb7.size
  have rt := (At2.mk ra rb rc rd).below hb7 (by omega)
  have HB7 : Below w.heap.size w w7 := HB6.trans (hb7.mono hq6)
  have hq7 := HB7.size
  clear hb7 HB6 ra rb rc rd rl
  obtain ⟨ra, rb, rc, rd⟩ := rt
  have rl : w2.heap.size < w7.heap.size := World.block_lt_of_cell? _ _ ra
  go_wp2
  go_ret
  exact ⟨rfl, (by repeat' (first | exact HB7 | refine Below.setCell ?_ (by first | omega | (simp; done) | (simp; omega)) _ | refine below_drewN ?_ _ | refine Below.alloc ?_ (by first | omega | (simp; done) | (simp; omega)) _))⟩

set_option maxRecDepth 100000 in
set_option maxHeartbeats 1000000 in
theorem reduced_fz (n d k r1 r2 : Int) (w : World) (hE : Env w)
    (k1 : Gives 12 #[.int .i64 n, .int .i64 d] (.tuple #[.agg #[.int .i64 r1, .int .i64 r2], .int .i64 0]))
    (k2 : Gives 10 #[.agg #[.int .i64 r1, .int .i64 r2]] (.bool true))
     (hd : ¬ d = 0) (h31 : (sml 2147483648 n && sml 2147483648 d) = false) (hk : k = 0) :
    Calls Tryd.prog 4 #[.int .i64 n, .int .i64 d, .int .i64 k] w fun e w' =>
      e = .returned (.bool true) ∧ Below w.heap.size w w' := by
  have HE := Lib.hid hE
  have K1 := Lib.hid k1
  have K2 := Lib.hid k2
  clear hE k1 k2
  have f0 : (d == 0) = false := by simp; exact hd
  have H31 := Lib.hid h31
  clear h31
  subst hk
  go_enter Tryd.func4, Tryd.ntmps4
  go_wp2_with fail
  refine (head_any _ HE.out).mono ?_
  rintro e w1 ⟨rfl, hb1⟩
  have hz1 := hb1.size
  have HB1 : Below w.heap.size w w1 := hb1
  have hq1 := HB1.size
  clear hb1
  go_wp2_with fail
  refine (K1.out _).mono ?_
  rintro e w2 ⟨rfl, hb2⟩
  have hz2 := hb2.size
  have HB2 : Below w.heap.size w w2 := HB1.trans (hb2.mono hq1)
  have hq2 := HB2.size
  clear hb2 HB1 
  go_wp2_with fail
  refine (K2.out _).mono ?_
  rintro e w3 ⟨rfl, hb3⟩
  have hz3 := hb3.size
  simp only [World.size_alloc] at hz3
  have rt := (At2.new w2 (.int .i64 r1) (.int .i64 r2) 23).below hb3 (by simp)
  have HB3 : Below w.heap.size w w3 := (HB2.alloc hq2 _).trans (hb3.mono (by simp; omega))
  have hq3 := HB3.size
  clear hb3 HB2 
  obtain ⟨ra, rb, rc, rd⟩ := rt
  have rl : w2.heap.size < w3.heap.size := World.block_lt_of_cell? _ _ ra
  go_wp2_with fail
  refine (small2 2147483648 n d false _ _ (by simp) H31.out (by omega) (by omega) _).mono ?_
  rintro e w4 ⟨rfl, hb4⟩
  have hz4 := hb4.size
  have rt := (At2.mk ra rb rc rd).below hb4 (by omega)
  have HB4 : Below w.heap.size w w4 := HB3.trans (hb4.mono hq3)
  have hq4 := HB4.size
  clear hb4 HB3 ra rb rc rd rl
  obtain ⟨ra, rb, rc, rd⟩ := rt
  have rl : w2.heap.size < w4.heap.size := World.block_lt_of_cell? _ _ ra
  go_wp2
  go_ret
  exact ⟨rfl, (by repeat' (first | exact HB4 | refine Below.setCell ?_ (by first | omega | (simp; done) | (simp; omega)) _ | refine below_drewN ?_ _ | refine Below.alloc ?_ (by first | omega | (simp; done) | (simp; omega)) _))⟩

set_option maxRecDepth 100000 in
set_option maxHeartbeats 1000000 in
theorem reduced_fa (n d k r1 r2 : Int) (w : World) (hE : Env w)
    (k1 : Gives 12 #[.int .i64 n, .int .i64 d] (.tuple #[.agg #[.int .i64 r1, .int .i64 r2], .int .i64 0]))
    (k2 : Gives 10 #[.agg #[.int .i64 r1, .int .i64 r2]] (.bool true))
     (hd : ¬ d = 0) (h31 : (sml 2147483648 n && sml 2147483648 d) = false) (hk : ¬ k = 0) (h1k : sml 1000 k = false) :
    Calls Tryd.prog 4 #[.int .i64 n, .int .i64 d, .int .i64 k] w fun e w' =>
      e = .returned (.bool true) ∧ Below w.heap.size w w' := by
  have HE := Lib.hid hE
  have K1 := Lib.hid k1
  have K2 := Lib.hid k2
  clear hE k1 k2
  have f0 : (d == 0) = false := by simp; exact hd
  have H31 := Lib.hid h31
  clear h31
  have f2 : (k == 0) = false := by simp; exact hk
  have H1K := Lib.hid h1k
  clear h1k
  go_enter Tryd.func4, Tryd.ntmps4
  go_wp2_with fail
  refine (head_any _ HE.out).mono ?_
  rintro e w1 ⟨rfl, hb1⟩
  have hz1 := hb1.size
  have HB1 : Below w.heap.size w w1 := hb1
  have hq1 := HB1.size
  clear hb1
  go_wp2_with fail
  refine (K1.out _).mono ?_
  rintro e w2 ⟨rfl, hb2⟩
  have hz2 := hb2.size
  have HB2 : Below w.heap.size w w2 := HB1.trans (hb2.mono hq1)
  have hq2 := HB2.size
  clear hb2 HB1 
  go_wp2_with fail
  refine (K2.out _).mono ?_
  rintro e w3 ⟨rfl, hb3⟩
  have hz3 := hb3.size
  simp only [World.size_alloc] at hz3
  have rt := (At2.new w2 (.int .i64 r1) (.int .i64 r2) 23).below hb3 (by simp)
  have HB3 : Below w.heap.size w w3 := (HB2.alloc hq2 _).trans (hb3.mono (by simp; omega))
  have hq3 := HB3.size
  clear hb3 HB2 
  obtain ⟨ra, rb, rc, rd⟩ := rt
  have rl : w2.heap.size < w3.heap.size := World.block_lt_of_cell? _ _ ra
  go_wp2_with fail
  refine (small2 2147483648 n d false _ _ (by simp) H31.out (by omega) (by omega) _).mono ?_
  rintro e w4 ⟨rfl, hb4⟩
  have hz4 := hb4.size
  have rt := (At2.mk ra rb rc rd).below hb4 (by omega)
  have HB4 : Below w.heap.size w w4 := HB3.trans (hb4.mono hq3)
  have hq4 := HB4.size
  clear hb4 HB3 ra rb rc rd rl
  obtain ⟨ra, rb, rc, rd⟩ := rt
  have rl : w2.heap.size < w4.heap.size := World.block_lt_of_cell? _ _ ra
  go_wp2_with fail
  refine (small1 1000 k false _ _ (by simp) H1K.out (by omega) (by omega) _).mono ?_
  rintro e w5 ⟨rfl, hb5⟩
  have hz5 := hb5.size
  have rt := (At2.mk ra rb rc rd).below hb5 (by omega)
  have HB5 : Below w.heap.size w w5 := HB4.trans (hb5.mono hq4)
  have hq5 := HB5.size
  clear hb5 HB4 ra rb rc rd rl
  obtain ⟨ra, rb, rc, rd⟩ := rt
  have rl : w2.heap.size < w5.heap.size := World.block_lt_of_cell? _ _ ra
  go_wp2
  go_ret
  exact ⟨rfl, (by repeat' (first | exact HB5 | refine Below.setCell ?_ (by first | omega | (simp; done) | (simp; omega)) _ | refine below_drewN ?_ _ | refine Below.alloc ?_ (by first | omega | (simp; done) | (simp; omega)) _))⟩

set_option maxRecDepth 100000 in
set_option maxHeartbeats 1000000 in
theorem reduced_fb (n d k r1 r2 : Int) (w : World) (hE : Env w)
    (k1 : Gives 12 #[.int .i64 n, .int .i64 d] (.tuple #[.agg #[.int .i64 r1, .int .i64 r2], .int .i64 0]))
    (k2 : Gives 10 #[.agg #[.int .i64 r1, .int .i64 r2]] (.bool true))
     (hd : ¬ d = 0) (h31 : (sml 2147483648 n && sml 2147483648 d) = false) (hk : ¬ k = 0) (h1k : sml 1000 k = true) (h40 : (sml 1099511627776 n && sml 1099511627776 d) = false) :
    Calls Tryd.prog 4 #[.int .i64 n, .int .i64 d, .int .i64 k] w fun e w' =>
      e = .returned (.bool true) ∧ Below w.heap.size w w' := by
  have HE := Lib.hid hE
  have K1 := Lib.hid k1
  have K2 := Lib.hid k2
  clear hE k1 k2
  have f0 : (d == 0) = false := by simp; exact hd
  have H31 := Lib.hid h31
  clear h31
  have f2 : (k == 0) = false := by simp; exact hk
  have H1K := Lib.hid h1k
  clear h1k
  have H40 := Lib.hid h40
  clear h40
  go_enter Tryd.func4, Tryd.ntmps4
  go_wp2_with fail
  refine (head_any _ HE.out).mono ?_
  rintro e w1 ⟨rfl, hb1⟩
  have hz1 := hb1.size
  have HB1 : Below w.heap.size w w1 := hb1
  have hq1 := HB1.size
  clear hb1
  go_wp2_with fail
  refine (K1.out _).mono ?_
  rintro e w2 ⟨rfl, hb2⟩
  have hz2 := hb2.size
  have HB2 : Below w.heap.size w w2 := HB1.trans (hb2.mono hq1)
  have hq2 := HB2.size
  clear hb2 HB1 
  go_wp2_with fail
  refine (K2.out _).mono ?_
  rintro e w3 ⟨rfl, hb3⟩
  have hz3 := hb3.size
  simp only [World.size_alloc] at hz3
  have rt := (At2.new w2 (.int .i64 r1) (.int .i64 r2) 23).below hb3 (by simp)
  have HB3 : Below w.heap.size w w3 := (HB2.alloc hq2 _).trans (hb3.mono (by simp; omega))
  have hq3 := HB3.size
  clear hb3 HB2 
  obtain ⟨ra, rb, rc, rd⟩ := rt
  have rl : w2.heap.size < w3.heap.size := World.block_lt_of_cell? _ _ ra
  go_wp2_with fail
  refine (small2 2147483648 n d false _ _ (by simp) H31.out (by omega) (by omega) _).mono ?_
  rintro e w4 ⟨rfl, hb4⟩
  have hz4 := hb4.size
  have rt := (At2.mk ra rb rc rd).below hb4 (by omega)
  have HB4 : Below w.heap.size w w4 := HB3.trans (hb4.mono hq3)
  have hq4 := HB4.size
  clear hb4 HB3 ra rb rc rd rl
  obtain ⟨ra, rb, rc, rd⟩ := rt
  have rl : w2.heap.size < w4.heap.size := World.block_lt_of_cell? _ _ ra
  go_wp2_with fail
  refine (small1 1000 k true _ _ (by simp) H1K.out (by omega) (by omega) _).mono ?_
  rintro e w5 ⟨rfl, hb5⟩
  have hz5 := hb5.size
  have rt := (At2.mk ra rb rc rd).below hb5 (by omega)
  have HB5 : Below w.heap.size w w5 := HB4.trans (hb5.mono hq4)
  have hq5 := HB5.size
  clear hb5 HB4 ra rb rc rd rl
  obtain ⟨ra, rb, rc, rd⟩ := rt
  have rl : w2.heap.size < w5.heap.size := World.block_lt_of_cell? _ _ ra
  go_wp2_with fail
  refine (small2 1099511627776 n d false _ _ (by simp) H40.out (by omega) (by omega) _).mono ?_
  rintro e w6 ⟨rfl, hb6⟩
  have hz6 := hb6.size
  have rt := (At2.mk ra rb rc rd).below hb6 (by omega)
  have HB6 : Below w.heap.size w w6 := HB5.trans (hb6.mono hq5)
  have hq6 := HB6.size
  clear hb6 HB5 ra rb rc rd rl
  obtain ⟨ra, rb, rc, rd⟩ := rt
  have rl : w2.heap.size < w6.heap.size := World.block_lt_of_cell? _ _ ra
  go_wp2
  go_ret
  exact ⟨rfl, (by repeat' (first | exact HB6 | refine Below.setCell ?_ (by first | omega | (simp; done) | (simp; omega)) _ | refine below_drewN ?_ _ | refine Below.alloc ?_ (by first | omega | (simp; done) | (simp; omega)) _))⟩

set_option maxRecDepth 100000 in
set_option maxHeartbeats 1000000 in
theorem reduced_fo (n d k r1 r2 : Int) (w : World) (hE : Env w)
    (k1 : Gives 12 #[.int .i64 n, .int .i64 d] (.tuple #[.agg #[.int .i64 r1, .int .i64 r2], .int .i64 0]))
    (k2 : Gives 10 #[.agg #[.int .i64 r1, .int .i64 r2]] (.bool true))
    (k3 : Gives 12 #[.int .i64 (wrap64 (k * n)), .int .i64 (wrap64 (k * d))] (.tuple #[.agg #[.int .i64 r1, .int .i64 r2], .int .i64 0]))
     (hd : ¬ d = 0) (h31 : (sml 2147483648 n && sml 2147483648 d) = false) (hk : ¬ k = 0) (h1k : sml 1000 k = true) (h40 : (sml 1099511627776 n && sml 1099511627776 d) = true) :
    Calls Tryd.prog 4 #[.int .i64 n, .int .i64 d, .int .i64 k] w fun e w' =>
      e = .returned (.bool true) ∧ Below w.heap.size w w' := by
  have HE := Lib.hid hE
  have K1 := Lib.hid k1
  have K2 := Lib.hid k2
  have K3 := Lib.hid k3
  clear hE k1 k2 k3
  have f0 : (d == 0) = false := by simp; exact hd
  have H31 := Lib.hid h31
  clear h31
  have f2 : (k == 0) = false := by simp; exact hk
  have H1K := Lib.hid h1k
  clear h1k
  have H40 := Lib.hid h40
  clear h40
  go_enter Tryd.func4, Tryd.ntmps4
  go_wp2_with fail
  refine (head_any _ HE.out).mono ?_
  rintro e w1 ⟨rfl, hb1⟩
  have hz1 := hb1.size
  have HB1 : Below w.heap.size w w1 := hb1
  have hq1 := HB1.size
  clear hb1
  go_wp2_with fail
  refine (K1.out _).mono ?_
  rintro e w2 ⟨rfl, hb2⟩
  have hz2 := hb2.size
  have HB2 : Below w.heap.size w w2 := HB1.trans (hb2.mono hq1)
  have hq2 := HB2.size
  clear hb2 HB1 
  go_wp2_with fail
  refine (K2.out _).mono ?_
  rintro e w3 ⟨rfl, hb3⟩
  have hz3 := hb3.size
  simp only [World.size_alloc] at hz3
  have rt := (At2.new w2 (.int .i64 r1) (.int .i64 r2) 23).below hb3 (by simp)
  have HB3 : Below w.heap.size w w3 := (HB2.alloc hq2 _).trans (hb3.mono (by simp; omega))
  have hq3 := HB3.size
  clear hb3 HB2 
  obtain ⟨ra, rb, rc, rd⟩ := rt
  have rl : w2.heap.size < w3.heap.size := World.block_lt_of_cell? _ _ ra
  go_wp2_with fail
  refine (small2 2147483648 n d false _ _ (by simp) H31.out (by omega) (by omega) _).mono ?_
  rintro e w4 ⟨rfl, hb4⟩
  have hz4 := hb4.size
  have rt := (At2.mk ra rb rc rd).below hb4 (by omega)
  have HB4 : Below w.heap.size w w4 := HB3.trans (hb4.mono hq3)
  have hq4 := HB4.size
  clear hb4 HB3 ra rb rc rd rl
  obtain ⟨ra, rb, rc, rd⟩ := rt
  have rl : w2.heap.size < w4.heap.size := World.block_lt_of_cell? _ _ ra
  go_wp2_with fail
  refine (small1 1000 k true _ _ (by simp) H1K.out (by omega) (by omega) _).mono ?_
  rintro e w5 ⟨rfl, hb5⟩
  have hz5 := hb5.size
  have rt := (At2.mk ra rb rc rd).below hb5 (by omega)
  have HB5 : Below w.heap.size w w5 := HB4.trans (hb5.mono hq4)
  have hq5 := HB5.size
  clear hb5 HB4 ra rb rc rd rl
  obtain ⟨ra, rb, rc, rd⟩ := rt
  have rl : w2.heap.size < w5.heap.size := World.block_lt_of_cell? _ _ ra
  go_wp2_with fail
  refine (small2 1099511627776 n d true _ _ (by simp) H40.out (by omega) (by omega) _).mono ?_
  rintro e w6 ⟨rfl, hb6⟩
  have hz6 := hb6.size
  have rt := (At2.mk ra rb rc rd).below hb6 (by omega)
  have HB6 : Below w.heap.size w w6 := HB5.trans (hb6.mono hq5)
  have hq6 := HB6.size
  clear hb6 HB5 ra rb rc rd rl
  obtain ⟨ra, rb, rc, rd⟩ := rt
  have rl : w2.heap.size < w6.heap.size := World.block_lt_of_cell? _ _ ra
  go_wp2_with fail
  refine (K3.out _).mono ?_
  rintro e w7 ⟨rfl, hb7⟩
  have hz7 := hb7.size
  have rt := (At2.mk ra rb rc rd).below hb7 (by omega)
  have HB7 : Below w.heap.size w w7 := HB6.trans (hb7.mono hq6)
  have hq7 := HB7.size
  clear hb7 HB6 ra rb rc rd rl
  obtain ⟨ra, rb, rc, rd⟩ := rt
  have rl : w2.heap.size < w7.heap.size := World.block_lt_of_cell? _ _ ra
  go_wp2
  go_ret
  exact ⟨rfl, (by repeat' (first | exact HB7 | refine Below.setCell ?_ (by first | omega | (simp; done) | (simp; omega)) _ | refine below_drewN ?_ _ | refine Below.alloc ?_ (by first | omega | (simp; done) | (simp; omega)) _))⟩

theorem sml_le {m x : Int} (h : sml m x = true) : -m ≤ x ∧ x ≤ m := by
  unfold sml at h
  simp only [Bool.and_eq_true, decide_eq_true_eq] at h
  exact ⟨h.2, h.1⟩
theorem prod_le {k n : Int} (h1 : sml 1000 k = true) (h2 : sml 1099511627776 n = true) : -9223372036854775808 ≤ k * n ∧ k * n ≤ 9223372036854775807 := by
  have a := sml_le h1
  have b := sml_le h2
  have h : (k * n).natAbs ≤ 1000 * 1099511627776 := by rw [Int.natAbs_mul]; exact Nat.mul_le_mul (by omega) (by omega)
  omega
theorem prod_wrap {k n : Int} (h1 : sml 1000 k = true) (h2 : sml 1099511627776 n = true) : wrap64 (k * n) = k * n := by
  have := prod_le h1 h2
  exact IntWalk.wrap64_in _ ⟨by omega, by omega⟩
theorem gives_make (n d p q e : Int) (h : mk n d = (p, q, e)) (n0 : -9223372036854775808 ≤ n) (n1 : n ≤ 9223372036854775807) (d0 : -9223372036854775808 ≤ d) (d1 : d ≤ 9223372036854775807) :
    Gives 12 #[.int .i64 n, .int .i64 d] (.tuple #[.agg #[.int .i64 p, .int .i64 q], .int .i64 e]) :=
  gives_of (fun w => make_any n d w n0 n1 d0 d1) (by rw [h])
theorem mk_mul {n d k : Int} (hk : k ≠ 0) : mk (k * n) (k * d) = mk n d := by
  unfold mk
  by_cases hd : d = 0
  · subst hd; rw [Int.mul_zero, if_pos rfl, if_pos rfl]
  · rw [if_neg hd, if_neg (Int.mul_ne_zero hk hd), Q.red_mul hd hk]
theorem both {a b : Bool} (h : ¬ (a && b) = false) : a = true ∧ b = true := by
  cases a <;> cases b <;> simp at h ⊢

theorem reduced_law (n d k : Int) (w : World) (hE : Env w)
    (n0 : -9223372036854775808 ≤ n) (n1 : n ≤ 9223372036854775807) (d0 : -9223372036854775808 ≤ d) (d1 : d ≤ 9223372036854775807) (_k0 : -9223372036854775808 ≤ k) (_k1 : k ≤ 9223372036854775807) :
    Calls Tryd.prog 4 #[.int .i64 n, .int .i64 d, .int .i64 k] w fun e w' =>
      e = .returned (.bool true) ∧ Below w.heap.size w w' := by
  by_cases hd : d = 0
  · subst hd
    have e1 : mk n 0 = (0, 0, 7) := by unfold mk; rw [if_pos rfl]
    have k1 := gives_make n 0 0 0 7 e1 n0 n1 d0 d1
    by_cases hk : k = 0
    · exact reduced_zz n k w hE k1 hk
    cases h1 : sml 1000 k
    · exact reduced_za n k w hE k1 hk h1
    by_cases h4 : (sml 1099511627776 n && sml 1099511627776 0) = false
    · exact reduced_zb n k w hE k1 hk h1 h4
    obtain ⟨h5, h6⟩ := both h4
    have pl := prod_le h1 h5
    have k3 := gives_make (k * n) 0 0 0 7 (by unfold mk; rw [if_pos rfl]) pl.1 pl.2 d0 d1
    rw [← prod_wrap h1 h5] at k3
    exact reduced_zo n k w hE k1 k3 hk h1 (by rw [h5, h6]; rfl)
  have k3 : ∀ p q e, mk n d = (p, q, e) → k ≠ 0 → sml 1000 k = true → sml 1099511627776 n = true → sml 1099511627776 d = true →
      Gives 12 #[.int .i64 (wrap64 (k * n)), .int .i64 (wrap64 (k * d))] (.tuple #[.agg #[.int .i64 p, .int .i64 q], .int .i64 e]) := fun p q e he hk h1 h5 h6 => by
    have pl := prod_le h1 h5
    have pm := prod_le h1 h6
    rw [prod_wrap h1 h5, prod_wrap h1 h6]
    exact gives_make (k * n) (k * d) p q e ((mk_mul hk).trans he) pl.1 pl.2 pm.1 pm.2
  cases hr : Q.red n d with
  | none =>
    have e1 : mk n d = (0, 0, 3) := by unfold mk; rw [if_neg hd, hr]
    have k1 := gives_make n d 0 0 3 e1 n0 n1 d0 d1
    by_cases hk : k = 0
    · exact reduced_rz n d k w hE k1 hd hk
    cases h1 : sml 1000 k
    · exact reduced_ra n d k w hE k1 hd hk h1
    by_cases h4 : (sml 1099511627776 n && sml 1099511627776 d) = false
    · exact reduced_rb n d k w hE k1 hd hk h1 h4
    obtain ⟨h5, h6⟩ := both h4
    exact reduced_ro n d k w hE k1 (k3 _ _ _ e1 hk h1 h5 h6) hd hk h1 (by rw [h5, h6]; rfl)
  | some r =>
    obtain ⟨p, q⟩ := r
    have e1 : mk n d = (p, q, 0) := by unfold mk; rw [if_neg hd, hr]
    have k1 := gives_make n d p q 0 e1 n0 n1 d0 d1
    obtain ⟨vp, ep⟩ := Q.red_val hd hr
    obtain ⟨x0, x1, x2, x3⟩ := val_range vp
    have k2 : Gives 10 #[.agg #[.int .i64 p, .int .i64 q]] (.bool true) := gives_of (fun w => valid_any p q w x0 x1 x2 x3) (by rw [(vld_iff p q).2 vp])
    have heq : wrap64 (n * q) = wrap64 (p * d) := by rw [ep]
    cases h31 : (sml 2147483648 n && sml 2147483648 d)
    · by_cases hk : k = 0
      · exact reduced_fz n d k p q w hE k1 k2 hd h31 hk
      cases h1 : sml 1000 k
      · exact reduced_fa n d k p q w hE k1 k2 hd h31 hk h1
      by_cases h4 : (sml 1099511627776 n && sml 1099511627776 d) = false
      · exact reduced_fb n d k p q w hE k1 k2 hd h31 hk h1 h4
      obtain ⟨h5, h6⟩ := both h4
      exact reduced_fo n d k p q w hE k1 k2 (k3 _ _ _ e1 hk h1 h5 h6) hd h31 hk h1 (by rw [h5, h6]; rfl)
    · by_cases hk : k = 0
      · exact reduced_tz n d k p q w hE k1 k2 hd h31 heq hk
      cases h1 : sml 1000 k
      · exact reduced_ta n d k p q w hE k1 k2 hd h31 heq hk h1
      by_cases h4 : (sml 1099511627776 n && sml 1099511627776 d) = false
      · exact reduced_tb n d k p q w hE k1 k2 hd h31 heq hk h1 h4
      obtain ⟨h5, h6⟩ := both h4
      exact reduced_to n d k p q w hE k1 k2 (k3 _ _ _ e1 hk h1 h5 h6) hd h31 heq hk h1 (by rw [h5, h6]; rfl)
end Go.Proofs.YtohnmffokichkaaDoor
