/-
  Contracts of the leaves of package rational: the sign is taken off, and the greatest common divisor.
-/
import Derived.Test.YtoaeceeookknnaaDoorRows
import Derived.Test.YtoaeceeookknnaaDoorMath
import Derived.WalkKit
import Derived.WalkSpells
import Derived.WalkLawsBesides
import Derived.Lib.Hide
import Derived.Deep.LoopGhost
import Derived.Deep.QuietTactic
import Derived.BigQuiet
namespace Go.Proofs.YtoaeceeookknnaaDoor
open Go.RowKit

theorem ret_u64 {a b : Int} (h : a = b) : Ending.returned (.int .u64 a) = .returned (.int .u64 b) := by rw [h]

theorem ret_agg2 {k l : IntKind} {a b c d : Int} (h : a = c) (h' : b = d) : Ending.returned (.agg #[.int k a, .int l b]) = .returned (.agg #[.int k c, .int l d]) := by rw [h, h']

/-- An integer without its sign. -/
def mag (n : Int) : Nat := n.natAbs
/-- The greatest common divisor. -/
def gd (a b : Nat) : Nat := Nat.gcd a b
theorem mag_lt {n : Int} (h0 : -9223372036854775808 ≤ n) (h1 : n ≤ 9223372036854775807) : mag n < 18446744073709551616 := by unfold mag; omega

set_option maxHeartbeats 400000 in
theorem size_any (n : Int) (w : World) (h0 : -9223372036854775808 ≤ n) (h1 : n ≤ 9223372036854775807) :
    Calls Tryd.prog 65 #[.int .i64 n] w fun e w' => e = .returned (.int .u64 (mag n)) ∧ w' = w := by
  by_cases h : n < 0
  · go_enter Tryd.func65, Tryd.ntmps65
    go_wp2
    go_ret
    exact ⟨ret_u64 (by rw [IntKind.wrap_u64, IntKind.wrap_u64]; unfold mag; omega), rfl⟩
  · go_enter Tryd.func65, Tryd.ntmps65
    go_wp2
    go_ret
    exact ⟨ret_u64 (by unfold mag; omega), rfl⟩

set_option maxHeartbeats 400000 in
theorem divisor_any (a b : Nat) (w : World) (ha : a < 18446744073709551616) (hb : b < 18446744073709551616) :
    Calls Tryd.prog 66 #[.int .u64 a, .int .u64 b] w fun e w' => e = .returned (.int .u64 (gd a b)) ∧ ∃ n, w' = w.drewN n := by
  go_enter Tryd.func66, Tryd.ntmps66
  go_wp2
  go_step3
  go_wp2
  go_step3
  go_wp2
  go_loopg [0, 1] b (fun k x y wr => ∃ a' b' : Nat, a' < 18446744073709551616 ∧ b' ≤ k ∧ b' < 18446744073709551616 ∧ x = .int .u64 a' ∧ y = .int .u64 b' ∧ Nat.gcd a' b' = Nat.gcd a b ∧ ∃ n, wr = w.drewN n)
  case atStart => exact ⟨a, b, ha, Nat.le_refl _, hb, rfl, rfl, rfl, 0, rfl⟩
  case round =>
    obtain ⟨a', b', ha', hk, hb', rfl, rfl, hg, n, rfl⟩ := hrel
    have HG := Lib.hid hg
    clear hg
    by_cases h : b' = 0
    · subst h
      go_wp2
      rw [Exit.noGoto_ret]
      go_ret
      exact ⟨ret_u64 (by unfold gd; rw [← HG.out, Nat.gcd_zero_right]), n, rfl⟩
    · have hz : ((b' : Int) == 0) = false := by simp; omega
      go_wp2
      go_quiet (fail)
      go_wp2
      rename_i nq _
      go_roundg (b' - 1)
      case measure => omega
      case rel =>
        have hm := Nat.mod_lt a' (show 0 < b' by omega)
        refine ⟨b', a' % b', hb', by omega, by omega, rfl, ?_, ?_, ?_⟩
        · rw [Int.natCast_emod]
        · rw [← HG.out, Nat.gcd_comm b', ← Nat.gcd_rec, Nat.gcd_comm]
        · exact ⟨n + nq, by rw [World.drewN_drewN]⟩

theorem bodyPost_panic {P : Program} {fn : Func} {R : Ending → World → Prop} {a : Act} {w : World} {c : List PanicEntry} (hd : a.defers = []) (h : R (.panicked c) w) : bodyPost P fn R (.panic c) a w := ⟨hd, h⟩

/-- The facts that 'reduce' walks by: the two quotients. -/
structure Halved (n d : Int) (x y : Nat) : Prop where
  n0 : -9223372036854775808 ≤ n
  n1 : n ≤ 9223372036854775807
  d0 : -9223372036854775808 ≤ d
  d1 : d ≤ 9223372036854775807
  g0 : 0 < gd (mag n) (mag d)
  ex : mag n / gd (mag n) (mag d) = x
  ey : mag d / gd (mag n) (mag d) = y

set_option maxRecDepth 100000 in
set_option maxHeartbeats 400000 in
theorem reduce_pos (n d : Int) (x y : Nat) (w : World) (h : Halved n d x y) (hx : x ≤ 1000000000) (hy : y ≤ 1000000000) (hs : n < 0 ↔ d < 0) :
    Calls Tryd.prog 57 #[.agg #[.int .i64 n, .int .i64 d]] w fun e w' => e = .returned (.agg #[.int .i64 x, .int .i64 y]) ∧ Below w.heap.size w w' := by
  obtain ⟨n0, n1, d0, d1, g0, ex, ey⟩ := h
  have hX := mag_lt n0 n1
  have hY := mag_lt d0 d1
  have hz : ((gd (mag n) (mag d) : Int) == 0) = false := by simp; omega
  have ex' : (mag n : Int) / (gd (mag n) (mag d) : Int) = (x : Int) := by rw [← ex]; exact (Int.natCast_ediv _ _).symm
  have ey' : (mag d : Int) / (gd (mag n) (mag d) : Int) = (y : Int) := by rw [← ey]; exact (Int.natCast_ediv _ _).symm
  clear ex ey
  by_cases hn : n < 0
  · have hd : d < 0 := hs.1 hn
    clear hs
    have hnb : decide (n < 0) = true := by simp; omega
    have hdb : decide (d < 0) = true := by simp; omega
    go_enter Tryd.func57, Tryd.ntmps57
    go_wp2
    go_quiet ((go_at_call 65; exact Calls.quiet_of_same (size_any _ _ (by omega) (by omega))))
    go_wp2_with (go_at_call 66; refine (divisor_any _ _ _ (by omega) (by omega)).mono ?_; rintro e w' ⟨rfl, k, rfl⟩)
    go_quiet (fail)
    go_wp2
    exact bodyPost_ret (v := .agg #[.int .i64 x, .int .i64 y]) (by simp [results, Tryd.results57, go_sem]) rfl ⟨rfl, (by repeat' (first | exact Below.refl _ _ | refine Below.setCell ?_ (by simp) _ | refine below_drewN ?_ _ | refine Below.alloc ?_ (by simp) _))⟩
  · have hd : ¬ d < 0 := fun c => hn (hs.2 c)
    clear hs
    have hnb : decide (n < 0) = false := by simp; omega
    have hdb : decide (d < 0) = false := by simp; omega
    go_enter Tryd.func57, Tryd.ntmps57
    go_wp2
    go_quiet ((go_at_call 65; exact Calls.quiet_of_same (size_any _ _ (by omega) (by omega))))
    go_wp2_with (go_at_call 66; refine (divisor_any _ _ _ (by omega) (by omega)).mono ?_; rintro e w' ⟨rfl, k, rfl⟩)
    go_quiet (fail)
    go_wp2
    exact bodyPost_ret (v := .agg #[.int .i64 x, .int .i64 y]) (by simp [results, Tryd.results57, go_sem]) rfl ⟨rfl, (by repeat' (first | exact Below.refl _ _ | refine Below.setCell ?_ (by simp) _ | refine below_drewN ?_ _ | refine Below.alloc ?_ (by simp) _))⟩

set_option maxRecDepth 100000 in
set_option maxHeartbeats 400000 in
theorem reduce_neg (n d : Int) (x y : Nat) (w : World) (h : Halved n d x y) (hx : x ≤ 1000000000) (hy : y ≤ 1000000000) (hs : ¬ (n < 0 ↔ d < 0)) :
    Calls Tryd.prog 57 #[.agg #[.int .i64 n, .int .i64 d]] w fun e w' => e = .returned (.agg #[.int .i64 (-(x : Int)), .int .i64 y]) ∧ Below w.heap.size w w' := by
  obtain ⟨n0, n1, d0, d1, g0, ex, ey⟩ := h
  have hX := mag_lt n0 n1
  have hY := mag_lt d0 d1
  have hz : ((gd (mag n) (mag d) : Int) == 0) = false := by simp; omega
  have ex' : (mag n : Int) / (gd (mag n) (mag d) : Int) = (x : Int) := by rw [← ex]; exact (Int.natCast_ediv _ _).symm
  have ey' : (mag d : Int) / (gd (mag n) (mag d) : Int) = (y : Int) := by rw [← ey]; exact (Int.natCast_ediv _ _).symm
  clear ex ey
  by_cases hn : n < 0
  · have hd : ¬ d < 0 := fun c => hs ⟨fun _ => c, fun _ => hn⟩
    clear hs
    have hnb : decide (n < 0) = true := by simp; omega
    have hdb : decide (d < 0) = false := by simp; omega
    go_enter Tryd.func57, Tryd.ntmps57
    go_wp2
    go_quiet ((go_at_call 65; exact Calls.quiet_of_same (size_any _ _ (by omega) (by omega))))
    go_wp2_with (go_at_call 66; refine (divisor_any _ _ _ (by omega) (by omega)).mono ?_; rintro e w' ⟨rfl, k, rfl⟩)
    go_quiet (fail)
    go_wp2
    exact bodyPost_ret (v := .agg #[.int .i64 (-(x : Int)), .int .i64 y]) (by simp [results, Tryd.results57, go_sem]) rfl ⟨rfl, (by repeat' (first | exact Below.refl _ _ | refine Below.setCell ?_ (by simp) _ | refine below_drewN ?_ _ | refine Below.alloc ?_ (by simp) _))⟩
  · have hd : d < 0 := by omega
    clear hs
    have hnb : decide (n < 0) = false := by simp; omega
    have hdb : decide (d < 0) = true := by simp; omega
    go_enter Tryd.func57, Tryd.ntmps57
    go_wp2
    go_quiet ((go_at_call 65; exact Calls.quiet_of_same (size_any _ _ (by omega) (by omega))))
    go_wp2_with (go_at_call 66; refine (divisor_any _ _ _ (by omega) (by omega)).mono ?_; rintro e w' ⟨rfl, k, rfl⟩)
    go_quiet (fail)
    go_wp2
    exact bodyPost_ret (v := .agg #[.int .i64 (-(x : Int)), .int .i64 y]) (by simp [results, Tryd.results57, go_sem]) rfl ⟨rfl, (by repeat' (first | exact Below.refl _ _ | refine Below.setCell ?_ (by simp) _ | refine below_drewN ?_ _ | refine Below.alloc ?_ (by simp) _))⟩

set_option maxRecDepth 100000 in
set_option maxHeartbeats 400000 in
theorem reduce_no (n d : Int) (x y : Nat) (w : World) (h : Halved n d x y) (hx : 1000000000 < x ∨ 1000000000 < y) :
    Calls Tryd.prog 57 #[.agg #[.int .i64 n, .int .i64 d]] w fun e w' => e = .panicked [{ v := .iface 24 (.int .i64 3), recovered := false }] ∧ Below w.heap.size w w' := by
  obtain ⟨n0, n1, d0, d1, g0, ex, ey⟩ := h
  have hX := mag_lt n0 n1
  have hY := mag_lt d0 d1
  have hz : ((gd (mag n) (mag d) : Int) == 0) = false := by simp; omega
  have ex' : (mag n : Int) / (gd (mag n) (mag d) : Int) = (x : Int) := by rw [← ex]; exact (Int.natCast_ediv _ _).symm
  have ey' : (mag d : Int) / (gd (mag n) (mag d) : Int) = (y : Int) := by rw [← ey]; exact (Int.natCast_ediv _ _).symm
  have hxl : x < 18446744073709551616 := by rw [← ex]; exact Nat.lt_of_le_of_lt (Nat.div_le_self _ _) hX
  have hyl : y < 18446744073709551616 := by rw [← ey]; exact Nat.lt_of_le_of_lt (Nat.div_le_self _ _) hY
  clear ex ey
  by_cases hx1 : 1000000000 < x
  · clear hx
    have hxb : decide (1000000000 < (x : Int)) = true := by simp; omega
    go_enter Tryd.func57, Tryd.ntmps57
    go_wp2
    go_quiet ((go_at_call 65; exact Calls.quiet_of_same (size_any _ _ (by omega) (by omega))))
    go_wp2_with (go_at_call 66; refine (divisor_any _ _ _ (by omega) (by omega)).mono ?_; rintro e w' ⟨rfl, k, rfl⟩)
    go_quiet (fail)
    go_wp2
    exact bodyPost_panic rfl ⟨rfl, (by repeat' (first | exact Below.refl _ _ | refine Below.setCell ?_ (by simp) _ | refine below_drewN ?_ _ | refine Below.alloc ?_ (by simp) _))⟩
  · have hy1 : 1000000000 < y := by omega
    clear hx
    have hxb : decide (1000000000 < (x : Int)) = false := by simp; omega
    have hyb : decide (1000000000 < (y : Int)) = true := by simp; omega
    go_enter Tryd.func57, Tryd.ntmps57
    go_wp2
    go_quiet ((go_at_call 65; exact Calls.quiet_of_same (size_any _ _ (by omega) (by omega))))
    go_wp2_with (go_at_call 66; refine (divisor_any _ _ _ (by omega) (by omega)).mono ?_; rintro e w' ⟨rfl, k, rfl⟩)
    go_quiet (fail)
    go_wp2
    exact bodyPost_panic rfl ⟨rfl, (by repeat' (first | exact Below.refl _ _ | refine Below.setCell ?_ (by simp) _ | refine below_drewN ?_ _ | refine Below.alloc ?_ (by simp) _))⟩

end Go.Proofs.YtoaeceeookknnaaDoor
