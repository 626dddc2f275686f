/-
  Contracts of the leaves of package rational: the sign is taken off, and the greatest common divisor.
  Contracts of Make, which recovers what reduce panics, and of Valid.
  Contracts of Make at all integers, the program's and the reference's.
-/
import Derived.Test.YtedbpjcglnkjmaaGreatDoorRows
import Derived.Test.YtedbpjcglnkjmaaGreatDoorZA
import Derived.WalkKit
import Derived.WalkSpells
import Derived.WalkLawsBesides
import Derived.Lib.Hide
import Derived.Deep.LoopGhost
import Derived.Deep.QuietTactic
import Derived.BigQuiet
import Derived.Defers
import Derived.Recover
import Derived.Laws.Pointers
namespace Go.Proofs.YtedbpjcglnkjmaaGreatDoor
open Go.RowKit

theorem ret_u64 {a b : Int} (h : a = b) : Ending.returned (.int .u64 a) = .returned (.int .u64 b) := by rw [h]

theorem ret_agg2 {k l : IntKind} {a b c d : Int} (h : a = c) (h' : b = d) : Ending.returned (.agg #[.int k a, .int l b]) = .returned (.agg #[.int k c, .int l d]) := by rw [h, h']

/-- An integer without its sign. -/
def mag (n : Int) : Nat := n.natAbs
/-- The greatest common divisor. -/
def gd (a b : Nat) : Nat := Nat.gcd a b
theorem mag_lt {n : Int} (h0 : -9223372036854775808 ≤ n) (h1 : n ≤ 9223372036854775807) : mag n < 18446744073709551616 := by unfold mag; omega

set_option maxHeartbeats 400000 in
theorem size_any (n : Int) (w : World) (h0 : -9223372036854775808 ≤ n) (h1 : n ≤ 9223372036854775807) :
    Calls Tryz.prog 137 #[.int .i64 n] w fun e w' => e = .returned (.int .u64 (mag n)) ∧ w' = w := by
  by_cases h : n < 0
  · go_enter Tryz.func137, Tryz.ntmps137
    go_wp2
    go_ret
    exact ⟨ret_u64 (by rw [IntKind.wrap_u64, IntKind.wrap_u64]; unfold mag; omega), rfl⟩
  · go_enter Tryz.func137, Tryz.ntmps137
    go_wp2
    go_ret
    exact ⟨ret_u64 (by unfold mag; omega), rfl⟩

set_option maxHeartbeats 400000 in
theorem divisor_any (a b : Nat) (w : World) (ha : a < 18446744073709551616) (hb : b < 18446744073709551616) :
    Calls Tryz.prog 138 #[.int .u64 a, .int .u64 b] w fun e w' => e = .returned (.int .u64 (gd a b)) ∧ ∃ n, w' = w.drewN n := by
  go_enter Tryz.func138, Tryz.ntmps138
  go_wp2
  go_step3
  go_wp2
  go_step3
  go_wp2
  go_loopg [0, 1] b (fun k x y wr => ∃ a' b' : Nat, a' < 18446744073709551616 ∧ b' ≤ k ∧ b' < 18446744073709551616 ∧ x = .int .u64 a' ∧ y = .int .u64 b' ∧ Nat.gcd a' b' = Nat.gcd a b ∧ ∃ n, wr = w.drewN n)
  case atStart => exact ⟨a, b, ha, Nat.le_refl _, hb, rfl, rfl, rfl, 0, rfl⟩
  case round =>
    obtain ⟨a', b', ha', hk, hb', rfl, rfl, hg, n, rfl⟩ := hrel
    have HG := Lib.hid hg
    clear hg
    by_cases h : b' = 0
    · subst h
      go_wp2
      rw [Exit.noGoto_ret]
      go_ret
      exact ⟨ret_u64 (by unfold gd; rw [← HG.out, Nat.gcd_zero_right]), n, rfl⟩
    · have hz : ((b' : Int) == 0) = false := by simp; omega
      go_wp2
      go_quiet (fail)
      go_wp2
      rename_i nq _
      go_roundg (b' - 1)
      case measure => omega
      case rel =>
        have hm := Nat.mod_lt a' (show 0 < b' by omega)
        refine ⟨b', a' % b', hb', by omega, by omega, rfl, ?_, ?_, ?_⟩
        · rw [Int.natCast_emod]
        · rw [← HG.out, Nat.gcd_comm b', ← Nat.gcd_rec, Nat.gcd_comm]
        · exact ⟨n + nq, by rw [World.drewN_drewN]⟩

theorem bodyPost_panic {P : Program} {fn : Func} {R : Ending → World → Prop} {a : Act} {w : World} {c : List PanicEntry} (hd : a.defers = []) (h : R (.panicked c) w) : bodyPost P fn R (.panic c) a w := ⟨hd, h⟩

/-- The facts that 'reduce' walks by: the two quotients. -/
structure Halved (n d : Int) (x y : Nat) : Prop where
  n0 : -9223372036854775808 ≤ n
  n1 : n ≤ 9223372036854775807
  d0 : -9223372036854775808 ≤ d
  d1 : d ≤ 9223372036854775807
  g0 : 0 < gd (mag n) (mag d)
  ex : mag n / gd (mag n) (mag d) = x
  ey : mag d / gd (mag n) (mag d) = y

set_option maxRecDepth 100000 in
set_option maxHeartbeats 400000 in
theorem reduce_pos (n d : Int) (x y : Nat) (w : World) (h : Halved n d x y) (hx : x ≤ 1000000000) (hy : y ≤ 1000000000) (hs : n < 0 ↔ d < 0) :
    Calls Tryz.prog 128 #[.agg #[.int .i64 n, .int .i64 d]] w fun e w' => e = .returned (.agg #[.int .i64 x, .int .i64 y]) ∧ Below w.heap.size w w' := by
  obtain ⟨n0, n1, d0, d1, g0, ex, ey⟩ := h
  have hX := mag_lt n0 n1
  have hY := mag_lt d0 d1
  have hz : ((gd (mag n) (mag d) : Int) == 0) = false := by simp; omega
  have ex' : (mag n : Int) / (gd (mag n) (mag d) : Int) = (x : Int) := by rw [← ex]; exact (Int.natCast_ediv _ _).symm
  have ey' : (mag d : Int) / (gd (mag n) (mag d) : Int) = (y : Int) := by rw [← ey]; exact (Int.natCast_ediv _ _).symm
  clear ex ey
  by_cases hn : n < 0
  · have hd : d < 0 := hs.1 hn
    clear hs
    have hnb : decide (n < 0) = true := by simp; omega
    have hdb : decide (d < 0) = true := by simp; omega
    go_enter Tryz.func128, Tryz.ntmps128
    go_wp2
    go_quiet ((go_at_call 137; exact Calls.quiet_of_same (size_any _ _ (by omega) (by omega))))
    go_wp2_with (go_at_call 138; refine (divisor_any _ _ _ (by omega) (by omega)).mono ?_; rintro e w' ⟨rfl, k, rfl⟩)
    go_quiet (fail)
    go_wp2
    exact bodyPost_ret (v := .agg #[.int .i64 x, .int .i64 y]) (by simp [results, Tryz.results128, go_sem]) rfl ⟨rfl, (by repeat' (first | exact Below.refl _ _ | refine Below.setCell ?_ (by simp) _ | refine below_drewN ?_ _ | refine Below.alloc ?_ (by simp) _))⟩
  · have hd : ¬ d < 0 := fun c => hn (hs.2 c)
    clear hs
    have hnb : decide (n < 0) = false := by simp; omega
    have hdb : decide (d < 0) = false := by simp; omega
    go_enter Tryz.func128, Tryz.ntmps128
    go_wp2
    go_quiet ((go_at_call 137; exact Calls.quiet_of_same (size_any _ _ (by omega) (by omega))))
    go_wp2_with (go_at_call 138; refine (divisor_any _ _ _ (by omega) (by omega)).mono ?_; rintro e w' ⟨rfl, k, rfl⟩)
    go_quiet (fail)
    go_wp2
    exact bodyPost_ret (v := .agg #[.int .i64 x, .int .i64 y]) (by simp [results, Tryz.results128, go_sem]) rfl ⟨rfl, (by repeat' (first | exact Below.refl _ _ | refine Below.setCell ?_ (by simp) _ | refine below_drewN ?_ _ | refine Below.alloc ?_ (by simp) _))⟩

set_option maxRecDepth 100000 in
set_option maxHeartbeats 400000 in
theorem reduce_neg (n d : Int) (x y : Nat) (w : World) (h : Halved n d x y) (hx : x ≤ 1000000000) (hy : y ≤ 1000000000) (hs : ¬ (n < 0 ↔ d < 0)) :
    Calls Tryz.prog 128 #[.agg #[.int .i64 n, .int .i64 d]] w fun e w' => e = .returned (.agg #[.int .i64 (-(x : Int)), .int .i64 y]) ∧ Below w.heap.size w w' := by
  obtain ⟨n0, n1, d0, d1, g0, ex, ey⟩ := h
  have hX := mag_lt n0 n1
  have hY := mag_lt d0 d1
  have hz : ((gd (mag n) (mag d) : Int) == 0) = false := by simp; omega
  have ex' : (mag n : Int) / (gd (mag n) (mag d) : Int) = (x : Int) := by rw [← ex]; exact (Int.natCast_ediv _ _).symm
  have ey' : (mag d : Int) / (gd (mag n) (mag d) : Int) = (y : Int) := by rw [← ey]; exact (Int.natCast_ediv _ _).symm
  clear ex ey
  by_cases hn : n < 0
  · have hd : ¬ d < 0 := fun c => hs ⟨fun _ => c, fun _ => hn⟩
    clear hs
    have hnb : decide (n < 0) = true := by simp; omega
    have hdb : decide (d < 0) = false := by simp; omega
    go_enter Tryz.func128, Tryz.ntmps128
    go_wp2
    go_quiet ((go_at_call 137; exact Calls.quiet_of_same (size_any _ _ (by omega) (by omega))))
    go_wp2_with (go_at_call 138; refine (divisor_any _ _ _ (by omega) (by omega)).mono ?_; rintro e w' ⟨rfl, k, rfl⟩)
    go_quiet (fail)
    go_wp2
    exact bodyPost_ret (v := .agg #[.int .i64 (-(x : Int)), .int .i64 y]) (by simp [results, Tryz.results128, go_sem]) rfl ⟨rfl, (by repeat' (first | exact Below.refl _ _ | refine Below.setCell ?_ (by simp) _ | refine below_drewN ?_ _ | refine Below.alloc ?_ (by simp) _))⟩
  · have hd : d < 0 := by omega
    clear hs
    have hnb : decide (n < 0) = false := by simp; omega
    have hdb : decide (d < 0) = true := by simp; omega
    go_enter Tryz.func128, Tryz.ntmps128
    go_wp2
    go_quiet ((go_at_call 137; exact Calls.quiet_of_same (size_any _ _ (by omega) (by omega))))
    go_wp2_with (go_at_call 138; refine (divisor_any _ _ _ (by omega) (by omega)).mono ?_; rintro e w' ⟨rfl, k, rfl⟩)
    go_quiet (fail)
    go_wp2
    exact bodyPost_ret (v := .agg #[.int .i64 (-(x : Int)), .int .i64 y]) (by simp [results, Tryz.results128, go_sem]) rfl ⟨rfl, (by repeat' (first | exact Below.refl _ _ | refine Below.setCell ?_ (by simp) _ | refine below_drewN ?_ _ | refine Below.alloc ?_ (by simp) _))⟩

set_option maxRecDepth 100000 in
set_option maxHeartbeats 400000 in
theorem reduce_no (n d : Int) (x y : Nat) (w : World) (h : Halved n d x y) (hx : 1000000000 < x ∨ 1000000000 < y) :
    Calls Tryz.prog 128 #[.agg #[.int .i64 n, .int .i64 d]] w fun e w' => e = .panicked [{ v := .iface 37 (.int .i64 3), recovered := false }] ∧ Below w.heap.size w w' := by
  obtain ⟨n0, n1, d0, d1, g0, ex, ey⟩ := h
  have hX := mag_lt n0 n1
  have hY := mag_lt d0 d1
  have hz : ((gd (mag n) (mag d) : Int) == 0) = false := by simp; omega
  have ex' : (mag n : Int) / (gd (mag n) (mag d) : Int) = (x : Int) := by rw [← ex]; exact (Int.natCast_ediv _ _).symm
  have ey' : (mag d : Int) / (gd (mag n) (mag d) : Int) = (y : Int) := by rw [← ey]; exact (Int.natCast_ediv _ _).symm
  have hxl : x < 18446744073709551616 := by rw [← ex]; exact Nat.lt_of_le_of_lt (Nat.div_le_self _ _) hX
  have hyl : y < 18446744073709551616 := by rw [← ey]; exact Nat.lt_of_le_of_lt (Nat.div_le_self _ _) hY
  clear ex ey
  by_cases hx1 : 1000000000 < x
  · clear hx
    have hxb : decide (1000000000 < (x : Int)) = true := by simp; omega
    go_enter Tryz.func128, Tryz.ntmps128
    go_wp2
    go_quiet ((go_at_call 137; exact Calls.quiet_of_same (size_any _ _ (by omega) (by omega))))
    go_wp2_with (go_at_call 138; refine (divisor_any _ _ _ (by omega) (by omega)).mono ?_; rintro e w' ⟨rfl, k, rfl⟩)
    go_quiet (fail)
    go_wp2
    exact bodyPost_panic rfl ⟨rfl, (by repeat' (first | exact Below.refl _ _ | refine Below.setCell ?_ (by simp) _ | refine below_drewN ?_ _ | refine Below.alloc ?_ (by simp) _))⟩
  · have hy1 : 1000000000 < y := by omega
    clear hx
    have hxb : decide (1000000000 < (x : Int)) = false := by simp; omega
    have hyb : decide (1000000000 < (y : Int)) = true := by simp; omega
    go_enter Tryz.func128, Tryz.ntmps128
    go_wp2
    go_quiet ((go_at_call 137; exact Calls.quiet_of_same (size_any _ _ (by omega) (by omega))))
    go_wp2_with (go_at_call 138; refine (divisor_any _ _ _ (by omega) (by omega)).mono ?_; rintro e w' ⟨rfl, k, rfl⟩)
    go_quiet (fail)
    go_wp2
    exact bodyPost_panic rfl ⟨rfl, (by repeat' (first | exact Below.refl _ _ | refine Below.setCell ?_ (by simp) _ | refine below_drewN ?_ _ | refine Below.alloc ?_ (by simp) _))⟩

end Go.Proofs.YtedbpjcglnkjmaaGreatDoor
namespace Go.Proofs.YtedbpjcglnkjmaaGreatDoor
open Go.RowKit

theorem bcell {W w1 : World} (hb : Below W.heap.size W w1) : (∀ b o, b < W.heap.size → w1.cell? ⟨b, o, none⟩ = W.cell? ⟨b, o, none⟩) ∧ (∀ b o, b < W.heap.size → w1.frozen? ⟨b, o, none⟩ = W.frozen? ⟨b, o, none⟩) :=
  ⟨fun b o h => hb.cell (p := ⟨b, o, none⟩) h, fun b o h => hb.frozen (p := ⟨b, o, none⟩) h⟩

theorem catch_panicking (b1 b2 : Nat) (hne : ¬ b1 = b2) (x0 x1 x2 : Value) (pv : Value) (u : TypeId) (w : World) (h0 : w.cell? ⟨b1, 0, none⟩ = some x0) (h1 : w.cell? ⟨b1, 1, none⟩ = some x1) (h2 : w.cell? ⟨b2, 0, none⟩ = some x2)
    (f0 : w.frozen? ⟨b1, 0, none⟩ = false) (f1 : w.frozen? ⟨b1, 1, none⟩ = false) (f2 : w.frozen? ⟨b2, 0, none⟩ = false) :
    CallsD Tryz.prog 127 #[.pointer (some ⟨b1, 0, none⟩), .pointer (some ⟨b2, 0, none⟩)] (.panicking [{ v := .iface u pv, recovered := false }]) w fun e u' w' =>
      e = .returned (.tuple #[]) ∧ u' = .panicking [{ v := .iface u pv, recovered := true }] ∧ w' = (((w.setCell ⟨b1, 0, none⟩ (.int .i64 0)).setCell ⟨b1, 1, none⟩ (.int .i64 0)).setCell ⟨b2, 0, none⟩ (.int .i64 3)) := by
  refine callsD_of_wpS Tryz.func127 rfl fun c₀ cs hu => ?_
  apply wpS_seq
  apply wpS_region
  simp [wpOpsS, go_sem, recoverD, hu, Tryz.ntmps127, Exit.thenS]
  refine wpS_cond (t := true) (by simp [Act.eval, Array.replicate]) ?_
  simp only [if_true]
  apply wpS_region
  simp [wpOpsS, go_sem, h0, h1, h2, f0, f1, f2, bodyPostS, results, Tryz.results127]

theorem catch_idle (p1 p2 : Value) (w : World) :
    CallsD Tryz.prog 127 #[p1, p2] .returning w fun e u' w' => e = .returned (.tuple #[]) ∧ u' = .returning ∧ w' = w := by
  refine callsD_of_wpS Tryz.func127 rfl fun c₀ cs hu => ?_
  apply wpS_seq
  apply wpS_region
  simp [wpOpsS, go_sem, recoverD, hu, Tryz.ntmps127, Exit.thenS]
  refine wpS_cond (t := false) (by simp [Act.eval, Array.replicate]) ?_
  simp only [Bool.false_eq_true, if_false]
  refine wpS_of_wp (wp_skip ?_)
  cases c₀
  simp_all [bodyPostS, results, Tryz.results127]

/-- What Make gives: numerator, denominator, error. -/
def mk (n d : Int) : Int × Int × Int := if d = 0 then (0, 0, 7) else match Q.red n d with | some (p, q) => (p, q, 0) | none => (0, 0, 3)

set_option maxRecDepth 100000 in
set_option maxHeartbeats 400000 in
theorem make_zero (n : Int) (w : World) :
    Calls Tryz.prog 119 #[.int .i64 n, .int .i64 0] w fun e w' => e = .returned (.tuple #[.agg #[.int .i64 0, .int .i64 0], .int .i64 7]) ∧ Below w.heap.size w w' := by
  have hmf : ∀ (fn : Fn) (first cap : Array Value) (w : World), (Instr.makeFunc fn first cap).run Tryz.prog w = .ok (.func fn first cap) w := fun _ _ _ _ => rfl
  go_enter_defers Tryz.func119, Tryz.ntmps119
  go_wp2
  refine leaves_cons (f := 127) (args := #[.pointer (some ⟨w.heap.size, 0, none⟩), .pointer (some ⟨w.heap.size + 1, 0, none⟩)]) (by simp) (by simp [go_sem]) ?_
  refine (catch_idle _ _ _).mono ?_
  rintro e u' w'' ⟨rfl, rfl, rfl⟩
  simp [Leaves, settle, results, Tryz.results119, go_sem]
  exact ((Below.refl _ _).alloc (Nat.le_refl _) _).alloc (by simp) _

set_option maxRecDepth 100000 in
set_option maxHeartbeats 400000 in
theorem make_pos (n d : Int) (x y : Nat) (w : World) (hd0 : (d == 0) = false) (h : Halved n d x y) (hx : x ≤ 1000000000) (hy : y ≤ 1000000000) (hs : n < 0 ↔ d < 0) :
    Calls Tryz.prog 119 #[.int .i64 n, .int .i64 d] w fun e w' => e = .returned (.tuple #[.agg #[.int .i64 x, .int .i64 y], .int .i64 0]) ∧ Below w.heap.size w w' := by
  have hmf : ∀ (fn : Fn) (first cap : Array Value) (w : World), (Instr.makeFunc fn first cap).run Tryz.prog w = .ok (.func fn first cap) w := fun _ _ _ _ => rfl
  have H := Lib.hid h
  have HS := Lib.hid hs
  clear h hs
  go_enter_defers Tryz.func119, Tryz.ntmps119
  go_wp2_with (go_at_call 128; refine (reduce_pos _ _ _ _ _ H.out hx hy HS.out).mono ?_; rintro e w1 ⟨rfl, hb⟩; obtain ⟨hc, hf⟩ := bcell hb)
  have HB : Below w.heap.size w w1 := (((Below.refl _ _).alloc (Nat.le_refl _) _).alloc (by simp) _).trans (hb.mono (by simp; omega))
  have c0 : w1.cell? ⟨w.heap.size, 0, none⟩ = some (.int .i64 0) := (hc _ _ (by simp; omega)).trans (by simp)
  have c1 : w1.cell? ⟨w.heap.size, 1, none⟩ = some (.int .i64 0) := (hc _ _ (by simp; omega)).trans (by simp)
  have c2 : w1.cell? ⟨w.heap.size + 1, 0, none⟩ = some (.int .i64 0) := (hc _ _ (by simp)).trans (by simp)
  refine leaves_cons (f := 127) (args := #[.pointer (some ⟨w.heap.size, 0, none⟩), .pointer (some ⟨w.heap.size + 1, 0, none⟩)]) (by simp) (by simp [go_sem]) ?_
  refine (catch_idle _ _ _).mono ?_
  rintro e u' w'' ⟨rfl, rfl, rfl⟩
  simp [Leaves, settle, results, Tryz.results119, go_sem, c0, c1, c2]
  repeat' (first | exact HB | refine Below.setCell ?_ (by simp) _)

set_option maxRecDepth 100000 in
set_option maxHeartbeats 400000 in
theorem make_neg (n d : Int) (x y : Nat) (w : World) (hd0 : (d == 0) = false) (h : Halved n d x y) (hx : x ≤ 1000000000) (hy : y ≤ 1000000000) (hs : ¬ (n < 0 ↔ d < 0)) :
    Calls Tryz.prog 119 #[.int .i64 n, .int .i64 d] w fun e w' => e = .returned (.tuple #[.agg #[.int .i64 (-(x : Int)), .int .i64 y], .int .i64 0]) ∧ Below w.heap.size w w' := by
  have hmf : ∀ (fn : Fn) (first cap : Array Value) (w : World), (Instr.makeFunc fn first cap).run Tryz.prog w = .ok (.func fn first cap) w := fun _ _ _ _ => rfl
  have H := Lib.hid h
  have HS := Lib.hid hs
  clear h hs
  go_enter_defers Tryz.func119, Tryz.ntmps119
  go_wp2_with (go_at_call 128; refine (reduce_neg _ _ _ _ _ H.out hx hy HS.out).mono ?_; rintro e w1 ⟨rfl, hb⟩; obtain ⟨hc, hf⟩ := bcell hb)
  have HB : Below w.heap.size w w1 := (((Below.refl _ _).alloc (Nat.le_refl _) _).alloc (by simp) _).trans (hb.mono (by simp; omega))
  have c0 : w1.cell? ⟨w.heap.size, 0, none⟩ = some (.int .i64 0) := (hc _ _ (by simp; omega)).trans (by simp)
  have c1 : w1.cell? ⟨w.heap.size, 1, none⟩ = some (.int .i64 0) := (hc _ _ (by simp; omega)).trans (by simp)
  have c2 : w1.cell? ⟨w.heap.size + 1, 0, none⟩ = some (.int .i64 0) := (hc _ _ (by simp)).trans (by simp)
  refine leaves_cons (f := 127) (args := #[.pointer (some ⟨w.heap.size, 0, none⟩), .pointer (some ⟨w.heap.size + 1, 0, none⟩)]) (by simp) (by simp [go_sem]) ?_
  refine (catch_idle _ _ _).mono ?_
  rintro e u' w'' ⟨rfl, rfl, rfl⟩
  simp [Leaves, settle, results, Tryz.results119, go_sem, c0, c1, c2]
  repeat' (first | exact HB | refine Below.setCell ?_ (by simp) _)

set_option maxRecDepth 100000 in
set_option maxHeartbeats 400000 in
theorem make_no (n d : Int) (x y : Nat) (w : World) (hd0 : (d == 0) = false) (h : Halved n d x y) (hx : 1000000000 < x ∨ 1000000000 < y) :
    Calls Tryz.prog 119 #[.int .i64 n, .int .i64 d] w fun e w' => e = .returned (.tuple #[.agg #[.int .i64 0, .int .i64 0], .int .i64 3]) ∧ Below w.heap.size w w' := by
  have hmf : ∀ (fn : Fn) (first cap : Array Value) (w : World), (Instr.makeFunc fn first cap).run Tryz.prog w = .ok (.func fn first cap) w := fun _ _ _ _ => rfl
  have H := Lib.hid h
  have HX := Lib.hid hx
  clear h hx
  go_enter_defers Tryz.func119, Tryz.ntmps119
  go_wp2_with (go_at_call 128; refine (reduce_no _ _ _ _ _ H.out HX.out).mono ?_; rintro e w1 ⟨rfl, hb⟩; obtain ⟨hc, hf⟩ := bcell hb)
  have HB : Below w.heap.size w w1 := (((Below.refl _ _).alloc (Nat.le_refl _) _).alloc (by simp) _).trans (hb.mono (by simp; omega))
  have c0 : w1.cell? ⟨w.heap.size, 0, none⟩ = some (.int .i64 0) := (hc _ _ (by simp; omega)).trans (by simp)
  have c1 : w1.cell? ⟨w.heap.size, 1, none⟩ = some (.int .i64 0) := (hc _ _ (by simp; omega)).trans (by simp)
  have c2 : w1.cell? ⟨w.heap.size + 1, 0, none⟩ = some (.int .i64 0) := (hc _ _ (by simp)).trans (by simp)
  refine leaves_cons (f := 127) (args := #[.pointer (some ⟨w.heap.size, 0, none⟩), .pointer (some ⟨w.heap.size + 1, 0, none⟩)]) (by simp) (by simp [go_sem]) ?_
  refine (catch_panicking w.heap.size (w.heap.size + 1) (by omega) (.int .i64 0) (.int .i64 0) (.int .i64 0) _ _ _ ?_ ?_ ?_ ?_ ?_ ?_).mono ?_
  · exact c0
  · exact c1
  · exact c2
  · exact (hf _ _ (by simp; omega)).trans (by simp)
  · exact (hf _ _ (by simp; omega)).trans (by simp)
  · exact (hf _ _ (by simp)).trans (by simp)
  rintro e u' w'' ⟨rfl, rfl, rfl⟩
  simp [Leaves, settle, results, Tryz.results119, go_sem, c0, c1, c2]
  repeat' (first | exact HB | refine Below.setCell ?_ (by simp) _)
end Go.Proofs.YtedbpjcglnkjmaaGreatDoor
namespace Go.Proofs.YtedbpjcglnkjmaaGreatDoor
open Go.RowKit

theorem make_any (n d : Int) (w : World) (n0 : -9223372036854775808 ≤ n) (n1 : n ≤ 9223372036854775807) (d0 : -9223372036854775808 ≤ d) (d1 : d ≤ 9223372036854775807) :
    Calls Tryz.prog 119 #[.int .i64 n, .int .i64 d] w fun e w' =>
      e = .returned (.tuple #[.agg #[.int .i64 (mk n d).1, .int .i64 (mk n d).2.1], .int .i64 (mk n d).2.2]) ∧ Below w.heap.size w w' := by
  by_cases h : d = 0
  · subst h
    exact make_zero n w
  · obtain ⟨g, x, y, hg, eg, _, _, _, _, ex, ey⟩ := Q.parts n d h
    have hz : (d == 0) = false := by simp; exact h
    have hh : Halved n d x y := ⟨n0, n1, d0, d1, by rw [eg] at hg; exact hg, ex, ey⟩
    unfold mk
    rw [if_neg h]
    unfold Q.red
    rw [ex, ey]
    by_cases hx : x > 1000000000 ∨ y > 1000000000
    · rw [if_pos hx]
      exact make_no n d x y w hz hh hx
    · rw [if_neg hx]
      by_cases hs : n < 0 ↔ d < 0
      · rw [if_pos hs]
        exact make_pos n d x y w hz hh (by omega) (by omega) hs
      · rw [if_neg hs]
        exact make_neg n d x y w hz hh (by omega) (by omega) hs

set_option maxHeartbeats 400000 in
theorem rsize_any (n : Int) (w : World) (h0 : -9223372036854775808 ≤ n) (h1 : n ≤ 9223372036854775807) :
    Calls Tryz.prog 105 #[.int .i64 n] w fun e w' => e = .returned (.int .u64 (mag n)) ∧ w' = w := by
  by_cases h : n < 0
  · go_enter Tryz.func105, Tryz.ntmps105
    go_wp2
    go_ret
    exact ⟨ret_u64 (by unfold mag; omega), rfl⟩
  · go_enter Tryz.func105, Tryz.ntmps105
    go_wp2
    go_ret
    exact ⟨ret_u64 (by unfold mag; omega), rfl⟩

set_option maxHeartbeats 400000 in
theorem common_any (a b : Nat) (w : World) (ha : a < 18446744073709551616) (hb : b < 18446744073709551616) :
    Calls Tryz.prog 104 #[.int .u64 a, .int .u64 b] w fun e w' => e = .returned (.int .u64 (gd a b)) ∧ w' = w := by
  go_enter Tryz.func104, Tryz.ntmps104
  go_wp2
  go_loopg [0, 1] b (fun k x y wr => ∃ a' b' : Nat, a' < 18446744073709551616 ∧ b' ≤ k ∧ b' < 18446744073709551616 ∧ x = .int .u64 a' ∧ y = .int .u64 b' ∧ Nat.gcd a' b' = Nat.gcd a b ∧ wr = w)
  case atStart => exact ⟨a, b, ha, Nat.le_refl _, hb, rfl, rfl, rfl, rfl⟩
  case round =>
    obtain ⟨a', b', ha', hk, hb', rfl, rfl, hg, rfl⟩ := hrel
    have HG := Lib.hid hg
    clear hg
    by_cases h : b' = 0
    · subst h
      go_wp2
      go_ret
      exact ⟨ret_u64 (by unfold gd; rw [← HG.out, Nat.gcd_zero_right]), rfl⟩
    · have hz : ((b' : Int) == 0) = false := by simp; omega
      have hz' : ((b' : Int) != 0) = true := by simp; omega
      go_wp2
      go_roundg (b' - 1)
      case measure => omega
      case rel =>
        have hm := Nat.mod_lt a' (show 0 < b' by omega)
        refine ⟨b', a' % b', hb', by omega, by omega, rfl, ?_, ?_, rfl⟩
        · rw [Int.natCast_emod]
        · rw [← HG.out, Nat.gcd_comm b', ← Nat.gcd_rec, Nat.gcd_comm]

set_option maxRecDepth 100000 in
set_option maxHeartbeats 400000 in
theorem rmake_zero (n : Int) (w : World) : Calls Tryz.prog 90 #[.int .i64 n, .int .i64 0] w fun e w' =>
    e = .returned (.tuple #[.agg #[.int .i64 0, .int .i64 0], .int .i64 7]) ∧ Below w.heap.size w w' := by
  go_enter Tryz.func90, Tryz.ntmps90
  go_wp2
  exact bodyPost_ret (v := .tuple #[.agg #[.int .i64 0, .int .i64 0], .int .i64 7]) (by simp [results, Tryz.results90, go_sem]) rfl ⟨rfl, (by repeat' (first | exact Below.refl _ _ | refine Below.setCell ?_ (by first | omega | (simp; done) | (simp; omega)) _ | refine below_drewN ?_ _ | refine Below.alloc ?_ (by first | omega | (simp; done) | (simp; omega)) _))⟩

set_option maxRecDepth 100000 in
set_option maxHeartbeats 400000 in
theorem rmake_pos (n d : Int) (x y : Nat) (w : World) (hd0 : (d == 0) = false) (h : Halved n d x y) (hx : x ≤ 1000000000) (hy : y ≤ 1000000000) (hs : n < 0 ↔ d < 0) :
    Calls Tryz.prog 90 #[.int .i64 n, .int .i64 d] w fun e w' => e = .returned (.tuple #[.agg #[.int .i64 x, .int .i64 y], .int .i64 0]) ∧ Below w.heap.size w w' := by
  obtain ⟨n0, n1, d0, d1, g0, ex, ey⟩ := h
  have hX := mag_lt n0 n1
  have hY := mag_lt d0 d1
  have hz : ((gd (mag n) (mag d) : Int) == 0) = false := by simp; omega
  have ex' : (mag n : Int) / (gd (mag n) (mag d) : Int) = (x : Int) := by rw [← ex]; exact (Int.natCast_ediv _ _).symm
  have ey' : (mag d : Int) / (gd (mag n) (mag d) : Int) = (y : Int) := by rw [← ey]; exact (Int.natCast_ediv _ _).symm
  have hxl : x < 18446744073709551616 := by rw [← ex]; exact Nat.lt_of_le_of_lt (Nat.div_le_self _ _) hX
  have hyl : y < 18446744073709551616 := by rw [← ey]; exact Nat.lt_of_le_of_lt (Nat.div_le_self _ _) hY
  clear ex ey
  by_cases hn : n < 0
  · have hd : d < 0 := hs.1 hn
    clear hs
    have hnb : decide (n < 0) = true := by simp; omega
    have hdb : decide (d < 0) = true := by simp; omega
    go_enter Tryz.func90, Tryz.ntmps90
    go_wp2_with (first | (go_at_call 105; refine (rsize_any _ _ (by omega) (by omega)).mono ?_; rintro e w' ⟨rfl, rfl⟩) | (go_at_call 104; refine (common_any _ _ _ (by omega) (by omega)).mono ?_; rintro e w' ⟨rfl, rfl⟩))
    exact bodyPost_ret (v := .tuple #[.agg #[.int .i64 x, .int .i64 y], .int .i64 0]) (by simp [results, Tryz.results90, go_sem]) rfl ⟨rfl, (by repeat' (first | exact Below.refl _ _ | refine Below.setCell ?_ (by first | omega | (simp; done) | (simp; omega)) _ | refine below_drewN ?_ _ | refine Below.alloc ?_ (by first | omega | (simp; done) | (simp; omega)) _))⟩
  · have hd : ¬ d < 0 := fun c => hn (hs.2 c)
    clear hs
    have hnb : decide (n < 0) = false := by simp; omega
    have hdb : decide (d < 0) = false := by simp; omega
    go_enter Tryz.func90, Tryz.ntmps90
    go_wp2_with (first | (go_at_call 105; refine (rsize_any _ _ (by omega) (by omega)).mono ?_; rintro e w' ⟨rfl, rfl⟩) | (go_at_call 104; refine (common_any _ _ _ (by omega) (by omega)).mono ?_; rintro e w' ⟨rfl, rfl⟩))
    exact bodyPost_ret (v := .tuple #[.agg #[.int .i64 x, .int .i64 y], .int .i64 0]) (by simp [results, Tryz.results90, go_sem]) rfl ⟨rfl, (by repeat' (first | exact Below.refl _ _ | refine Below.setCell ?_ (by first | omega | (simp; done) | (simp; omega)) _ | refine below_drewN ?_ _ | refine Below.alloc ?_ (by first | omega | (simp; done) | (simp; omega)) _))⟩

set_option maxRecDepth 100000 in
set_option maxHeartbeats 400000 in
theorem rmake_neg (n d : Int) (x y : Nat) (w : World) (hd0 : (d == 0) = false) (h : Halved n d x y) (hx : x ≤ 1000000000) (hy : y ≤ 1000000000) (hs : ¬ (n < 0 ↔ d < 0)) :
    Calls Tryz.prog 90 #[.int .i64 n, .int .i64 d] w fun e w' => e = .returned (.tuple #[.agg #[.int .i64 (-(x : Int)), .int .i64 y], .int .i64 0]) ∧ Below w.heap.size w w' := by
  obtain ⟨n0, n1, d0, d1, g0, ex, ey⟩ := h
  have hX := mag_lt n0 n1
  have hY := mag_lt d0 d1
  have hz : ((gd (mag n) (mag d) : Int) == 0) = false := by simp; omega
  have ex' : (mag n : Int) / (gd (mag n) (mag d) : Int) = (x : Int) := by rw [← ex]; exact (Int.natCast_ediv _ _).symm
  have ey' : (mag d : Int) / (gd (mag n) (mag d) : Int) = (y : Int) := by rw [← ey]; exact (Int.natCast_ediv _ _).symm
  have hxl : x < 18446744073709551616 := by rw [← ex]; exact Nat.lt_of_le_of_lt (Nat.div_le_self _ _) hX
  have hyl : y < 18446744073709551616 := by rw [← ey]; exact Nat.lt_of_le_of_lt (Nat.div_le_self _ _) hY
  clear ex ey
  by_cases hn : n < 0
  · have hd : ¬ d < 0 := fun c => hs ⟨fun _ => c, fun _ => hn⟩
    clear hs
    have hnb : decide (n < 0) = true := by simp; omega
    have hdb : decide (d < 0) = false := by simp; omega
    go_enter Tryz.func90, Tryz.ntmps90
    go_wp2_with (first | (go_at_call 105; refine (rsize_any _ _ (by omega) (by omega)).mono ?_; rintro e w' ⟨rfl, rfl⟩) | (go_at_call 104; refine (common_any _ _ _ (by omega) (by omega)).mono ?_; rintro e w' ⟨rfl, rfl⟩))
    exact bodyPost_ret (v := .tuple #[.agg #[.int .i64 (-(x : Int)), .int .i64 y], .int .i64 0]) (by simp [results, Tryz.results90, go_sem]) rfl ⟨rfl, (by repeat' (first | exact Below.refl _ _ | refine Below.setCell ?_ (by first | omega | (simp; done) | (simp; omega)) _ | refine below_drewN ?_ _ | refine Below.alloc ?_ (by first | omega | (simp; done) | (simp; omega)) _))⟩
  · have hd : d < 0 := by omega
    clear hs
    have hnb : decide (n < 0) = false := by simp; omega
    have hdb : decide (d < 0) = true := by simp; omega
    go_enter Tryz.func90, Tryz.ntmps90
    go_wp2_with (first | (go_at_call 105; refine (rsize_any _ _ (by omega) (by omega)).mono ?_; rintro e w' ⟨rfl, rfl⟩) | (go_at_call 104; refine (common_any _ _ _ (by omega) (by omega)).mono ?_; rintro e w' ⟨rfl, rfl⟩))
    exact bodyPost_ret (v := .tuple #[.agg #[.int .i64 (-(x : Int)), .int .i64 y], .int .i64 0]) (by simp [results, Tryz.results90, go_sem]) rfl ⟨rfl, (by repeat' (first | exact Below.refl _ _ | refine Below.setCell ?_ (by first | omega | (simp; done) | (simp; omega)) _ | refine below_drewN ?_ _ | refine Below.alloc ?_ (by first | omega | (simp; done) | (simp; omega)) _))⟩

set_option maxRecDepth 100000 in
set_option maxHeartbeats 400000 in
theorem rmake_no (n d : Int) (x y : Nat) (w : World) (hd0 : (d == 0) = false) (h : Halved n d x y) (hx : 1000000000 < x ∨ 1000000000 < y) :
    Calls Tryz.prog 90 #[.int .i64 n, .int .i64 d] w fun e w' => e = .returned (.tuple #[.agg #[.int .i64 0, .int .i64 0], .int .i64 3]) ∧ Below w.heap.size w w' := by
  obtain ⟨n0, n1, d0, d1, g0, ex, ey⟩ := h
  have hX := mag_lt n0 n1
  have hY := mag_lt d0 d1
  have hz : ((gd (mag n) (mag d) : Int) == 0) = false := by simp; omega
  have ex' : (mag n : Int) / (gd (mag n) (mag d) : Int) = (x : Int) := by rw [← ex]; exact (Int.natCast_ediv _ _).symm
  have ey' : (mag d : Int) / (gd (mag n) (mag d) : Int) = (y : Int) := by rw [← ey]; exact (Int.natCast_ediv _ _).symm
  have hxl : x < 18446744073709551616 := by rw [← ex]; exact Nat.lt_of_le_of_lt (Nat.div_le_self _ _) hX
  have hyl : y < 18446744073709551616 := by rw [← ey]; exact Nat.lt_of_le_of_lt (Nat.div_le_self _ _) hY
  clear ex ey
  by_cases hx1 : 1000000000 < x
  · clear hx
    have hxb : decide (1000000000 < (x : Int)) = true := by simp; omega
    go_enter Tryz.func90, Tryz.ntmps90
    go_wp2_with (first | (go_at_call 105; refine (rsize_any _ _ (by omega) (by omega)).mono ?_; rintro e w' ⟨rfl, rfl⟩) | (go_at_call 104; refine (common_any _ _ _ (by omega) (by omega)).mono ?_; rintro e w' ⟨rfl, rfl⟩))
    exact bodyPost_ret (v := .tuple #[.agg #[.int .i64 0, .int .i64 0], .int .i64 3]) (by simp [results, Tryz.results90, go_sem]) rfl ⟨rfl, (by repeat' (first | exact Below.refl _ _ | refine Below.setCell ?_ (by first | omega | (simp; done) | (simp; omega)) _ | refine below_drewN ?_ _ | refine Below.alloc ?_ (by first | omega | (simp; done) | (simp; omega)) _))⟩
  · have hy1 : 1000000000 < y := by omega
    clear hx
    have hxb : decide (1000000000 < (x : Int)) = false := by simp; omega
    have hyb : decide (1000000000 < (y : Int)) = true := by simp; omega
    go_enter Tryz.func90, Tryz.ntmps90
    go_wp2_with (first | (go_at_call 105; refine (rsize_any _ _ (by omega) (by omega)).mono ?_; rintro e w' ⟨rfl, rfl⟩) | (go_at_call 104; refine (common_any _ _ _ (by omega) (by omega)).mono ?_; rintro e w' ⟨rfl, rfl⟩))
    exact bodyPost_ret (v := .tuple #[.agg #[.int .i64 0, .int .i64 0], .int .i64 3]) (by simp [results, Tryz.results90, go_sem]) rfl ⟨rfl, (by repeat' (first | exact Below.refl _ _ | refine Below.setCell ?_ (by first | omega | (simp; done) | (simp; omega)) _ | refine below_drewN ?_ _ | refine Below.alloc ?_ (by first | omega | (simp; done) | (simp; omega)) _))⟩

theorem rmake_any (n d : Int) (w : World) (n0 : -9223372036854775808 ≤ n) (n1 : n ≤ 9223372036854775807) (d0 : -9223372036854775808 ≤ d) (d1 : d ≤ 9223372036854775807) :
    Calls Tryz.prog 90 #[.int .i64 n, .int .i64 d] w fun e w' =>
      e = .returned (.tuple #[.agg #[.int .i64 (mk n d).1, .int .i64 (mk n d).2.1], .int .i64 (mk n d).2.2]) ∧ Below w.heap.size w w' := by
  by_cases h : d = 0
  · subst h
    exact rmake_zero n w
  · obtain ⟨g, x, y, hg, eg, _, _, _, _, ex, ey⟩ := Q.parts n d h
    have hz : (d == 0) = false := by simp; exact h
    have hh : Halved n d x y := ⟨n0, n1, d0, d1, by rw [eg] at hg; exact hg, ex, ey⟩
    unfold mk
    rw [if_neg h]
    unfold Q.red
    rw [ex, ey]
    by_cases hx : x > 1000000000 ∨ y > 1000000000
    · rw [if_pos hx]
      exact rmake_no n d x y w hz hh hx
    · rw [if_neg hx]
      by_cases hs : n < 0 ↔ d < 0
      · rw [if_pos hs]
        exact rmake_pos n d x y w hz hh (by omega) (by omega) hs
      · rw [if_neg hs]
        exact rmake_neg n d x y w hz hh (by omega) (by omega) hs
theorem mk_val {n d p q : Int} (hd : d ≠ 0) (h : mk n d = (p, q, 0)) : Q.Val p q := by
  unfold mk at h
  rw [if_neg hd] at h
  cases e : Q.red n d with
  | none => rw [e] at h; cases h
  | some r =>
    obtain ⟨p', q'⟩ := r
    rw [e] at h
    simp only [Prod.mk.injEq] at h
    obtain ⟨rfl, rfl, _⟩ := h
    exact (Q.red_val hd e).1
theorem mk_err {n d p q e : Int} (hd : d ≠ 0) (h : mk n d = (p, q, e)) (he : e ≠ 0) : p = 0 ∧ q = 0 ∧ e = 3 := by
  unfold mk at h
  rw [if_neg hd] at h
  cases e' : Q.red n d with
  | none => rw [e'] at h; simp only [Prod.mk.injEq] at h; exact ⟨h.1.symm, h.2.1.symm, h.2.2.symm⟩
  | some r => rw [e'] at h; simp only [Prod.mk.injEq] at h; exact absurd h.2.2.symm he
theorem mk_self {n d : Int} (h : Q.Val n d) : mk n d = (n, d, 0) := by
  unfold mk
  rw [if_neg (by have := h.2.2.1; omega), Q.red_of (by have := h.2.2.1; omega) h rfl]
end Go.Proofs.YtedbpjcglnkjmaaGreatDoor
