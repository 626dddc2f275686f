/-
  Contracts of Make at all integers, the program's and the reference's.
-/
import Derived.Test.YtoaeceeookknnaaDoorLRatB
namespace Go.Proofs.YtoaeceeookknnaaDoor
open Go.RowKit

theorem make_any (n d : Int) (w : World) (n0 : -9223372036854775808 ≤ n) (n1 : n ≤ 9223372036854775807) (d0 : -9223372036854775808 ≤ d) (d1 : d ≤ 9223372036854775807) :
    Calls Tryd.prog 50 #[.int .i64 n, .int .i64 d] w fun e w' =>
      e = .returned (.tuple #[.agg #[.int .i64 (mk n d).1, .int .i64 (mk n d).2.1], .int .i64 (mk n d).2.2]) ∧ Below w.heap.size w w' := by
  by_cases h : d = 0
  · subst h
    exact make_zero n w
  · obtain ⟨g, x, y, hg, eg, _, _, _, _, ex, ey⟩ := Q.parts n d h
    have hz : (d == 0) = false := by simp; exact h
    have hh : Halved n d x y := ⟨n0, n1, d0, d1, by rw [eg] at hg; exact hg, ex, ey⟩
    unfold mk
    rw [if_neg h]
    unfold Q.red
    rw [ex, ey]
    by_cases hx : x > 1000000000 ∨ y > 1000000000
    · rw [if_pos hx]
      exact make_no n d x y w hz hh hx
    · rw [if_neg hx]
      by_cases hs : n < 0 ↔ d < 0
      · rw [if_pos hs]
        exact make_pos n d x y w hz hh (by omega) (by omega) hs
      · rw [if_neg hs]
        exact make_neg n d x y w hz hh (by omega) (by omega) hs

set_option maxHeartbeats 400000 in
theorem rsize_any (n : Int) (w : World) (h0 : -9223372036854775808 ≤ n) (h1 : n ≤ 9223372036854775807) :
    Calls Tryd.prog 25 #[.int .i64 n] w fun e w' => e = .returned (.int .u64 (mag n)) ∧ w' = w := by
  by_cases h : n < 0
  · go_enter Tryd.func25, Tryd.ntmps25
    go_wp2
    go_ret
    exact ⟨ret_u64 (by unfold mag; omega), rfl⟩
  · go_enter Tryd.func25, Tryd.ntmps25
    go_wp2
    go_ret
    exact ⟨ret_u64 (by unfold mag; omega), rfl⟩

set_option maxHeartbeats 400000 in
theorem common_any (a b : Nat) (w : World) (ha : a < 18446744073709551616) (hb : b < 18446744073709551616) :
    Calls Tryd.prog 24 #[.int .u64 a, .int .u64 b] w fun e w' => e = .returned (.int .u64 (gd a b)) ∧ w' = w := by
  go_enter Tryd.func24, Tryd.ntmps24
  go_wp2
  go_loopg [0, 1] b (fun k x y wr => ∃ a' b' : Nat, a' < 18446744073709551616 ∧ b' ≤ k ∧ b' < 18446744073709551616 ∧ x = .int .u64 a' ∧ y = .int .u64 b' ∧ Nat.gcd a' b' = Nat.gcd a b ∧ wr = w)
  case atStart => exact ⟨a, b, ha, Nat.le_refl _, hb, rfl, rfl, rfl, rfl⟩
  case round =>
    obtain ⟨a', b', ha', hk, hb', rfl, rfl, hg, rfl⟩ := hrel
    have HG := Lib.hid hg
    clear hg
    by_cases h : b' = 0
    · subst h
      go_wp2
      go_ret
      exact ⟨ret_u64 (by unfold gd; rw [← HG.out, Nat.gcd_zero_right]), rfl⟩
    · have hz : ((b' : Int) == 0) = false := by simp; omega
      have hz' : ((b' : Int) != 0) = true := by simp; omega
      go_wp2
      go_roundg (b' - 1)
      case measure => omega
      case rel =>
        have hm := Nat.mod_lt a' (show 0 < b' by omega)
        refine ⟨b', a' % b', hb', by omega, by omega, rfl, ?_, ?_, rfl⟩
        · rw [Int.natCast_emod]
        · rw [← HG.out, Nat.gcd_comm b', ← Nat.gcd_rec, Nat.gcd_comm]

set_option maxRecDepth 100000 in
set_option maxHeartbeats 400000 in
theorem rmake_zero (n : Int) (w : World) : Calls Tryd.prog 19 #[.int .i64 n, .int .i64 0] w fun e w' =>
    e = .returned (.tuple #[.agg #[.int .i64 0, .int .i64 0], .int .i64 7]) ∧ Below w.heap.size w w' := by
  go_enter Tryd.func19, Tryd.ntmps19
  go_wp2
  exact bodyPost_ret (v := .tuple #[.agg #[.int .i64 0, .int .i64 0], .int .i64 7]) (by simp [results, Tryd.results19, go_sem]) rfl ⟨rfl, (by repeat' (first | exact Below.refl _ _ | refine Below.setCell ?_ (by first | omega | (simp; done) | (simp; omega)) _ | refine below_drewN ?_ _ | refine Below.alloc ?_ (by first | omega | (simp; done) | (simp; omega)) _))⟩

set_option maxRecDepth 100000 in
set_option maxHeartbeats 400000 in
theorem rmake_pos (n d : Int) (x y : Nat) (w : World) (hd0 : (d == 0) = false) (h : Halved n d x y) (hx : x ≤ 1000000000) (hy : y ≤ 1000000000) (hs : n < 0 ↔ d < 0) :
    Calls Tryd.prog 19 #[.int .i64 n, .int .i64 d] w fun e w' => e = .returned (.tuple #[.agg #[.int .i64 x, .int .i64 y], .int .i64 0]) ∧ Below w.heap.size w w' := by
  obtain ⟨n0, n1, d0, d1, g0, ex, ey⟩ := h
  have hX := mag_lt n0 n1
  have hY := mag_lt d0 d1
  have hz : ((gd (mag n) (mag d) : Int) == 0) = false := by simp; omega
  have ex' : (mag n : Int) / (gd (mag n) (mag d) : Int) = (x : Int) := by rw [← ex]; exact (Int.natCast_ediv _ _).symm
  have ey' : (mag d : Int) / (gd (mag n) (mag d) : Int) = (y : Int) := by rw [← ey]; exact (Int.natCast_ediv _ _).symm
  have hxl : x < 18446744073709551616 := by rw [← ex]; exact Nat.lt_of_le_of_lt (Nat.div_le_self _ _) hX
  have hyl : y < 18446744073709551616 := by rw [← ey]; exact Nat.lt_of_le_of_lt (Nat.div_le_self _ _) hY
  clear ex ey
  by_cases hn : n < 0
  · have hd : d < 0 := hs.1 hn
    clear hs
    have hnb : decide (n < 0) = true := by simp; omega
    have hdb : decide (d < 0) = true := by simp; omega
    go_enter Tryd.func19, Tryd.ntmps19
    go_wp2_with (first | (go_at_call 25; refine (rsize_any _ _ (by omega) (by omega)).mono ?_; rintro e w' ⟨rfl, rfl⟩) | (go_at_call 24; refine (common_any _ _ _ (by omega) (by omega)).mono ?_; rintro e w' ⟨rfl, rfl⟩))
    exact bodyPost_ret (v := .tuple #[.agg #[.int .i64 x, .int .i64 y], .int .i64 0]) (by simp [results, Tryd.results19, go_sem]) rfl ⟨rfl, (by repeat' (first | exact Below.refl _ _ | refine Below.setCell ?_ (by first | omega | (simp; done) | (simp; omega)) _ | refine below_drewN ?_ _ | refine Below.alloc ?_ (by first | omega | (simp; done) | (simp; omega)) _))⟩
  · have hd : ¬ d < 0 := fun c => hn (hs.2 c)
    clear hs
    have hnb : decide (n < 0) = false := by simp; omega
    have hdb : decide (d < 0) = false := by simp; omega
    go_enter Tryd.func19, Tryd.ntmps19
    go_wp2_with (first | (go_at_call 25; refine (rsize_any _ _ (by omega) (by omega)).mono ?_; rintro e w' ⟨rfl, rfl⟩) | (go_at_call 24; refine (common_any _ _ _ (by omega) (by omega)).mono ?_; rintro e w' ⟨rfl, rfl⟩))
    exact bodyPost_ret (v := .tuple #[.agg #[.int .i64 x, .int .i64 y], .int .i64 0]) (by simp [results, Tryd.results19, go_sem]) rfl ⟨rfl, (by repeat' (first | exact Below.refl _ _ | refine Below.setCell ?_ (by first | omega | (simp; done) | (simp; omega)) _ | refine below_drewN ?_ _ | refine Below.alloc ?_ (by first | omega | (simp; done) | (simp; omega)) _))⟩

set_option maxRecDepth 100000 in
set_option maxHeartbeats 400000 in
theorem rmake_neg (n d : Int) (x y : Nat) (w : World) (hd0 : (d == 0) = false) (h : Halved n d x y) (hx : x ≤ 1000000000) (hy : y ≤ 1000000000) (hs : ¬ (n < 0 ↔ d < 0)) :
    Calls Tryd.prog 19 #[.int .i64 n, .int .i64 d] w fun e w' => e = .returned (.tuple #[.agg #[.int .i64 (-(x : Int)), .int .i64 y], .int .i64 0]) ∧ Below w.heap.size w w' := by
  obtain ⟨n0, n1, d0, d1, g0, ex, ey⟩ := h
  have hX := mag_lt n0 n1
  have hY := mag_lt d0 d1
  have hz : ((gd (mag n) (mag d) : Int) == 0) = false := by simp; omega
  have ex' : (mag n : Int) / (gd (mag n) (mag d) : Int) = (x : Int) := by rw [← ex]; exact (Int.natCast_ediv _ _).symm
  have ey' : (mag d : Int) / (gd (mag n) (mag d) : Int) = (y : Int) := by rw [← ey]; exact (Int.natCast_ediv _ _).symm
  have hxl : x < 18446744073709551616 := by rw [← ex]; exact Nat.lt_of_le_of_lt (Nat.div_le_self _ _) hX
  have hyl : y < 18446744073709551616 := by rw [← ey]; exact Nat.lt_of_le_of_lt (Nat.div_le_self _ _) hY
  clear ex ey
  by_cases hn : n < 0
  · have hd : ¬ d < 0 := fun c => hs ⟨fun _ => c, fun _ => hn⟩
    clear hs
    have hnb : decide (n < 0) = true := by simp; omega
    have hdb : decide (d < 0) = false := by simp; omega
    go_enter Tryd.func19, Tryd.ntmps19
    go_wp2_with (first | (go_at_call 25; refine (rsize_any _ _ (by omega) (by omega)).mono ?_; rintro e w' ⟨rfl, rfl⟩) | (go_at_call 24; refine (common_any _ _ _ (by omega) (by omega)).mono ?_; rintro e w' ⟨rfl, rfl⟩))
    exact bodyPost_ret (v := .tuple #[.agg #[.int .i64 (-(x : Int)), .int .i64 y], .int .i64 0]) (by simp [results, Tryd.results19, go_sem]) rfl ⟨rfl, (by repeat' (first | exact Below.refl _ _ | refine Below.setCell ?_ (by first | omega | (simp; done) | (simp; omega)) _ | refine below_drewN ?_ _ | refine Below.alloc ?_ (by first | omega | (simp; done) | (simp; omega)) _))⟩
  · have hd : d < 0 := by omega
    clear hs
    have hnb : decide (n < 0) = false := by simp; omega
    have hdb : decide (d < 0) = true := by simp; omega
    go_enter Tryd.func19, Tryd.ntmps19
    go_wp2_with (first | (go_at_call 25; refine (rsize_any _ _ (by omega) (by omega)).mono ?_; rintro e w' ⟨rfl, rfl⟩) | (go_at_call 24; refine (common_any _ _ _ (by omega) (by omega)).mono ?_; rintro e w' ⟨rfl, rfl⟩))
    exact bodyPost_ret (v := .tuple #[.agg #[.int .i64 (-(x : Int)), .int .i64 y], .int .i64 0]) (by simp [results, Tryd.results19, go_sem]) rfl ⟨rfl, (by repeat' (first | exact Below.refl _ _ | refine Below.setCell ?_ (by first | omega | (simp; done) | (simp; omega)) _ | refine below_drewN ?_ _ | refine Below.alloc ?_ (by first | omega | (simp; done) | (simp; omega)) _))⟩

set_option maxRecDepth 100000 in
set_option maxHeartbeats 400000 in
theorem rmake_no (n d : Int) (x y : Nat) (w : World) (hd0 : (d == 0) = false) (h : Halved n d x y) (hx : 1000000000 < x ∨ 1000000000 < y) :
    Calls Tryd.prog 19 #[.int .i64 n, .int .i64 d] w fun e w' => e = .returned (.tuple #[.agg #[.int .i64 0, .int .i64 0], .int .i64 3]) ∧ Below w.heap.size w w' := by
  obtain ⟨n0, n1, d0, d1, g0, ex, ey⟩ := h
  have hX := mag_lt n0 n1
  have hY := mag_lt d0 d1
  have hz : ((gd (mag n) (mag d) : Int) == 0) = false := by simp; omega
  have ex' : (mag n : Int) / (gd (mag n) (mag d) : Int) = (x : Int) := by rw [← ex]; exact (Int.natCast_ediv _ _).symm
  have ey' : (mag d : Int) / (gd (mag n) (mag d) : Int) = (y : Int) := by rw [← ey]; exact (Int.natCast_ediv _ _).symm
  have hxl : x < 18446744073709551616 := by rw [← ex]; exact Nat.lt_of_le_of_lt (Nat.div_le_self _ _) hX
  have hyl : y < 18446744073709551616 := by rw [← ey]; exact Nat.lt_of_le_of_lt (Nat.div_le_self _ _) hY
  clear ex ey
  by_cases hx1 : 1000000000 < x
  · clear hx
    have hxb : decide (1000000000 < (x : Int)) = true := by simp; omega
    go_enter Tryd.func19, Tryd.ntmps19
    go_wp2_with (first | (go_at_call 25; refine (rsize_any _ _ (by omega) (by omega)).mono ?_; rintro e w' ⟨rfl, rfl⟩) | (go_at_call 24; refine (common_any _ _ _ (by omega) (by omega)).mono ?_; rintro e w' ⟨rfl, rfl⟩))
    exact bodyPost_ret (v := .tuple #[.agg #[.int .i64 0, .int .i64 0], .int .i64 3]) (by simp [results, Tryd.results19, go_sem]) rfl ⟨rfl, (by repeat' (first | exact Below.refl _ _ | refine Below.setCell ?_ (by first | omega | (simp; done) | (simp; omega)) _ | refine below_drewN ?_ _ | refine Below.alloc ?_ (by first | omega | (simp; done) | (simp; omega)) _))⟩
  · have hy1 : 1000000000 < y := by omega
    clear hx
    have hxb : decide (1000000000 < (x : Int)) = false := by simp; omega
    have hyb : decide (1000000000 < (y : Int)) = true := by simp; omega
    go_enter Tryd.func19, Tryd.ntmps19
    go_wp2_with (first | (go_at_call 25; refine (rsize_any _ _ (by omega) (by omega)).mono ?_; rintro e w' ⟨rfl, rfl⟩) | (go_at_call 24; refine (common_any _ _ _ (by omega) (by omega)).mono ?_; rintro e w' ⟨rfl, rfl⟩))
    exact bodyPost_ret (v := .tuple #[.agg #[.int .i64 0, .int .i64 0], .int .i64 3]) (by simp [results, Tryd.results19, go_sem]) rfl ⟨rfl, (by repeat' (first | exact Below.refl _ _ | refine Below.setCell ?_ (by first | omega | (simp; done) | (simp; omega)) _ | refine below_drewN ?_ _ | refine Below.alloc ?_ (by first | omega | (simp; done) | (simp; omega)) _))⟩

theorem rmake_any (n d : Int) (w : World) (n0 : -9223372036854775808 ≤ n) (n1 : n ≤ 9223372036854775807) (d0 : -9223372036854775808 ≤ d) (d1 : d ≤ 9223372036854775807) :
    Calls Tryd.prog 19 #[.int .i64 n, .int .i64 d] w fun e w' =>
      e = .returned (.tuple #[.agg #[.int .i64 (mk n d).1, .int .i64 (mk n d).2.1], .int .i64 (mk n d).2.2]) ∧ Below w.heap.size w w' := by
  by_cases h : d = 0
  · subst h
    exact rmake_zero n w
  · obtain ⟨g, x, y, hg, eg, _, _, _, _, ex, ey⟩ := Q.parts n d h
    have hz : (d == 0) = false := by simp; exact h
    have hh : Halved n d x y := ⟨n0, n1, d0, d1, by rw [eg] at hg; exact hg, ex, ey⟩
    unfold mk
    rw [if_neg h]
    unfold Q.red
    rw [ex, ey]
    by_cases hx : x > 1000000000 ∨ y > 1000000000
    · rw [if_pos hx]
      exact rmake_no n d x y w hz hh hx
    · rw [if_neg hx]
      by_cases hs : n < 0 ↔ d < 0
      · rw [if_pos hs]
        exact rmake_pos n d x y w hz hh (by omega) (by omega) hs
      · rw [if_neg hs]
        exact rmake_neg n d x y w hz hh (by omega) (by omega) hs
theorem mk_val {n d p q : Int} (hd : d ≠ 0) (h : mk n d = (p, q, 0)) : Q.Val p q := by
  unfold mk at h
  rw [if_neg hd] at h
  cases e : Q.red n d with
  | none => rw [e] at h; cases h
  | some r =>
    obtain ⟨p', q'⟩ := r
    rw [e] at h
    simp only [Prod.mk.injEq] at h
    obtain ⟨rfl, rfl, _⟩ := h
    exact (Q.red_val hd e).1
theorem mk_err {n d p q e : Int} (hd : d ≠ 0) (h : mk n d = (p, q, e)) (he : e ≠ 0) : p = 0 ∧ q = 0 ∧ e = 3 := by
  unfold mk at h
  rw [if_neg hd] at h
  cases e' : Q.red n d with
  | none => rw [e'] at h; simp only [Prod.mk.injEq] at h; exact ⟨h.1.symm, h.2.1.symm, h.2.2.symm⟩
  | some r => rw [e'] at h; simp only [Prod.mk.injEq] at h; exact absurd h.2.2.symm he
theorem mk_self {n d : Int} (h : Q.Val n d) : mk n d = (n, d, 0) := by
  unfold mk
  rw [if_neg (by have := h.2.2.1; omega), Q.red_of (by have := h.2.2.1; omega) h rfl]
end Go.Proofs.YtoaeceeookknnaaDoor
