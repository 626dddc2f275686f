/-
  Contracts of the reference implementation of layer 5: gcd, Reduce.
-/
import Derived.Test.YtmjdolgcgbiajaaPRefA
import Derived.Test.YtmjdolgcgbiajaaPKit
namespace Go.Proofs.Ytmjdolgcgbiajaa
open Go.RowKit Pw

set_option maxRecDepth 100000 in
set_option maxHeartbeats 400000 in
theorem rgcd_any (a b : Nat) (w : World) (ha : a < 9223372036854775808) (hb : b < 9223372036854775808) : Calls Try.prog 57 #[.int .i64 a, .int .i64 b] w fun e w' => e = .returned (.int .i64 (Nat.gcd a b : Nat)) ∧ w' = w := by
  go_enter Try.func57, Try.ntmps57
  go_wp2
  go_loopg [0, 1, 5] b (fun k x y _ wr => ∃ a' b' : Nat, a' < 9223372036854775808 ∧ b' ≤ k ∧ b' < 9223372036854775808 ∧ x = .int .i64 a' ∧ y = .int .i64 b' ∧ Nat.gcd a' b' = Nat.gcd a b ∧ wr = w)
  case atStart => exact ⟨a, b, ha, Nat.le_refl _, hb, rfl, rfl, rfl, rfl⟩
  case round =>
    obtain ⟨a', b', ha', hk, hb', rfl, rfl, hg, rfl⟩ := hrel
    have HG := Lib.hid hg
    clear hg
    by_cases h : b' = 0
    · subst h
      go_wp2
      go_ret
      exact ⟨by rw [← HG.out, Nat.gcd_zero_right]; rfl, rfl⟩
    · have hz : ((b' : Int) == 0) = false := by simp; omega
      have hz' : ((b' : Int) > 0) := by omega
      go_wp2
      go_roundg (b' - 1)
      case measure => omega
      case rel =>
        have hm := Nat.mod_lt a' (show 0 < b' by omega)
        refine ⟨b', a' % b', hb', by omega, by omega, rfl, ?_, ?_, rfl⟩
        · simp [Int.natCast_emod]
        · rw [← HG.out, Nat.gcd_comm b', ← Nat.gcd_rec, Nat.gcd_comm]
set_option maxRecDepth 100000 in
set_option maxHeartbeats 400000 in
theorem rgcd_neg (a b : Int) (w : World) (ha : a < 0) (ha' : -9223372036854775808 ≤ a) (hb : 0 < b) (hb' : b ≤ 9223372036854775807) : Calls Try.prog 57 #[.int .i64 a, .int .i64 b] w fun e w' => e = .returned (.int .i64 b) ∧ w' = w := by
  go_enter Try.func57, Try.ntmps57
  go_wp2
  go_loopg [0, 1, 5] 1 (fun k x y _ wr => ∃ a' b' : Int, x = .int .i64 a' ∧ y = .int .i64 b' ∧ ((k = 1 ∧ a' = a ∧ b' = b) ∨ (a' = b ∧ b' ≤ 0)) ∧ wr = w)
  case atStart => exact ⟨a, b, rfl, rfl, .inl ⟨rfl, rfl, rfl⟩, rfl⟩
  case round =>
    obtain ⟨a', b', rfl, rfl, hc, rfl⟩ := hrel
    rcases hc with ⟨hk, h1, h2⟩ | ⟨h1, h2⟩
    · subst h1 h2
      have hz : (b' == 0) = false := by simp; omega
      have hz' : b' > 0 := hb
      have ht : a'.tmod b' ≤ 0 := by
        have := Int.neg_tmod (a := -a') (b := b')
        have h3 := Int.tmod_nonneg (a := -a') b' (by omega)
        rw [Int.neg_neg] at this
        omega
      go_wp2
      go_roundg 0
      case measure => omega
      case rel => exact ⟨b', a'.tmod b', rfl, by go_num, .inr ⟨rfl, ht⟩, rfl⟩
    · subst h1
      have hz' : ¬ b' > 0 := by omega
      go_wp2
      go_ret
      exact ⟨rfl, rfl⟩

/-- What Reduce divides by. -/
def rG (n d : Int) : Int := if n = -9223372036854775808 then d else (Nat.gcd n.natAbs d.natAbs : Nat)
def rN (n d : Int) : Int := n.tdiv (rG n d)
def rD (n d : Int) : Int := d.tdiv (rG n d)
theorem rG_pos {n d : Int} (hd : 1 ≤ d) : 1 ≤ rG n d := by
  unfold rG
  split
  · exact hd
  · have := Nat.gcd_pos_of_pos_right n.natAbs (show 0 < d.natAbs by omega)
    omega
theorem rG_le {n d : Int} (hd : 1 ≤ d) : rG n d ≤ d := by
  unfold rG
  split
  · omega
  · have := Nat.gcd_le_right n.natAbs (show 0 < d.natAbs by omega)
    omega
theorem rND {n d : Int} (hd : 1 ≤ d) (hn : n ≠ -9223372036854775808) : rN n d = (fr n d).num ∧ rD n d = (fr n d).den := by
  obtain ⟨g, hg, h1, h2⟩ := fr_parts (n := n) (d := d) (by omega)
  have hc : Nat.gcd (fr n d).num.natAbs (fr n d).den = 1 := (fr n d).reduced
  have e : rG n d = g := by
    unfold rG
    rw [if_neg hn, h1, h2, Int.natAbs_mul, Int.natAbs_mul, Nat.gcd_mul_right]
    simp only [← h1, ← h2] at *
    rw [Int.natAbs_natCast, hc]
    omega
  unfold rN rD
  rw [e]
  generalize (fr n d).num = p at *
  generalize (((fr n d).den : Nat) : Int) = q at *
  subst h1 h2
  exact ⟨Int.mul_tdiv_cancel _ (by omega), Int.mul_tdiv_cancel _ (by omega)⟩

set_option maxRecDepth 100000 in
set_option maxHeartbeats 400000 in
theorem rreduce_raw (n d m g : Int) (w : World) (hm : m = if n < 0 then IntKind.i64.wrap (-n) else n) (hg1 : 1 ≤ g) (n0 : -9223372036854775808 ≤ n) (n1 : n ≤ 9223372036854775807) (d0 : 1 ≤ d) (d1 : d ≤ 9223372036854775807)
    (K : Hid (∀ w, Calls Try.prog 57 #[.int .i64 m, .int .i64 d] w fun e w' => e = .returned (.int .i64 g) ∧ w' = w)) :
    Calls Try.prog 32 #[.int .i64 n, .int .i64 d] w fun e w' => e = .returned (.agg #[.int .i64 (n.tdiv g), .int .i64 (d.tdiv g)]) ∧ RowKit.Below w.heap.size w w' := by
  have b1 : (n.tdiv g).natAbs ≤ n.natAbs := by rw [Int.natAbs_tdiv]; exact Nat.div_le_self _ _
  have b2 : (d.tdiv g).natAbs ≤ d.natAbs := by rw [Int.natAbs_tdiv]; exact Nat.div_le_self _ _
  have b3 : n = -9223372036854775808 ∨ -9223372036854775808 < n := by omega
  have w1 : IntKind.i64.wrap (n.tdiv g) = n.tdiv g := IntWalk.i64_in _ (by
    have : n.tdiv g ≤ 9223372036854775807 := by
      rcases b3 with h | h
      · have e1 := Int.neg_tdiv (a := 9223372036854775808) (b := g)
        have e2 := Int.tdiv_nonneg (a := 9223372036854775808) (b := g) (by omega) (by omega)
        rw [h]
        omega
      · omega
    omega)
  have w2 : IntKind.i64.wrap (d.tdiv g) = d.tdiv g := IntWalk.i64_in _ (by omega)
  by_cases hn : n < 0
  · rw [if_pos hn] at hm
    replace hm := hm.symm
    clear b1 b2 b3
    go_enter Try.func32, Try.ntmps32
    go_wp2_with fail
    refine (K.out _).mono ?_
    rintro _ w' ⟨rfl, rfl⟩
    go_wp2_with fail
    go_region
    go_wp2
    exact bodyPost_ret (v := .agg #[.int .i64 (n.tdiv g), .int .i64 (d.tdiv g)]) (by simp [results, Try.results32, go_sem]) rfl ⟨rfl, (by repeat' (first | (with_reducible refine Below.setCell ?_ ?_ _) | (with_reducible refine Below.alloc ?_ ?_ _) | (with_reducible refine Below.drew ?_) | (with_reducible refine below_drewN ?_ _) | (with_reducible exact Below.refl _ _) | omega | (simp; done) | (simp; omega)))⟩
  · rw [if_neg hn] at hm
    replace hm := hm.symm
    subst hm
    clear b1 b2 b3
    go_enter Try.func32, Try.ntmps32
    go_wp2_with fail
    refine (K.out _).mono ?_
    rintro _ w' ⟨rfl, rfl⟩
    go_wp2_with fail
    go_region
    go_wp2
    exact bodyPost_ret (v := .agg #[.int .i64 (n.tdiv g), .int .i64 (d.tdiv g)]) (by simp [results, Try.results32, go_sem]) rfl ⟨rfl, (by repeat' (first | (with_reducible refine Below.setCell ?_ ?_ _) | (with_reducible refine Below.alloc ?_ ?_ _) | (with_reducible refine Below.drew ?_) | (with_reducible refine below_drewN ?_ _) | (with_reducible exact Below.refl _ _) | omega | (simp; done) | (simp; omega)))⟩
theorem rreduce_any (n d : Int) (w : World) (n0 : -9223372036854775808 ≤ n) (n1 : n ≤ 9223372036854775807) (d0 : 1 ≤ d) (d1 : d ≤ 9223372036854775807) :
    Calls Try.prog 32 #[.int .i64 n, .int .i64 d] w fun e w' => e = .returned (.agg #[.int .i64 (rN n d), .int .i64 (rD n d)]) ∧ RowKit.Below w.heap.size w w' := by
  have hp := rG_pos (n := n) d0
  refine rreduce_raw n d _ (rG n d) w rfl hp n0 n1 d0 d1 (fun w => ?_)
  by_cases hn : n < 0
  · rw [if_pos hn]
    by_cases h : n = -9223372036854775808
    · subst h
      show Calls _ _ _ _ _
      have e : IntKind.i64.wrap (- -9223372036854775808) = -9223372036854775808 := by decide
      have e2 : rG (-9223372036854775808) d = d := if_pos rfl
      rw [e, e2]
      exact rgcd_neg _ d w (by omega) (by omega) (by omega) d1
    · have e : IntKind.i64.wrap (-n) = (n.natAbs : Int) := by rw [IntWalk.i64_in _ (by omega)]; omega
      have e2 : rG n d = (Nat.gcd n.natAbs d.natAbs : Nat) := if_neg h
      show Calls _ _ _ _ _
      rw [e, e2]
      have := rgcd_any n.natAbs d.natAbs w (by omega) (by omega)
      rwa [show ((d.natAbs : Nat) : Int) = d by omega] at this
  · rw [if_neg hn]
    have e2 : rG n d = (Nat.gcd n.natAbs d.natAbs : Nat) := if_neg (by omega)
    show Calls _ _ _ _ _
    rw [e2]
    have := rgcd_any n.natAbs d.natAbs w (by omega) (by omega)
    rwa [show ((d.natAbs : Nat) : Int) = d by omega, show ((n.natAbs : Nat) : Int) = n by omega] at this
end Go.Proofs.Ytmjdolgcgbiajaa
