/-
  The law on the order, out of its walks.
-/
import Derived.Test.YtohnmffokichkaaDoorOrderP
import Derived.Test.YtohnmffokichkaaDoorOrderZ
import Derived.Test.YtohnmffokichkaaDoorOrderN
namespace Go.Proofs.YtohnmffokichkaaDoor
open Go.RowKit

theorem cmp3_swap (p q : Int) : cmp3 q p = -cmp3 p q := by
  unfold cmp3
  rcases Int.lt_trichotomy p q with h | h | h
  · rw [if_neg (by omega), if_neg (by omega), if_pos h]; rfl
  · rw [if_neg (by omega), if_pos h.symm, if_neg (by omega), if_pos h]; rfl
  · rw [if_pos h, if_neg (by omega), if_neg (by omega)]
theorem cmp3_same {K L p q r s : Int} (hK : 0 < K) (hL : 0 < L) (h : K * (p - q) = L * (r - s)) : cmp3 p q = cmp3 r s := by
  unfold cmp3
  rcases Int.lt_trichotomy r s with h1 | h1 | h1
  · have a := Int.mul_neg_of_pos_of_neg hL (show r - s < 0 by omega)
    have b : p < q := by
      rcases Int.lt_or_le p q with h2 | h2
      · exact h2
      · have := Int.mul_nonneg (show 0 ≤ K by omega) (show 0 ≤ p - q by omega); omega
    rw [if_pos h1, if_pos b]
  · have b : p = q := by
      have e : K * (p - q) = 0 := by rw [h, h1, Int.sub_self, Int.mul_zero]
      rcases Int.mul_eq_zero.1 e with h2 | h2 <;> omega
    rw [if_neg (by omega), if_pos b, if_neg (by omega), if_pos h1]
  · have a := Int.mul_pos hL (show 0 < r - s by omega)
    have b : q < p := by
      rcases Int.lt_or_le q p with h2 | h2
      · exact h2
      · have := Int.mul_nonneg (show 0 ≤ K by omega) (show 0 ≤ q - p by omega)
        have e : K * (q - p) = -(K * (p - q)) := by rw [← Int.mul_neg]; congr 1; omega
        omega
    rw [if_neg (by omega), if_neg (by omega), if_neg (by omega), if_neg (by omega)]
theorem cmp_trans {a b c d g h : Int} (hb : 0 < b) (hd : 0 < d) (hh : 0 < h) (h1 : a * d < c * b) (h2 : c * h ≤ g * d) : a * h < g * b := by
  have e1 : a * d * h < c * b * h := Int.mul_lt_mul_of_pos_right h1 hh
  have e2 : c * h * b ≤ g * d * b := Int.mul_le_mul_of_nonneg_right h2 (by omega)
  have e3 : a * h * d < g * b * d := by grind
  exact Int.lt_of_mul_lt_mul_right e3 (by omega)
theorem sign_sub {a b c d p q : Int} (ha : Q.Val a b) (hc : Q.Val c d) (h : Q.red (a * d - c * b) (b * d) = some (p, q)) : (0 < p ↔ c * b < a * d) ∧ (p < 0 ↔ a * d < c * b) ∧ (p = 0 ↔ a * d = c * b) := by
  obtain ⟨hv, e⟩ := Q.red_val (den_ne ha hc) h
  have hq := hv.2.2.1
  have hD : 0 < b * d := Int.mul_pos (by have := ha.2.2.1; omega) (by have := hc.2.2.1; omega)
  rcases Int.lt_trichotomy (a * d) (c * b) with h1 | h1 | h1
  · have x := Int.mul_neg_of_neg_of_pos (show a * d - c * b < 0 by omega) (show 0 < q by omega)
    have y : p < 0 := by
      rcases Int.lt_or_le p 0 with h2 | h2
      · exact h2
      · have := Int.mul_nonneg h2 (show 0 ≤ b * d by omega); omega
    omega
  · have y : p = 0 := by
      have z : p * (b * d) = 0 := by rw [← e, h1, Int.sub_self, Int.zero_mul]
      rcases Int.mul_eq_zero.1 z with h2 | h2 <;> omega
    omega
  · have x := Int.mul_pos (show 0 < a * d - c * b by omega) (show 0 < q by omega)
    have y : 0 < p := by
      rcases Int.lt_or_le 0 p with h2 | h2
      · exact h2
      · have := Int.mul_nonneg (show 0 ≤ -p by omega) (show 0 ≤ b * d by omega)
        rw [Int.neg_mul] at this; omega
    omega
theorem cmp_sums {a b c d g h p q r s : Int} (ha : Q.Val a b) (hc : Q.Val c d) (hg : Q.Val g h) (h1 : Q.red (a * h + g * b) (b * h) = some (p, q)) (h2 : Q.red (c * h + g * d) (d * h) = some (r, s)) :
    cmp3 (p * s) (r * q) = cmp3 (a * d) (c * b) := by
  obtain ⟨v1, e1⟩ := Q.red_val (den_ne ha hg) h1
  obtain ⟨v2, e2⟩ := Q.red_val (den_ne hc hg) h2
  have b0 := ha.2.2.1
  have d0 := hc.2.2.1
  have h0 := hg.2.2.1
  have q0 := v1.2.2.1
  have s0 := v2.2.2.1
  refine cmp3_same (K := b * h * (d * h)) (L := q * s * (h * h)) (Int.mul_pos (Int.mul_pos (by omega) (by omega)) (Int.mul_pos (by omega) (by omega))) (Int.mul_pos (Int.mul_pos (by omega) (by omega)) (Int.mul_pos (by omega) (by omega))) ?_
  grind
theorem gives_cmp (a b c d x : Int) (ha : Q.Val a b) (hc : Q.Val c d) (h : cmp3 (a * d) (c * b) = x) :
    Gives 22 #[.agg #[.int .i64 a, .int .i64 b], .agg #[.int .i64 c, .int .i64 d]] (.tuple #[.int .i64 x, .int .i64 0]) := by
  obtain ⟨a0, a1, b0, b1⟩ := val_range ha
  obtain ⟨c0, c1, d0, d1⟩ := val_range hc
  exact gives_of (fun w => compare_any a b c d w a0 a1 b0 b1 c0 c1 d0 d1) (by unfold cmpR; rw [if_pos ⟨(vld_iff _ _).2 ha, (vld_iff _ _).2 hc⟩, h])

theorem order_law (a b c d g h : Int) (w : World) (hE : Env w)
    (a0 : -9223372036854775808 ≤ a) (a1 : a ≤ 9223372036854775807) (b0 : -9223372036854775808 ≤ b) (b1 : b ≤ 9223372036854775807)
    (c0 : -9223372036854775808 ≤ c) (c1 : c ≤ 9223372036854775807) (d0 : -9223372036854775808 ≤ d) (d1 : d ≤ 9223372036854775807)
    (g0 : -9223372036854775808 ≤ g) (g1 : g ≤ 9223372036854775807) (h0 : -9223372036854775808 ≤ h) (h1 : h ≤ 9223372036854775807) :
    Calls Tryd.prog 7 #[.agg #[.int .i64 a, .int .i64 b], .agg #[.int .i64 c, .int .i64 d], .agg #[.int .i64 g, .int .i64 h]] w fun e w' =>
      e = .returned (.bool true) ∧ Below w.heap.size w w' := by
  cases hv : (vld a b && vld c d && vld g h)
  · exact order_law_no a b c d g h w hE hv a0 a1 b0 b1 c0 c1 d0 d1 g0 g1 h0 h1
  obtain ⟨hv12, hv3⟩ := Bool.and_eq_true_iff.1 hv
  obtain ⟨hv1, hv2⟩ := Bool.and_eq_true_iff.1 hv12
  have V1 := (vld_iff a b).1 hv1
  have V2 := (vld_iff c d).1 hv2
  have V3 := (vld_iff g h).1 hv3
  have zb := V1.2.2.1
  have zd := V2.2.2.1
  have zh := V3.2.2.1
  obtain ⟨y, hy⟩ : ∃ y, cmp3 (c * h) (g * d) = y := ⟨_, rfl⟩
  obtain ⟨z, hz⟩ : ∃ z, cmp3 (a * h) (g * b) = z := ⟨_, rfl⟩
  have k2 := gives_cmp c d g h y V2 V3 hy
  have k3 := gives_cmp a b g h z V1 V3 hz
  obtain ⟨t1, t2, te, ht⟩ : ∃ t1 t2 te, op2 a b c d (a * d - c * b) (b * d) = (t1, t2, te) := ⟨_, _, _, rfl⟩
  have k5 := gives_sub a b c d t1 t2 te ht a0 a1 b0 b1 c0 c1 d0 d1
  obtain ⟨p1, p2, ke, hp⟩ : ∃ p1 p2 ke, op2 a b g h (a * h + g * b) (b * h) = (p1, p2, ke) := ⟨_, _, _, rfl⟩
  have k6 := gives_add a b g h p1 p2 ke hp a0 a1 b0 b1 g0 g1 h0 h1
  obtain ⟨q1, q2, le, hq⟩ : ∃ q1 q2 le, op2 c d g h (c * h + g * d) (d * h) = (q1, q2, le) := ⟨_, _, _, rfl⟩
  have k7 := gives_add c d g h q1 q2 le hq c0 c1 d0 d1 g0 g1 h0 h1
  have hte : te ≠ 0 → (t1, t2, te) = ((0, 0, 3) : Int × Int × Int) := fun hn => by
    have := op2_err V1 V2 (den_ne V1 V2) (n := a * d - c * b) (by rw [ht]; exact hn)
    rw [ht] at this; exact this
  rcases Int.lt_trichotomy (a * d) (c * b) with hx | hx | hx
  · have hx3 : cmp3 (a * d) (c * b) = -1 := by unfold cmp3; rw [if_pos hx]
    have k1 := gives_cmp a b c d (-1) V1 V2 hx3
    have k4 := gives_cmp c d a b 1 V2 V1 (by rw [cmp3_swap, hx3]; rfl)
    by_cases hy0 : y ≤ 0
    · have hcg : c * h ≤ g * d := by
        rcases Int.lt_or_le (g * d) (c * h) with h2 | h2
        · exfalso; unfold cmp3 at hy; rw [if_neg (by omega), if_neg (by omega)] at hy; omega
        · exact h2
      have hz1 : z = -1 := by
        have := cmp_trans (show 0 < b by omega) (show 0 < d by omega) (show 0 < h by omega) hx hcg
        unfold cmp3 at hz; rw [if_pos this] at hz; omega
      subst hz1
      by_cases hne : a = c
      · subst hne
        have hne : ¬ b = d := fun e => by subst e; omega
        by_cases hte0 : te = 0
        · subst hte0
          have sg := sign_sub V1 V2 (op2_ok ht).2.2.2
          have hsg : t1 < 0 := sg.2.1.2 hx
          by_cases hke : ke = 0
          · subst hke
            by_cases hle : le = 0
            · subst hle
              have vp := (Q.red_val (op2_ok hp).2.2.1 (op2_ok hp).2.2.2).1
              have vq := (Q.red_val (op2_ok hq).2.2.1 (op2_ok hq).2.2.2).1
              have k8 := gives_cmp p1 p2 q1 q2 (-1) vp vq ((cmp_sums V1 V2 V3 (op2_ok hp).2.2.2 (op2_ok hq).2.2.2).trans hx3)
              exact order_Nboos a b d g h y t1 t2 p1 p2 q1 q2 w hE hv a0 a1 b0 b1 d0 d1 g0 g1 h0 h1 k1 k2 k3 k4 k5 k6 k7 k8 hne hy0 hsg
            · exact order_Nbols a b d g h y t1 t2 p1 p2 q1 q2 le w hE hv a0 a1 b0 b1 d0 d1 g0 g1 h0 h1 k1 k2 k3 k4 k5 k6 k7 hne hy0 hsg hle
          · exact order_Nboks a b d g h y t1 t2 p1 p2 ke q1 q2 le w hE hv a0 a1 b0 b1 d0 d1 g0 g1 h0 h1 k1 k2 k3 k4 k5 k6 k7 hne hy0 hsg hke
        · have e3 := hte hte0
          simp only [Prod.mk.injEq] at e3
          obtain ⟨rfl, rfl, rfl⟩ := e3
          by_cases hke : ke = 0
          · subst hke
            by_cases hle : le = 0
            · subst hle
              have vp := (Q.red_val (op2_ok hp).2.2.1 (op2_ok hp).2.2.2).1
              have vq := (Q.red_val (op2_ok hq).2.2.1 (op2_ok hq).2.2.2).1
              have k8 := gives_cmp p1 p2 q1 q2 (-1) vp vq ((cmp_sums V1 V2 V3 (op2_ok hp).2.2.2 (op2_ok hq).2.2.2).trans hx3)
              exact order_Nbeos a b d g h y p1 p2 q1 q2 w hE hv a0 a1 b0 b1 d0 d1 g0 g1 h0 h1 k1 k2 k3 k4 k5 k6 k7 k8 hne hy0
            · exact order_Nbels a b d g h y p1 p2 q1 q2 le w hE hv a0 a1 b0 b1 d0 d1 g0 g1 h0 h1 k1 k2 k3 k4 k5 k6 k7 hne hy0 hle
          · exact order_Nbeks a b d g h y p1 p2 ke q1 q2 le w hE hv a0 a1 b0 b1 d0 d1 g0 g1 h0 h1 k1 k2 k3 k4 k5 k6 k7 hne hy0 hke
      · by_cases hte0 : te = 0
        · subst hte0
          have sg := sign_sub V1 V2 (op2_ok ht).2.2.2
          have hsg : t1 < 0 := sg.2.1.2 hx
          by_cases hke : ke = 0
          · subst hke
            by_cases hle : le = 0
            · subst hle
              have vp := (Q.red_val (op2_ok hp).2.2.1 (op2_ok hp).2.2.2).1
              have vq := (Q.red_val (op2_ok hq).2.2.1 (op2_ok hq).2.2.2).1
              have k8 := gives_cmp p1 p2 q1 q2 (-1) vp vq ((cmp_sums V1 V2 V3 (op2_ok hp).2.2.2 (op2_ok hq).2.2.2).trans hx3)
              exact order_Nboon a b c d g h y t1 t2 p1 p2 q1 q2 w hE hv a0 a1 b0 b1 c0 c1 d0 d1 g0 g1 h0 h1 k1 k2 k3 k4 k5 k6 k7 k8 hne hy0 hsg
            · exact order_Nboln a b c d g h y t1 t2 p1 p2 q1 q2 le w hE hv a0 a1 b0 b1 c0 c1 d0 d1 g0 g1 h0 h1 k1 k2 k3 k4 k5 k6 k7 hne hy0 hsg hle
          · exact order_Nbokn a b c d g h y t1 t2 p1 p2 ke q1 q2 le w hE hv a0 a1 b0 b1 c0 c1 d0 d1 g0 g1 h0 h1 k1 k2 k3 k4 k5 k6 k7 hne hy0 hsg hke
        · have e3 := hte hte0
          simp only [Prod.mk.injEq] at e3
          obtain ⟨rfl, rfl, rfl⟩ := e3
          by_cases hke : ke = 0
          · subst hke
            by_cases hle : le = 0
            · subst hle
              have vp := (Q.red_val (op2_ok hp).2.2.1 (op2_ok hp).2.2.2).1
              have vq := (Q.red_val (op2_ok hq).2.2.1 (op2_ok hq).2.2.2).1
              have k8 := gives_cmp p1 p2 q1 q2 (-1) vp vq ((cmp_sums V1 V2 V3 (op2_ok hp).2.2.2 (op2_ok hq).2.2.2).trans hx3)
              exact order_Nbeon a b c d g h y p1 p2 q1 q2 w hE hv a0 a1 b0 b1 c0 c1 d0 d1 g0 g1 h0 h1 k1 k2 k3 k4 k5 k6 k7 k8 hne hy0
            · exact order_Nbeln a b c d g h y p1 p2 q1 q2 le w hE hv a0 a1 b0 b1 c0 c1 d0 d1 g0 g1 h0 h1 k1 k2 k3 k4 k5 k6 k7 hne hy0 hle
          · exact order_Nbekn a b c d g h y p1 p2 ke q1 q2 le w hE hv a0 a1 b0 b1 c0 c1 d0 d1 g0 g1 h0 h1 k1 k2 k3 k4 k5 k6 k7 hne hy0 hke
    · have hy1 : 0 < y := by omega
      by_cases hne : a = c
      · subst hne
        have hne : ¬ b = d := fun e => by subst e; omega
        by_cases hte0 : te = 0
        · subst hte0
          have sg := sign_sub V1 V2 (op2_ok ht).2.2.2
          have hsg : t1 < 0 := sg.2.1.2 hx
          by_cases hke : ke = 0
          · subst hke
            by_cases hle : le = 0
            · subst hle
              have vp := (Q.red_val (op2_ok hp).2.2.1 (op2_ok hp).2.2.2).1
              have vq := (Q.red_val (op2_ok hq).2.2.1 (op2_ok hq).2.2.2).1
              have k8 := gives_cmp p1 p2 q1 q2 (-1) vp vq ((cmp_sums V1 V2 V3 (op2_ok hp).2.2.2 (op2_ok hq).2.2.2).trans hx3)
              exact order_Naoos a b d g h y z t1 t2 p1 p2 q1 q2 w hE hv a0 a1 b0 b1 d0 d1 g0 g1 h0 h1 k1 k2 k3 k4 k5 k6 k7 k8 hne hy1 hsg
            · exact order_Naols a b d g h y z t1 t2 p1 p2 q1 q2 le w hE hv a0 a1 b0 b1 d0 d1 g0 g1 h0 h1 k1 k2 k3 k4 k5 k6 k7 hne hy1 hsg hle
          · exact order_Naoks a b d g h y z t1 t2 p1 p2 ke q1 q2 le w hE hv a0 a1 b0 b1 d0 d1 g0 g1 h0 h1 k1 k2 k3 k4 k5 k6 k7 hne hy1 hsg hke
        · have e3 := hte hte0
          simp only [Prod.mk.injEq] at e3
          obtain ⟨rfl, rfl, rfl⟩ := e3
          by_cases hke : ke = 0
          · subst hke
            by_cases hle : le = 0
            · subst hle
              have vp := (Q.red_val (op2_ok hp).2.2.1 (op2_ok hp).2.2.2).1
              have vq := (Q.red_val (op2_ok hq).2.2.1 (op2_ok hq).2.2.2).1
              have k8 := gives_cmp p1 p2 q1 q2 (-1) vp vq ((cmp_sums V1 V2 V3 (op2_ok hp).2.2.2 (op2_ok hq).2.2.2).trans hx3)
              exact order_Naeos a b d g h y z p1 p2 q1 q2 w hE hv a0 a1 b0 b1 d0 d1 g0 g1 h0 h1 k1 k2 k3 k4 k5 k6 k7 k8 hne hy1
            · exact order_Naels a b d g h y z p1 p2 q1 q2 le w hE hv a0 a1 b0 b1 d0 d1 g0 g1 h0 h1 k1 k2 k3 k4 k5 k6 k7 hne hy1 hle
          · exact order_Naeks a b d g h y z p1 p2 ke q1 q2 le w hE hv a0 a1 b0 b1 d0 d1 g0 g1 h0 h1 k1 k2 k3 k4 k5 k6 k7 hne hy1 hke
      · by_cases hte0 : te = 0
        · subst hte0
          have sg := sign_sub V1 V2 (op2_ok ht).2.2.2
          have hsg : t1 < 0 := sg.2.1.2 hx
          by_cases hke : ke = 0
          · subst hke
            by_cases hle : le = 0
            · subst hle
              have vp := (Q.red_val (op2_ok hp).2.2.1 (op2_ok hp).2.2.2).1
              have vq := (Q.red_val (op2_ok hq).2.2.1 (op2_ok hq).2.2.2).1
              have k8 := gives_cmp p1 p2 q1 q2 (-1) vp vq ((cmp_sums V1 V2 V3 (op2_ok hp).2.2.2 (op2_ok hq).2.2.2).trans hx3)
              exact order_Naoon a b c d g h y z t1 t2 p1 p2 q1 q2 w hE hv a0 a1 b0 b1 c0 c1 d0 d1 g0 g1 h0 h1 k1 k2 k3 k4 k5 k6 k7 k8 hne hy1 hsg
            · exact order_Naoln a b c d g h y z t1 t2 p1 p2 q1 q2 le w hE hv a0 a1 b0 b1 c0 c1 d0 d1 g0 g1 h0 h1 k1 k2 k3 k4 k5 k6 k7 hne hy1 hsg hle
          · exact order_Naokn a b c d g h y z t1 t2 p1 p2 ke q1 q2 le w hE hv a0 a1 b0 b1 c0 c1 d0 d1 g0 g1 h0 h1 k1 k2 k3 k4 k5 k6 k7 hne hy1 hsg hke
        · have e3 := hte hte0
          simp only [Prod.mk.injEq] at e3
          obtain ⟨rfl, rfl, rfl⟩ := e3
          by_cases hke : ke = 0
          · subst hke
            by_cases hle : le = 0
            · subst hle
              have vp := (Q.red_val (op2_ok hp).2.2.1 (op2_ok hp).2.2.2).1
              have vq := (Q.red_val (op2_ok hq).2.2.1 (op2_ok hq).2.2.2).1
              have k8 := gives_cmp p1 p2 q1 q2 (-1) vp vq ((cmp_sums V1 V2 V3 (op2_ok hp).2.2.2 (op2_ok hq).2.2.2).trans hx3)
              exact order_Naeon a b c d g h y z p1 p2 q1 q2 w hE hv a0 a1 b0 b1 c0 c1 d0 d1 g0 g1 h0 h1 k1 k2 k3 k4 k5 k6 k7 k8 hne hy1
            · exact order_Naeln a b c d g h y z p1 p2 q1 q2 le w hE hv a0 a1 b0 b1 c0 c1 d0 d1 g0 g1 h0 h1 k1 k2 k3 k4 k5 k6 k7 hne hy1 hle
          · exact order_Naekn a b c d g h y z p1 p2 ke q1 q2 le w hE hv a0 a1 b0 b1 c0 c1 d0 d1 g0 g1 h0 h1 k1 k2 k3 k4 k5 k6 k7 hne hy1 hke
  · have hx3 : cmp3 (a * d) (c * b) = 0 := by unfold cmp3; rw [if_neg (by omega), if_pos hx]
    obtain ⟨rfl, rfl⟩ := Q.val_one V1 V2 hx
    have k1 := gives_cmp a b a b 0 V1 V2 hx3
    have k4 := gives_cmp a b a b 0 V2 V1 hx3
    by_cases hy0 : y ≤ 0
    · have hz0 : z ≤ 0 := by omega
      by_cases hte0 : te = 0
      · subst hte0
        have sg := sign_sub V1 V1 (op2_ok ht).2.2.2
        obtain rfl : t1 = 0 := sg.2.2.2 rfl
        by_cases hke : ke = 0
        · subst hke
          by_cases hle : le = 0
          · subst hle
            have vp := (Q.red_val (op2_ok hp).2.2.1 (op2_ok hp).2.2.2).1
            have vq := (Q.red_val (op2_ok hq).2.2.1 (op2_ok hq).2.2.2).1
            have k8 := gives_cmp p1 p2 q1 q2 (0) vp vq ((cmp_sums V1 V1 V3 (op2_ok hp).2.2.2 (op2_ok hq).2.2.2).trans hx3)
            exact order_Zboo a b g h y z t2 p1 p2 q1 q2 w hE hv a0 a1 b0 b1 g0 g1 h0 h1 k1 k2 k3 k4 k5 k6 k7 k8 hy0 hz0
          · exact order_Zbol a b g h y z t2 p1 p2 q1 q2 le w hE hv a0 a1 b0 b1 g0 g1 h0 h1 k1 k2 k3 k4 k5 k6 k7 hy0 hz0 hle
        · exact order_Zbok a b g h y z t2 p1 p2 ke q1 q2 le w hE hv a0 a1 b0 b1 g0 g1 h0 h1 k1 k2 k3 k4 k5 k6 k7 hy0 hz0 hke
      · have e3 := hte hte0
        simp only [Prod.mk.injEq] at e3
        obtain ⟨rfl, rfl, rfl⟩ := e3
        by_cases hke : ke = 0
        · subst hke
          by_cases hle : le = 0
          · subst hle
            have vp := (Q.red_val (op2_ok hp).2.2.1 (op2_ok hp).2.2.2).1
            have vq := (Q.red_val (op2_ok hq).2.2.1 (op2_ok hq).2.2.2).1
            have k8 := gives_cmp p1 p2 q1 q2 (0) vp vq ((cmp_sums V1 V1 V3 (op2_ok hp).2.2.2 (op2_ok hq).2.2.2).trans hx3)
            exact order_Zbeo a b g h y z p1 p2 q1 q2 w hE hv a0 a1 b0 b1 g0 g1 h0 h1 k1 k2 k3 k4 k5 k6 k7 k8 hy0 hz0
          · exact order_Zbel a b g h y z p1 p2 q1 q2 le w hE hv a0 a1 b0 b1 g0 g1 h0 h1 k1 k2 k3 k4 k5 k6 k7 hy0 hz0 hle
        · exact order_Zbek a b g h y z p1 p2 ke q1 q2 le w hE hv a0 a1 b0 b1 g0 g1 h0 h1 k1 k2 k3 k4 k5 k6 k7 hy0 hz0 hke
    · have hy1 : 0 < y := by omega
      by_cases hte0 : te = 0
      · subst hte0
        have sg := sign_sub V1 V1 (op2_ok ht).2.2.2
        obtain rfl : t1 = 0 := sg.2.2.2 rfl
        by_cases hke : ke = 0
        · subst hke
          by_cases hle : le = 0
          · subst hle
            have vp := (Q.red_val (op2_ok hp).2.2.1 (op2_ok hp).2.2.2).1
            have vq := (Q.red_val (op2_ok hq).2.2.1 (op2_ok hq).2.2.2).1
            have k8 := gives_cmp p1 p2 q1 q2 (0) vp vq ((cmp_sums V1 V1 V3 (op2_ok hp).2.2.2 (op2_ok hq).2.2.2).trans hx3)
            exact order_Zaoo a b g h y z t2 p1 p2 q1 q2 w hE hv a0 a1 b0 b1 g0 g1 h0 h1 k1 k2 k3 k4 k5 k6 k7 k8 hy1
          · exact order_Zaol a b g h y z t2 p1 p2 q1 q2 le w hE hv a0 a1 b0 b1 g0 g1 h0 h1 k1 k2 k3 k4 k5 k6 k7 hy1 hle
        · exact order_Zaok a b g h y z t2 p1 p2 ke q1 q2 le w hE hv a0 a1 b0 b1 g0 g1 h0 h1 k1 k2 k3 k4 k5 k6 k7 hy1 hke
      · have e3 := hte hte0
        simp only [Prod.mk.injEq] at e3
        obtain ⟨rfl, rfl, rfl⟩ := e3
        by_cases hke : ke = 0
        · subst hke
          by_cases hle : le = 0
          · subst hle
            have vp := (Q.red_val (op2_ok hp).2.2.1 (op2_ok hp).2.2.2).1
            have vq := (Q.red_val (op2_ok hq).2.2.1 (op2_ok hq).2.2.2).1
            have k8 := gives_cmp p1 p2 q1 q2 (0) vp vq ((cmp_sums V1 V1 V3 (op2_ok hp).2.2.2 (op2_ok hq).2.2.2).trans hx3)
            exact order_Zaeo a b g h y z p1 p2 q1 q2 w hE hv a0 a1 b0 b1 g0 g1 h0 h1 k1 k2 k3 k4 k5 k6 k7 k8 hy1
          · exact order_Zael a b g h y z p1 p2 q1 q2 le w hE hv a0 a1 b0 b1 g0 g1 h0 h1 k1 k2 k3 k4 k5 k6 k7 hy1 hle
        · exact order_Zaek a b g h y z p1 p2 ke q1 q2 le w hE hv a0 a1 b0 b1 g0 g1 h0 h1 k1 k2 k3 k4 k5 k6 k7 hy1 hke
  · have hx3 : cmp3 (a * d) (c * b) = 1 := by unfold cmp3; rw [if_neg (by omega), if_neg (by omega)]
    have k1 := gives_cmp a b c d 1 V1 V2 hx3
    have k4 := gives_cmp c d a b (-1) V2 V1 (by rw [cmp3_swap, hx3])
    by_cases hne : a = c
    · subst hne
      have hne : ¬ b = d := fun e => by subst e; omega
      by_cases hte0 : te = 0
      · subst hte0
        have sg := sign_sub V1 V2 (op2_ok ht).2.2.2
        have hsg : 0 < t1 := sg.1.2 hx
        by_cases hke : ke = 0
        · subst hke
          by_cases hle : le = 0
          · subst hle
            have vp := (Q.red_val (op2_ok hp).2.2.1 (op2_ok hp).2.2.2).1
            have vq := (Q.red_val (op2_ok hq).2.2.1 (op2_ok hq).2.2.2).1
            have k8 := gives_cmp p1 p2 q1 q2 (1) vp vq ((cmp_sums V1 V2 V3 (op2_ok hp).2.2.2 (op2_ok hq).2.2.2).trans hx3)
            exact order_Paoos a b d g h y z t1 t2 p1 p2 q1 q2 w hE hv a0 a1 b0 b1 d0 d1 g0 g1 h0 h1 k1 k2 k3 k4 k5 k6 k7 k8 hne hsg
          · exact order_Paols a b d g h y z t1 t2 p1 p2 q1 q2 le w hE hv a0 a1 b0 b1 d0 d1 g0 g1 h0 h1 k1 k2 k3 k4 k5 k6 k7 hne hsg hle
        · exact order_Paoks a b d g h y z t1 t2 p1 p2 ke q1 q2 le w hE hv a0 a1 b0 b1 d0 d1 g0 g1 h0 h1 k1 k2 k3 k4 k5 k6 k7 hne hsg hke
      · have e3 := hte hte0
        simp only [Prod.mk.injEq] at e3
        obtain ⟨rfl, rfl, rfl⟩ := e3
        by_cases hke : ke = 0
        · subst hke
          by_cases hle : le = 0
          · subst hle
            have vp := (Q.red_val (op2_ok hp).2.2.1 (op2_ok hp).2.2.2).1
            have vq := (Q.red_val (op2_ok hq).2.2.1 (op2_ok hq).2.2.2).1
            have k8 := gives_cmp p1 p2 q1 q2 (1) vp vq ((cmp_sums V1 V2 V3 (op2_ok hp).2.2.2 (op2_ok hq).2.2.2).trans hx3)
            exact order_Paeos a b d g h y z p1 p2 q1 q2 w hE hv a0 a1 b0 b1 d0 d1 g0 g1 h0 h1 k1 k2 k3 k4 k5 k6 k7 k8 hne
          · exact order_Paels a b d g h y z p1 p2 q1 q2 le w hE hv a0 a1 b0 b1 d0 d1 g0 g1 h0 h1 k1 k2 k3 k4 k5 k6 k7 hne hle
        · exact order_Paeks a b d g h y z p1 p2 ke q1 q2 le w hE hv a0 a1 b0 b1 d0 d1 g0 g1 h0 h1 k1 k2 k3 k4 k5 k6 k7 hne hke
    · by_cases hte0 : te = 0
      · subst hte0
        have sg := sign_sub V1 V2 (op2_ok ht).2.2.2
        have hsg : 0 < t1 := sg.1.2 hx
        by_cases hke : ke = 0
        · subst hke
          by_cases hle : le = 0
          · subst hle
            have vp := (Q.red_val (op2_ok hp).2.2.1 (op2_ok hp).2.2.2).1
            have vq := (Q.red_val (op2_ok hq).2.2.1 (op2_ok hq).2.2.2).1
            have k8 := gives_cmp p1 p2 q1 q2 (1) vp vq ((cmp_sums V1 V2 V3 (op2_ok hp).2.2.2 (op2_ok hq).2.2.2).trans hx3)
            exact order_Paoon a b c d g h y z t1 t2 p1 p2 q1 q2 w hE hv a0 a1 b0 b1 c0 c1 d0 d1 g0 g1 h0 h1 k1 k2 k3 k4 k5 k6 k7 k8 hne hsg
          · exact order_Paoln a b c d g h y z t1 t2 p1 p2 q1 q2 le w hE hv a0 a1 b0 b1 c0 c1 d0 d1 g0 g1 h0 h1 k1 k2 k3 k4 k5 k6 k7 hne hsg hle
        · exact order_Paokn a b c d g h y z t1 t2 p1 p2 ke q1 q2 le w hE hv a0 a1 b0 b1 c0 c1 d0 d1 g0 g1 h0 h1 k1 k2 k3 k4 k5 k6 k7 hne hsg hke
      · have e3 := hte hte0
        simp only [Prod.mk.injEq] at e3
        obtain ⟨rfl, rfl, rfl⟩ := e3
        by_cases hke : ke = 0
        · subst hke
          by_cases hle : le = 0
          · subst hle
            have vp := (Q.red_val (op2_ok hp).2.2.1 (op2_ok hp).2.2.2).1
            have vq := (Q.red_val (op2_ok hq).2.2.1 (op2_ok hq).2.2.2).1
            have k8 := gives_cmp p1 p2 q1 q2 (1) vp vq ((cmp_sums V1 V2 V3 (op2_ok hp).2.2.2 (op2_ok hq).2.2.2).trans hx3)
            exact order_Paeon a b c d g h y z p1 p2 q1 q2 w hE hv a0 a1 b0 b1 c0 c1 d0 d1 g0 g1 h0 h1 k1 k2 k3 k4 k5 k6 k7 k8 hne
          · exact order_Paeln a b c d g h y z p1 p2 q1 q2 le w hE hv a0 a1 b0 b1 c0 c1 d0 d1 g0 g1 h0 h1 k1 k2 k3 k4 k5 k6 k7 hne hle
        · exact order_Paekn a b c d g h y z p1 p2 ke q1 q2 le w hE hv a0 a1 b0 b1 c0 c1 d0 d1 g0 g1 h0 h1 k1 k2 k3 k4 k5 k6 k7 hne hke
end Go.Proofs.YtohnmffokichkaaDoor
