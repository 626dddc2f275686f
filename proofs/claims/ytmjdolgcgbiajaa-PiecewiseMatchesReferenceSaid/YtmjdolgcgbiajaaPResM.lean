/-
  What the machine's reducing comes to: the same result as exact reducing.
-/
import Derived.Test.YtmjdolgcgbiajaaPResR
namespace Go.Proofs.Ytmjdolgcgbiajaa
open Go.RowKit Go.Shelf Pw

/-- The bounds of a line of a piece within the limits. -/
theorem at_bd {p : RP} (h : wl p = true) (h0 : 0 ≤ p.f) (h1 : p.f ≤ 100000) {x : Int} (x0 : 0 ≤ x) (x1 : x ≤ 100000) : ((toAP p).at x).num.natAbs ≤ 2000000000000 ∧ (((toAP p).at x).den : Int) ≤ 10000 := by
  obtain ⟨k1, k2, k3, k4, k5, k6⟩ := wl_val h
  obtain ⟨a1, a2, a3, a4, _⟩ := k1
  obtain ⟨b1, b2, b3, b4, _⟩ := k3
  have m1 := mul_bd (a := p.vn) (b := p.sd) (A := 1000000000) (B := 100) (by omega) (by omega)
  have m2 := mul_bd (a := p.sn) (b := x - p.f) (A := 100000) (B := 100000) (by omega) (by omega)
  have m3 := mul_bd (a := p.sn * (x - p.f)) (b := p.vd) (A := 100000 * 100000) (B := 100) m2 (by omega)
  have m4 := mul_bd (a := p.vd) (b := p.sd) (A := 100) (B := 100) (by omega) (by omega)
  have hpos : 0 < p.vd * p.sd := Int.mul_pos (by omega) (by omega)
  have e3 : fr (p.vn * p.sd + p.sn * (x - p.f) * p.vd) (p.vd * p.sd) = (toAP p).at x := by
    have n1 := ne0 (d := p.vd) (by omega)
    have n2 := ne0 (d := p.sd) (by omega)
    unfold toAP AP.at fr
    simp only [Rat.intCast_add, Rat.intCast_mul, Rat.intCast_sub]
    grind
  rw [← e3]
  have := fr_bd (n := p.vn * p.sd + p.sn * (x - p.f) * p.vd) hpos
  omega
/-- A piece with the line of one within the limits. -/
def Good (a : AP) : Prop := ∃ h : AP, Lim h = true ∧ 0 ≤ h.f ∧ h.f ≤ 100000 ∧ Same h a
theorem good_self {a : AP} (h : Lim a = true) (h0 : 0 ≤ a.f) (h1 : a.f ≤ 100000) : Good a := ⟨a, h, h0, h1, Same.refl a⟩
theorem liok_good {a : AP} (h : Good a) (h0 : 0 ≤ a.f) (h1 : a.f ≤ 100000) {x : Int} (x0 : 0 ≤ x) (x1 : x ≤ 100000) : LiOk (toRP a) x := by
  obtain ⟨b, hl, b0, b1, hs, hat⟩ := h
  have hw := lim_val hl
  have ev : a.v = (toAP (toRP b)).at a.f := by rw [toAP_toRP, hat, a.at_self]
  have bd := at_bd (p := toRP b) hw b0 b1 h0 h1
  rw [← ev] at bd
  obtain ⟨_, _, k3, k4, k5, k6⟩ := wl_val hw
  have e1 : (toRP b).sn = a.s.num := by rw [← hs]; rfl
  have e2 : (toRP b).sd = a.s.den := by rw [← hs]; rfl
  rw [e1] at k5 k6
  rw [e2] at k4
  have p1 := den_pos a.v
  have p2 := den_pos a.s
  have m1 := mul_bd (a := a.v.num) (b := (a.s.den : Int)) (A := 2000000000000) (B := 100) bd.1 (by omega)
  have m2 := mul_bd (a := a.s.num) (b := x - a.f) (A := 100000) (B := 100000) (by omega) (by omega)
  have m3 := mul_bd (a := a.s.num * (x - a.f)) (b := (a.v.den : Int)) (A := 100000 * 100000) (B := 10000) m2 (by omega)
  have m4 := mul_bd (a := (a.v.den : Int)) (b := (a.s.den : Int)) (A := 10000) (B := 100) (by omega) (by omega)
  exact ⟨by show 1 ≤ (a.v.den : Int); omega, by show 1 ≤ (a.s.den : Int); omega, by show (a.v.den : Int) * a.s.den ≤ _; omega, by show (x - a.f).natAbs ≤ _; omega, by show (a.v.num * (a.s.den : Int)).natAbs ≤ _; omega, by show (a.s.num * (x - a.f)).natAbs ≤ _; omega, by show (a.s.num * (x - a.f) * (a.v.den : Int)).natAbs ≤ _; omega⟩
theorem low_toRP (a : AP) : Low (toRP a) := by unfold Low; rw [toAP_toRP]
theorem cW_good {a b : AP} (h : Good a) (h0 : 0 ≤ a.f) (h1 : a.f ≤ 100000) (b0 : 0 ≤ b.f) (b1 : b.f ≤ 100000) : cW (toRP a) (toRP b) = cont a b := by
  rw [cW_is (liok_good h h0 h1 b0 b1) (low_toRP a) (low_toRP b), toAP_toRP, toAP_toRP]
theorem wl_toRP (a : AP) : wl (toRP a) = Lim a := by
  cases h : Lim a with
  | true => exact lim_val h
  | false =>
    cases k : wl (toRP a) with
    | false => rfl
    | true => have := lim_toAP k; rw [toAP_toRP, h] at this; cases this
theorem rf_W : ∀ {t : List AP} {a : AP}, Good a → (∀ q, q ∈ a :: t → 0 ≤ q.f ∧ q.f ≤ 100000) → (rfW (toRP a) (t.map toRP)).all wl = (rf a t).all Lim ∧ ((rf a t).all Lim = true → rfW (toRP a) (t.map toRP) = (rf a t).map toRP)
  | [], _, _, _ => ⟨rfl, fun _ => rfl⟩
  | b :: t, a, hg, hq => by
    have ha := hq a (by simp)
    have hb := hq b (by simp)
    have ht : ∀ q, q ∈ b :: t → 0 ≤ q.f ∧ q.f ≤ 100000 := fun q h => hq q (List.mem_cons_of_mem _ h)
    rw [List.map_cons, rfW, rf, cW_good hg ha.1 ha.2 hb.1 hb.2]
    cases hc : cont a b with
    | true =>
      rw [if_pos rfl, if_pos rfl]
      obtain ⟨h, l, h0, h1, hs⟩ := hg
      exact rf_W ⟨h, l, h0, h1, hs.trans (cont_iff.1 hc)⟩ ht
    | false =>
      rw [if_neg (by simp), if_neg (by simp), List.all_cons, List.all_cons, wl_toRP]
      cases hl : Lim b with
      | false => exact ⟨rfl, fun h => by cases h⟩
      | true =>
        obtain ⟨i1, i2⟩ := rf_W (good_self hl hb.1 hb.2) ht
        rw [i1]
        refine ⟨rfl, fun h => ?_⟩
        rw [Bool.true_and] at h
        rw [i2 h]
        rfl
theorem chR_W {A : List AP} (hA : ∀ q, q ∈ A → 0 ≤ q.f ∧ q.f ≤ 100000) : chR (rdW (A.map toRP)) = ((resA A).1.map toRP, (resA A).2) := by
  cases A with
  | nil => rfl
  | cons a t =>
    have ha := hA a (by simp)
    unfold resA chR chk
    rw [List.map_cons, rdW, red, List.all_cons, List.all_cons, wl_toRP]
    cases hl : Lim a with
    | false => simp
    | true =>
      obtain ⟨i1, i2⟩ := rf_W (good_self hl ha.1 ha.2) hA
      rw [i1, Bool.true_and]
      cases hh : (rf a t).all Lim with
      | false => simp
      | true =>
        rw [i2 hh, if_pos rfl, if_pos rfl]
        simp only [List.length_cons, List.length_map]
        split <;> rfl
end Go.Proofs.Ytmjdolgcgbiajaa
