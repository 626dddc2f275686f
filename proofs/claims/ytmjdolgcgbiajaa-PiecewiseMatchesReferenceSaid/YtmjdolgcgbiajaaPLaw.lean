/-
  What the laws of layer 5 lean on: what sums, lesser ones and multiples are, and bounds of values.
-/
import Derived.Test.YtmjdolgcgbiajaaPHead
namespace Go.Proofs.Ytmjdolgcgbiajaa
open Go.RowKit Go.Shelf Pw

theorem resA_err (l : List AP) : (resA l).2 = 0 ∨ ((resA l).1 = [] ∧ ((resA l).2 = 2 ∨ (resA l).2 = 3)) := chk_err _
theorem addR_err (f g : List RP) : (addR f g).2 = 0 ∨ ((addR f g).1 = [] ∧ ((addR f g).2 = 2 ∨ (addR f g).2 = 3)) := by
  rcases resA_err (addL (AA f) (AA g)) with h | ⟨h, h'⟩
  · exact .inl h
  · exact .inr ⟨by unfold addR; rw [h]; rfl, h'⟩
theorem leastR_err (f g : List RP) : (leastR f g).2 = 0 ∨ ((leastR f g).1 = [] ∧ ((leastR f g).2 = 2 ∨ (leastR f g).2 = 3)) := by
  rcases resA_err (leastL (AA f) (AA g)) with h | ⟨h, h'⟩
  · exact .inl h
  · exact .inr ⟨by unfold leastR; rw [h]; rfl, h'⟩
theorem scaleR_err {f : List RP} (hf : VR f) (rn rd : Int) : (scaleR f rn rd).2 = 0 ∨ ((scaleR f rn rd).1 = [] ∧ (scaleR f rn rd).2 = 3) := by
  rcases scale_err (r := fr rn rd) hf.va with h | ⟨h, h'⟩
  · exact .inl h
  · exact .inr ⟨by unfold scaleR; rw [h]; rfl, h'⟩
theorem addR_ok {f g : List RP} (hf : VR f) (h : (addR f g).2 = 0) : VR (addR f g).1 ∧ Redd (AA (addR f g).1) ∧ ∀ x, 0 ≤ x → x ≤ 100000 → vl (AA (addR f g).1) x = vl (AA f) x + vl (AA g) x := by
  obtain ⟨h1, h2, h3⟩ := va_add (G := AA g) (m := (resA (addL (AA f) (AA g))).1) hf.va (by rw [← h]; rfl)
  obtain ⟨k1, k2⟩ := va_vr h2
  have e : AA (addR f g).1 = (resA (addL (AA f) (AA g))).1 := k2
  refine ⟨k1, by rw [e]; exact h3, fun x h0 h1' => ?_⟩
  rw [e, h1, vl_red (inc_add _ _), vl_add hf.va h0 h1']
theorem leastR_ok {f g : List RP} (hf : VR f) (h : (leastR f g).2 = 0) : VR (leastR f g).1 ∧ Redd (AA (leastR f g).1) ∧ ∀ x, 0 ≤ x → x ≤ 100000 → vl (AA (leastR f g).1) x = if vl (AA f) x ≤ vl (AA g) x then vl (AA f) x else vl (AA g) x := by
  obtain ⟨h1, h2, h3⟩ := va_least (G := AA g) (m := (resA (leastL (AA f) (AA g))).1) hf.va (by rw [← h]; rfl)
  obtain ⟨k1, k2⟩ := va_vr h2
  have e : AA (leastR f g).1 = (resA (leastL (AA f) (AA g))).1 := k2
  refine ⟨k1, by rw [e]; exact h3, fun x h0 h1' => ?_⟩
  rw [e, h1, vl_red (inc_least _ _), vl_least hf.va h0 h1']
  unfold lsF
  by_cases hh : vl (AA f) x ≤ vl (AA g) x
  · rw [decide_eq_true hh, if_pos rfl, if_pos hh]
  · rw [decide_eq_false hh, if_neg (by simp), if_neg hh]
theorem scaleR_ok {f : List RP} {rn rd : Int} (hf : VR f) (h : (scaleR f rn rd).2 = 0) : VR (scaleR f rn rd).1 ∧ Redd (AA (scaleR f rn rd).1) ∧ ∀ x, vl (AA (scaleR f rn rd).1) x = vl (AA f) x * fr rn rd := by
  obtain ⟨h1, h2, h3⟩ := va_scale (m := (scaleA (AA f) (fr rn rd)).1) (r := fr rn rd) hf.va (by rw [← h]; rfl)
  obtain ⟨k1, k2⟩ := va_vr h2
  have e : AA (scaleR f rn rd).1 = (scaleA (AA f) (fr rn rd)).1 := k2
  refine ⟨k1, by rw [e]; exact h3, fun x => ?_⟩
  rw [e, h1, vl_scale hf.va]
theorem leastR_self {f : List RP} (hf : VR f) : (leastR f f).2 = 0 := by unfold leastR; rw [res_self hf.va]
theorem addR_comm (f g : List RP) : addR f g = addR g f := by unfold addR; rw [add_comm']

/-- The bounds of a value. -/
theorem vl_bd {f : List RP} (hf : VR f) {x : Int} (h0 : 0 ≤ x) (h1 : x ≤ 100000) : (vl (AA f) x).num.natAbs ≤ 2000000000000 ∧ ((vl (AA f) x).den : Int) ≤ 10000 := by
  have hn : 0 < f.length := hf.1
  have hm := hf.wl (pcX_mem (x := x) hn)
  have e : (toAP (pcX f x)).at x = vl (AA f) x := by unfold vl AA; rw [pcX_AA hn]
  rw [← e]
  generalize pcX f x = p at *
  obtain ⟨k1, k2, k3, k4, k5, k6⟩ := wl_val hm.1
  obtain ⟨a1, a2, a3, a4, _⟩ := k1
  obtain ⟨b1, b2, b3, b4, _⟩ := k3
  have m1 := mul_bd (a := p.vn) (b := p.sd) (A := 1000000000) (B := 100) (by omega) (by omega)
  have m2 := mul_bd (a := p.sn) (b := x - p.f) (A := 100000) (B := 100000) (by omega) (by omega)
  have m3 := mul_bd (a := p.sn * (x - p.f)) (b := p.vd) (A := 100000 * 100000) (B := 100) m2 (by omega)
  have m4 := mul_bd (a := p.vd) (b := p.sd) (A := 100) (B := 100) (by omega) (by omega)
  have hpos : 0 < p.vd * p.sd := Int.mul_pos (by omega) (by omega)
  have e3 : fr (p.vn * p.sd + p.sn * (x - p.f) * p.vd) (p.vd * p.sd) = (toAP p).at x := by
    have n1 := ne0 (d := p.vd) (by omega)
    have n2 := ne0 (d := p.sd) (by omega)
    unfold toAP AP.at fr
    simp only [Rat.intCast_add, Rat.intCast_mul, Rat.intCast_sub]
    grind
  rw [← e3]
  have := fr_bd (n := p.vn * p.sd + p.sn * (x - p.f) * p.vd) hpos
  omega
theorem sum_bd {a b : Rat} (h1 : a.num.natAbs ≤ 2000000000000) (h2 : (a.den : Int) ≤ 10000) (h3 : b.num.natAbs ≤ 2000000000000) (h4 : (b.den : Int) ≤ 10000) :
    (a.num * b.den).natAbs ≤ 4000000000000000000 ∧ (b.num * a.den).natAbs ≤ 4000000000000000000 ∧ ((a.den : Int) * b.den) ≤ 9223372036854775807 := by
  have p1 := den_pos a
  have p2 := den_pos b
  have m1 := mul_bd (a := a.num) (b := b.den) (A := 2000000000000) (B := 10000) h1 (by omega)
  have m2 := mul_bd (a := b.num) (b := a.den) (A := 2000000000000) (B := 10000) h3 (by omega)
  have m3 := mul_bd (a := (a.den : Int)) (b := b.den) (A := 10000) (B := 10000) (by omega) (by omega)
  omega
/-- Value of the reference, in letters. -/
theorem val_n {l : List RP} (hv : VR l) {x n d : Int} (hn : n = (vl (AA l) x).num) (hd : d = (vl (AA l) x).den) (h0 : 0 ≤ x) (h1 : x ≤ 100000) (p : Option Addr) (b off cap len : Nat) (w : World) (hS : SlP w p b off len l) :
    Calls Try.prog 27 #[.slice p len cap, .int .i64 x] w fun e w' => e = .returned (.agg #[.int .i64 n, .int .i64 d]) ∧ RowKit.Below w.heap.size w w' := by
  subst hn hd
  exact rvalue_any l p b off cap len x w hS hv h0 h1
theorem rvalid_b (l : List RP) (c : Bool) (hc : vR l = c) (p : Option Addr) (b off cap len : Nat) (w : World) (hS : SlP w p b off len l) : Calls Try.prog 15 #[.slice p len cap] w fun e w' => e = .returned (.bool c) ∧ RowKit.Below w.heap.size w w' := by
  rw [← hc]; exact rvalid_sl l p b off cap len w hS
theorem both_true {f g : List RP} (h : bothR f g = true) : VR f ∧ VR g := by
  unfold bothR at h
  rw [Bool.and_eq_true] at h
  exact ⟨vR_iff.1 h.1, vR_iff.1 h.2⟩
theorem place_bd (a : Int) : 0 ≤ a % 100001 ∧ a % 100001 ≤ 100000 := by omega
end Go.Proofs.Ytmjdolgcgbiajaa
