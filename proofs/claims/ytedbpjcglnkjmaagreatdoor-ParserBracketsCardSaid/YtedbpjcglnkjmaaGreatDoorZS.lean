/-
  What Expr gives, in one form for expressions and for errors; the closure of the law on order.
-/
import Derived.Test.YtedbpjcglnkjmaaGreatDoorZP
import Derived.Test.YtedbpjcglnkjmaaGreatDoorZQ
namespace Go.Proofs.YtedbpjcglnkjmaaGreatDoor
open Go.RowKit Lx Pa

def xE (l : List UInt8) : Int := match exprR l with
  | .ok _ _ => 0
  | .er E _ => E
def xT (l : List UInt8) : Tree := match exprR l with
  | .ok n _ => n
  | .er _ _ => .mk 0 0 [] 0 0 1 []
def xO (l : List UInt8) : Nat → Int := match exprR l with
  | .ok _ f => f
  | .er _ _ => fun _ => 0
theorem exprS {s : ByteArray} {l : List UInt8} {E : Int} (w : World) (hs : s.data.toList = l) (hE : xE l = E) (hz : s.size ≤ 281474976710656) :
    Calls Tryz.prog 13 #[.string s] w fun e w' => ∃ x a, e = .returned (.tuple #[nv x, .int .i64 E, .int .i64 a]) ∧ NodeA w' (fun _ => True) (xO l) (xT l) x ∧ (xT l).siz ≤ 200 ∧ RowKit.Below w.heap.size w w' := by
  subst hs hE
  refine (exprF_any s hz w).mono ?_
  rintro e w' ⟨h1, h2⟩
  unfold xE xT xO
  cases hx : exprR s.data.toList with
  | ok n f =>
    rw [hx] at h2
    obtain ⟨x, h2, h3, h4⟩ := h2
    exact ⟨x, 0, h2, NodeA.keep (Nat.le_refl _) (fun _ _ _ => rfl) (fun _ _ _ => trivial) _ _ h3, h4, h1⟩
  | er E a =>
    rw [hx] at h2
    refine ⟨⟨0, 0, ⟨#[]⟩, 0, 0, false, 0, 0, 0, none, 0, 0⟩, a, h2.1, ?_, by simp [Tree.siz, sizL], h1⟩
    exact leafA w' (fun _ => True) (fun _ => 0) 0 0 [] 0 0 1
theorem two_vals {s t : List UInt8} (h : Two M0 Vh s t) : xE s = xE t ∧ eqT false (xO s) (xO t) (xT s) (xT t) = true := by
  unfold xE xO xT
  rcases two_ex h with ⟨n, m, f, g, h1, h2, h3⟩ | ⟨a, b, h1, h2⟩
  · rw [h1, h2]; exact ⟨rfl, h3⟩
  · rw [h1, h2]; exact ⟨rfl, by simp [eqT, eqL]⟩
theorem one_vals {l : List UInt8} (h : xE l = 0) (hl : l.length ≤ 900) : xE (par l) = 0 ∧ eqT false (xO l) (xO (par l)) (xT l) (xT (par l)) = true := by
  cases hx : exprR l with
  | er E a =>
    unfold xE at h
    rw [hx] at h
    exfalso
    have h : E = 0 := h
    unfold exprR at hx
    cases h1 : lex Vh l with
    | er E' a' => rw [h1] at hx; simp only [XRes.er.injEq] at hx; exact (lex_er h1).1 (hx.1.trans h)
    | ok ts =>
      rw [h1] at hx
      simp only at hx
      cases h2 : singleO M0 ts with
      | ok n r => rw [h2] at hx; cases hx
      | er E' q m => rw [h2] at hx; simp only [XRes.er.injEq] at hx; exact single_e h2 (hx.1.trans h)
  | ok n f =>
    obtain ⟨m, g, h1, h2⟩ := one_ex hx hl
    unfold xE xO xT
    rw [h1, hx]
    exact ⟨rfl, h2⟩
theorem src_of0 {l : List UInt8} (h : xE l = 0) : ∃ x, Src M0 Vh l x := by
  cases hx : exprR l with
  | ok n f => exact ⟨_, src_of hx⟩
  | er E a =>
    unfold xE at h
    rw [hx] at h
    exfalso
    have h : E = 0 := h
    unfold exprR at hx
    cases h1 : lex Vh l with
    | er E' a' => rw [h1] at hx; simp only [XRes.er.injEq] at hx; exact (lex_er h1).1 (hx.1.trans h)
    | ok ts =>
      rw [h1] at hx
      simp only at hx
      cases h2 : singleO M0 ts with
      | ok n r => rw [h2] at hx; cases hx
      | er E' q m => rw [h2] at hx; simp only [XRes.er.injEq] at hx; exact single_e h2 (hx.1.trans h)
set_option maxRecDepth 100000 in
set_option maxHeartbeats 4000000 in
theorem two_any (s t : ByteArray) (a b : List UInt8) (ha : s.data.toList = a) (hb : t.data.toList = b) (hs : s.size ≤ 281474976710656) (ht : t.size ≤ 281474976710656) (h : xE a = xE b ∧ eqT false (xO a) (xO b) (xT a) (xT b) = true) (w : World) :
    Calls Tryz.prog 20 #[.string s, .string t] w fun e w' => e = .returned (.bool true) ∧ RowKit.Below w.heap.size w w' := by
  obtain ⟨E, hE⟩ : ∃ E, xE b = E := ⟨_, rfl⟩
  have KA := Lib.hid (fun w => exprS (s := s) w ha (h.1.trans hE) hs)
  have KB := Lib.hid (fun w => exprS (s := t) w hb hE ht)
  have EQ := Lib.hid h.2
  clear ha hb h hE
  go_enter Tryz.func20, Tryz.ntmps20
  go_wp2_with fail
  refine (KA.out _).mono ?_
  rintro _ v1 ⟨⟨xo, xa, xs, xn, xd, xf, xm, xr, xy, xq, xk, xc⟩, at1, rfl, hx, hsz1, hb⟩
  unfold nv
  have bV := (Below.refl _ v1).alloc (Nat.le_refl _) (.cells #[.int .i64 xo, .int .i64 xa, .string xs, .int .i64 xn, .int .i64 xd, .bool xf, .int .i64 xm, .int .i64 xr, .int .i64 xy, .slice xq xk xc] 36)
  have hbV := hb.trans (bV.mono hb.size)
  have B1 := Lib.hid (hbV)
  have X1 := Lib.hid (NodeA.bel bV _ _ hx)
  have C1 := Lib.hid (B10.new v1 (.int .i64 xo) (.int .i64 xa) (.string xs) (.int .i64 xn) (.int .i64 xd) (.bool xf) (.int .i64 xm) (.int .i64 xr) (.int .i64 xy) (.slice xq xk xc) 36)
  clear bV hbV hb hx
  go_wp2_with fail
  generalize v1.alloc (.cells #[.int .i64 xo, .int .i64 xa, .string xs, .int .i64 xn, .int .i64 xd, .bool xf, .int .i64 xm, .int .i64 xr, .int .i64 xy, .slice xq xk xc] 36) = V1 at *
  generalize v1.heap.size = z1 at *
  refine (KB.out _).mono ?_
  rintro _ v2 ⟨⟨yo, ya, ys, yn, yd, yf, ym, yr, yy, yq, yk, yc⟩, at2, rfl, hx, hsz2, hb⟩
  unfold nv
  have bV := (Below.refl _ v2).alloc (Nat.le_refl _) (.cells #[.int .i64 yo, .int .i64 ya, .string ys, .int .i64 yn, .int .i64 yd, .bool yf, .int .i64 ym, .int .i64 yr, .int .i64 yy, .slice yq yk yc] 36)
  have hbV := hb.trans (bV.mono hb.size)
  have B2 := Lib.hid (B1.out.trans (hbV.mono B1.out.size))
  have X2 := Lib.hid (NodeA.bel bV _ _ hx)
  have C2 := Lib.hid (B10.new v2 (.int .i64 yo) (.int .i64 ya) (.string ys) (.int .i64 yn) (.int .i64 yd) (.bool yf) (.int .i64 ym) (.int .i64 yr) (.int .i64 yy) (.slice yq yk yc) 36)
  replace X1 := Lib.hid (NodeA.bel hbV _ _ X1.out)
  replace C1 := Lib.hid (C1.out.bel hbV)
  clear bV hbV hb hx
  obtain ⟨r0, r1, r2, r3, r4, r5, r6, r7, r8, r9, -, -, -, -, -, -, -, -, -, -⟩ := C1.out
  obtain ⟨q0, q1, q2, q3, q4, q5, q6, q7, q8, q9, -, -, -, -, -, -, -, -, -, -⟩ := C2.out
  go_wp2_with fail
  generalize v2.alloc (.cells #[.int .i64 yo, .int .i64 ya, .string ys, .int .i64 yn, .int .i64 yd, .bool yf, .int .i64 ym, .int .i64 yr, .int .i64 yy, .slice yq yk yc] 36) = V2 at *
  generalize v2.heap.size = z2 at *
  clear r0 r1 r2 r3 r4 r5 r6 r7 r8 r9 q0 q1 q2 q3 q4 q5 q6 q7 q8 q9
  have KS := same_any false _ _ _ _ _ (Nat.le_refl _) (by omega) _ _ _ _ _ X1.out X2.out
  rw [EQ.out] at KS
  unfold nv at KS
  refine KS.mono ?_
  rintro _ v3 ⟨rfl, hb⟩
  have B3 := Lib.hid (B2.out.trans (hb.mono B2.out.size))
  clear hb KS
  go_wp2_with fail
  go_ret
  exact ⟨rfl, B3.out⟩
end Go.Proofs.YtedbpjcglnkjmaaGreatDoor
