/-
  The law on brackets: an expression in brackets is the same one; in a row of equal operators brackets around the first two operands change nothing.
-/
import Derived.Test.YtedbpjcglnkjmaaGreatDoorZS
namespace Go.Proofs.YtedbpjcglnkjmaaGreatDoor
open Go.RowKit Lx Pa

def sgL : List (List UInt8) := [sAdd, sSub, sMul, sDiv, kAnd, kOr]
theorem sg_at (k : Nat) (hk : k < 6) : ∃ sg : ByteArray, #[.string ⟨#[43]⟩, .string ⟨#[45]⟩, .string ⟨#[42]⟩, .string ⟨#[47]⟩, .string ⟨#[97, 110, 100]⟩, .string ⟨#[111, 114]⟩][k]? = some (Value.string sg) ∧ sg.data.toList ∈ sgL ∧ sg.size ≤ 3 := by
  rcases (show k = 0 ∨ k = 1 ∨ k = 2 ∨ k = 3 ∨ k = 4 ∨ k = 5 by omega) with rfl | rfl | rfl | rfl | rfl | rfl
  · exact ⟨⟨#[43]⟩, rfl, by decide, by decide⟩
  · exact ⟨⟨#[45]⟩, rfl, by decide, by decide⟩
  · exact ⟨⟨#[42]⟩, rfl, by decide, by decide⟩
  · exact ⟨⟨#[47]⟩, rfl, by decide, by decide⟩
  · exact ⟨⟨#[97, 110, 100]⟩, rfl, by decide, by decide⟩
  · exact ⟨⟨#[111, 114]⟩, rfl, by decide, by decide⟩
theorem par_data {s : ByteArray} {l : List UInt8} (h : s.data.toList = l) : (⟨#[40]⟩ ++ s ++ ⟨#[10, 41]⟩ : ByteArray).data.toList = par l := by
  rw [← h]; simp [par, sLp, sRp]
set_option maxRecDepth 100000 in
set_option maxHeartbeats 12000000 in
theorem brackets_main (s0 s1 s2 : ByteArray) (op : Nat) (w : World) (h0 : s0.size + s1.size + s2.size ≤ 900) (hop : op < 256) : Calls Tryz.prog 7 #[.string s0, .string s1, .string s2, .int .u8 op] w fun e w' => e = .returned (.bool true) ∧ RowKit.Below w.heap.size w w' := by
  obtain ⟨A, hA⟩ : ∃ l, s0.data.toList = l := ⟨_, rfl⟩
  obtain ⟨B, hB⟩ : ∃ l, s1.data.toList = l := ⟨_, rfl⟩
  obtain ⟨C, hC⟩ : ∃ l, s2.data.toList = l := ⟨_, rfl⟩
  have z0 : s0.size = A.length := by rw [← hA, len_bytes]
  have z1 : s1.size = B.length := by rw [← hB, len_bytes]
  have z2 : s2.size = C.length := by rw [← hC, len_bytes]
  obtain ⟨sg, hsg, hsl, hs3⟩ := sg_at (op % 6) (by omega)
  obtain ⟨SL, hSL⟩ : ∃ l, sg.data.toList = l := ⟨_, rfl⟩
  have hlen : ∀ x : List UInt8, sg.data.toList = x → x.length ≤ 3 := fun x hx => by rw [← hx, len_bytes]; exact hs3
  have hP : ((⟨#[40]⟩ ++ s0 ++ ⟨#[10, 41]⟩) ++ ⟨#[32]⟩ ++ sg ++ ⟨#[32]⟩ ++ (⟨#[40]⟩ ++ s1 ++ ⟨#[10, 41]⟩) ++ ⟨#[32]⟩ ++ sg ++ ⟨#[32]⟩ ++ (⟨#[40]⟩ ++ s2 ++ ⟨#[10, 41]⟩)).data.toList = par A ++ ((32 :: (SL ++ [32])) ++ (par B ++ ((32 :: (SL ++ [32])) ++ par C))) := by
    rw [← par_data hA, ← par_data hB, ← par_data hC, ← hSL]; simp
  have hQ : (⟨#[40]⟩ ++ (⟨#[40]⟩ ++ s0 ++ ⟨#[10, 41]⟩) ++ ⟨#[32]⟩ ++ sg ++ ⟨#[32]⟩ ++ (⟨#[40]⟩ ++ s1 ++ ⟨#[10, 41]⟩) ++ ⟨#[41, 32]⟩ ++ sg ++ ⟨#[32]⟩ ++ (⟨#[40]⟩ ++ s2 ++ ⟨#[10, 41]⟩)).data.toList = sLp ++ ((par A ++ ((32 :: (SL ++ [32])) ++ par B)) ++ sRp) ++ ((32 :: (SL ++ [32])) ++ par C) := by
    rw [← par_data hA, ← par_data hB, ← par_data hC, ← hSL]; simp [sLp, sRp]
  have hSLl := hlen _ hSL
  have zP : ((⟨#[40]⟩ ++ s0 ++ ⟨#[10, 41]⟩) ++ ⟨#[32]⟩ ++ sg ++ ⟨#[32]⟩ ++ (⟨#[40]⟩ ++ s1 ++ ⟨#[10, 41]⟩) ++ ⟨#[32]⟩ ++ sg ++ ⟨#[32]⟩ ++ (⟨#[40]⟩ ++ s2 ++ ⟨#[10, 41]⟩)).size ≤ 281474976710656 := by rw [← len_bytes, hP]; simp [par_len]; omega
  have zQ : (⟨#[40]⟩ ++ (⟨#[40]⟩ ++ s0 ++ ⟨#[10, 41]⟩) ++ ⟨#[32]⟩ ++ sg ++ ⟨#[32]⟩ ++ (⟨#[40]⟩ ++ s1 ++ ⟨#[10, 41]⟩) ++ ⟨#[41, 32]⟩ ++ sg ++ ⟨#[32]⟩ ++ (⟨#[40]⟩ ++ s2 ++ ⟨#[10, 41]⟩)).size ≤ 281474976710656 := by rw [← len_bytes, hQ]; simp [par_len, sLp, sRp]; omega
  have zR : (⟨#[40]⟩ ++ s0 ++ ⟨#[10, 41]⟩).size ≤ 281474976710656 := by rw [← len_bytes, par_data hA]; simp [par_len]; omega
  obtain ⟨E1, hE1⟩ : ∃ E, xE A = E := ⟨_, rfl⟩
  obtain ⟨E2, hE2⟩ : ∃ E, xE B = E := ⟨_, rfl⟩
  obtain ⟨E3, hE3⟩ : ∃ E, xE C = E := ⟨_, rfl⟩
  obtain ⟨E5, hE5⟩ : ∃ E, xE (par A ++ ((32 :: (SL ++ [32])) ++ (par B ++ ((32 :: (SL ++ [32])) ++ par C)))) = E := ⟨_, rfl⟩
  have K1 := Lib.hid (fun w => exprS (s := s0) w hA hE1 (by omega))
  have K2 := Lib.hid (fun w => exprS (s := s1) w hB hE2 (by omega))
  have K3 := Lib.hid (fun w => exprS (s := s2) w hC hE3 (by omega))
  have LAW : Hid (E1 = 0 → E2 = 0 → E3 = 0 → Hid (∀ w, Calls Tryz.prog 13 #[.string (⟨#[40]⟩ ++ s0 ++ ⟨#[10, 41]⟩)] w fun e w' => ∃ x a, e = .returned (.tuple #[nv x, .int .i64 0, .int .i64 a]) ∧ NodeA w' (fun _ => True) (xO (par A)) (xT (par A)) x ∧ (xT (par A)).siz ≤ 200 ∧ RowKit.Below w.heap.size w w')
      ∧ Hid (eqT false (xO A) (xO (par A)) (xT A) (xT (par A)) = true)
      ∧ Hid (∀ w, Calls Tryz.prog 13 #[.string ((⟨#[40]⟩ ++ s0 ++ ⟨#[10, 41]⟩) ++ ⟨#[32]⟩ ++ sg ++ ⟨#[32]⟩ ++ (⟨#[40]⟩ ++ s1 ++ ⟨#[10, 41]⟩) ++ ⟨#[32]⟩ ++ sg ++ ⟨#[32]⟩ ++ (⟨#[40]⟩ ++ s2 ++ ⟨#[10, 41]⟩))] w fun e w' => ∃ x a, e = .returned (.tuple #[nv x, .int .i64 E5, .int .i64 a]) ∧ NodeA w' (fun _ => True) (xO (par A ++ ((32 :: (SL ++ [32])) ++ (par B ++ ((32 :: (SL ++ [32])) ++ par C))))) (xT (par A ++ ((32 :: (SL ++ [32])) ++ (par B ++ ((32 :: (SL ++ [32])) ++ par C))))) x ∧ (xT (par A ++ ((32 :: (SL ++ [32])) ++ (par B ++ ((32 :: (SL ++ [32])) ++ par C))))).siz ≤ 200 ∧ RowKit.Below w.heap.size w w')
      ∧ Hid (∀ w, Calls Tryz.prog 13 #[.string (⟨#[40]⟩ ++ (⟨#[40]⟩ ++ s0 ++ ⟨#[10, 41]⟩) ++ ⟨#[32]⟩ ++ sg ++ ⟨#[32]⟩ ++ (⟨#[40]⟩ ++ s1 ++ ⟨#[10, 41]⟩) ++ ⟨#[41, 32]⟩ ++ sg ++ ⟨#[32]⟩ ++ (⟨#[40]⟩ ++ s2 ++ ⟨#[10, 41]⟩))] w fun e w' => ∃ x a, e = .returned (.tuple #[nv x, .int .i64 E5, .int .i64 a]) ∧ NodeA w' (fun _ => True) (xO (sLp ++ ((par A ++ ((32 :: (SL ++ [32])) ++ par B)) ++ sRp) ++ ((32 :: (SL ++ [32])) ++ par C))) (xT (sLp ++ ((par A ++ ((32 :: (SL ++ [32])) ++ par B)) ++ sRp) ++ ((32 :: (SL ++ [32])) ++ par C))) x ∧ (xT (sLp ++ ((par A ++ ((32 :: (SL ++ [32])) ++ par B)) ++ sRp) ++ ((32 :: (SL ++ [32])) ++ par C))).siz ≤ 200 ∧ RowKit.Below w.heap.size w w')
      ∧ Hid (eqT false (xO (par A ++ ((32 :: (SL ++ [32])) ++ (par B ++ ((32 :: (SL ++ [32])) ++ par C))))) (xO (sLp ++ ((par A ++ ((32 :: (SL ++ [32])) ++ par B)) ++ sRp) ++ ((32 :: (SL ++ [32])) ++ par C))) (xT (par A ++ ((32 :: (SL ++ [32])) ++ (par B ++ ((32 :: (SL ++ [32])) ++ par C))))) (xT (sLp ++ ((par A ++ ((32 :: (SL ++ [32])) ++ par B)) ++ sRp) ++ ((32 :: (SL ++ [32])) ++ par C))) = true)) := by
    intro g1 g2 g3
    subst g1 g2 g3
    obtain ⟨o1, o2⟩ := one_vals hE1 (by omega)
    obtain ⟨x, sx⟩ := src_of0 hE1
    obtain ⟨y, sy⟩ := src_of0 hE2
    obtain ⟨z, sz⟩ := src_of0 hE3
    obtain ⟨t1, t2⟩ := two_vals (br_row (w := SL) (by rw [← hSL]; exact hsl) sx sy sz (by omega))
    exact ⟨fun w => exprS w (par_data hA) o1 zR, o2, fun w => exprS w hP hE5 zP, fun w => exprS w hQ (t1.symm.trans hE5) zQ, t2⟩
  have SG := Lib.hid hsg
  have d1 : decide ((900 : Int) < (s0.size : Int) + (s1.size : Int) + (s2.size : Int)) = false := decide_eq_false (by omega)
  have y0 : s0.size ≤ 900 := by omega
  have y1 : s1.size ≤ 900 := by omega
  have y2 : s2.size ≤ 900 := by omega
  clear hA hB hC z0 z1 z2 hsg hsl hSL hlen hP hQ hSLl zP zQ zR hE1 hE2 hE3 hE5
  go_enter Tryz.func7, Tryz.ntmps7
  go_wp2_with fail
  refine (head_any _).mono ?_
  rintro _ w0 ⟨rfl, hb⟩
  have B0 := Lib.hid hb
  clear hb
  go_wp2_with fail
  refine (K1.out _).mono ?_
  rintro _ v1 ⟨⟨xo, xa, xs, xn, xd, xf, xm, xr, xy, xq, xk, xc⟩, at1, rfl, hx, hsz1, hb⟩
  unfold nv
  have bV := (Below.refl _ v1).alloc (Nat.le_refl _) (.cells #[.int .i64 xo, .int .i64 xa, .string xs, .int .i64 xn, .int .i64 xd, .bool xf, .int .i64 xm, .int .i64 xr, .int .i64 xy, .slice xq xk xc] 36)
  have hbV := hb.trans (bV.mono hb.size)
  have B1 := Lib.hid (B0.out.trans (hbV.mono B0.out.size))
  have X1 := Lib.hid (NodeA.bel bV _ _ hx)
  have C1 := Lib.hid (B10.new v1 (.int .i64 xo) (.int .i64 xa) (.string xs) (.int .i64 xn) (.int .i64 xd) (.bool xf) (.int .i64 xm) (.int .i64 xr) (.int .i64 xy) (.slice xq xk xc) 36)
  clear bV hbV hb hx
  go_wp2_with fail
  generalize v1.alloc (.cells #[.int .i64 xo, .int .i64 xa, .string xs, .int .i64 xn, .int .i64 xd, .bool xf, .int .i64 xm, .int .i64 xr, .int .i64 xy, .slice xq xk xc] 36) = V1 at *
  generalize v1.heap.size = z1 at *
  refine (K2.out _).mono ?_
  rintro _ v2 ⟨⟨yo, ya, ys, yn, yd, yf, ym, yr, yy, yq, yk, yc⟩, at2, rfl, hx, hsz2, hb⟩
  unfold nv
  have bV := (Below.refl _ v2).alloc (Nat.le_refl _) (.cells #[.int .i64 yo, .int .i64 ya, .string ys, .int .i64 yn, .int .i64 yd, .bool yf, .int .i64 ym, .int .i64 yr, .int .i64 yy, .slice yq yk yc] 36)
  have hbV := hb.trans (bV.mono hb.size)
  have B2 := Lib.hid (B1.out.trans (hbV.mono B1.out.size))
  have X2 := Lib.hid (NodeA.bel bV _ _ hx)
  have C2 := Lib.hid (B10.new v2 (.int .i64 yo) (.int .i64 ya) (.string ys) (.int .i64 yn) (.int .i64 yd) (.bool yf) (.int .i64 ym) (.int .i64 yr) (.int .i64 yy) (.slice yq yk yc) 36)
  replace X1 := Lib.hid (NodeA.bel hbV _ _ X1.out)
  replace C1 := Lib.hid (C1.out.bel hbV)
  clear bV hbV hb hx
  go_wp2_with fail
  generalize v2.alloc (.cells #[.int .i64 yo, .int .i64 ya, .string ys, .int .i64 yn, .int .i64 yd, .bool yf, .int .i64 ym, .int .i64 yr, .int .i64 yy, .slice yq yk yc] 36) = V2 at *
  generalize v2.heap.size = z2 at *
  refine (K3.out _).mono ?_
  rintro _ v3 ⟨⟨zo, za, zs, zn, zd, zf, zm, zr, zy, zq, zk, zc⟩, at3, rfl, hx, hsz3, hb⟩
  unfold nv
  have bV := (Below.refl _ v3).alloc (Nat.le_refl _) (.cells #[.int .i64 zo, .int .i64 za, .string zs, .int .i64 zn, .int .i64 zd, .bool zf, .int .i64 zm, .int .i64 zr, .int .i64 zy, .slice zq zk zc] 36)
  have hbV := hb.trans (bV.mono hb.size)
  have B3 := Lib.hid (B2.out.trans (hbV.mono B2.out.size))
  have X3 := Lib.hid (NodeA.bel bV _ _ hx)
  have C3 := Lib.hid (B10.new v3 (.int .i64 zo) (.int .i64 za) (.string zs) (.int .i64 zn) (.int .i64 zd) (.bool zf) (.int .i64 zm) (.int .i64 zr) (.int .i64 zy) (.slice zq zk zc) 36)
  replace X1 := Lib.hid (NodeA.bel hbV _ _ X1.out)
  replace C1 := Lib.hid (C1.out.bel hbV)
  clear bV hbV hb hx
  by_cases h1 : ¬ E1 = 0
  · have e1 : (E1 == 0) = false := by simpa using h1
    have e1' : (E1 != 0) = true := by simpa using h1
    clear h1
    go_wp2_with fail
    go_ret
    exact ⟨rfl, B3.out⟩
  replace h1 : E1 = 0 := by omega
  have e1 : (E1 == 0) = true := by simpa using h1
  have e1' : (E1 != 0) = false := by simpa using h1
  by_cases h2 : ¬ E2 = 0
  · have e2 : (E2 == 0) = false := by simpa using h2
    have e2' : (E2 != 0) = true := by simpa using h2
    clear h1 h2
    go_wp2_with fail
    go_ret
    exact ⟨rfl, B3.out⟩
  replace h2 : E2 = 0 := by omega
  have e2 : (E2 == 0) = true := by simpa using h2
  have e2' : (E2 != 0) = false := by simpa using h2
  by_cases h3 : ¬ E3 = 0
  · have e3 : (E3 == 0) = false := by simpa using h3
    have e3' : (E3 != 0) = true := by simpa using h3
    clear h1 h2 h3
    go_wp2_with fail
    go_ret
    exact ⟨rfl, B3.out⟩
  replace h3 : E3 = 0 := by omega
  have e3 : (E3 == 0) = true := by simpa using h3
  have e3' : (E3 != 0) = false := by simpa using h3
  obtain ⟨K4, EQ1, K5, K6, EQ2⟩ := LAW.out h1 h2 h3
  clear h1 h2 h3
  go_wp2_with fail
  generalize v3.alloc (.cells #[.int .i64 zo, .int .i64 za, .string zs, .int .i64 zn, .int .i64 zd, .bool zf, .int .i64 zm, .int .i64 zr, .int .i64 zy, .slice zq zk zc] 36) = V3 at *
  generalize v3.heap.size = z3 at *
  clear X2 X3 C2 C3
  refine (K4.out _).mono ?_
  rintro _ v4 ⟨⟨to, ta, ts, tn, td, tf, tm, tr, ty, tq, tk, tc⟩, at4, rfl, hx, hsz4, hb⟩
  unfold nv
  have bV := (Below.refl _ v4).alloc (Nat.le_refl _) (.cells #[.int .i64 to, .int .i64 ta, .string ts, .int .i64 tn, .int .i64 td, .bool tf, .int .i64 tm, .int .i64 tr, .int .i64 ty, .slice tq tk tc] 36)
  have hbV := hb.trans (bV.mono hb.size)
  have B4 := Lib.hid (B3.out.trans (hbV.mono B3.out.size))
  have X4 := Lib.hid (NodeA.bel bV _ _ hx)
  have C4 := Lib.hid (B10.new v4 (.int .i64 to) (.int .i64 ta) (.string ts) (.int .i64 tn) (.int .i64 td) (.bool tf) (.int .i64 tm) (.int .i64 tr) (.int .i64 ty) (.slice tq tk tc) 36)
  replace X1 := Lib.hid (NodeA.bel hbV _ _ X1.out)
  replace C1 := Lib.hid (C1.out.bel hbV)
  clear bV hbV hb hx
  obtain ⟨r0, r1, r2, r3, r4, r5, r6, r7, r8, r9, -, -, -, -, -, -, -, -, -, -⟩ := C1.out
  obtain ⟨q0, q1, q2, q3, q4, q5, q6, q7, q8, q9, -, -, -, -, -, -, -, -, -, -⟩ := C4.out
  go_wp2_with fail
  generalize v4.alloc (.cells #[.int .i64 to, .int .i64 ta, .string ts, .int .i64 tn, .int .i64 td, .bool tf, .int .i64 tm, .int .i64 tr, .int .i64 ty, .slice tq tk tc] 36) = V4 at *
  generalize v4.heap.size = z4 at *
  clear r0 r1 r2 r3 r4 r5 r6 r7 r8 r9 q0 q1 q2 q3 q4 q5 q6 q7 q8 q9
  have KS := same_any false _ _ _ _ _ (Nat.le_refl _) (by omega) _ _ _ _ _ X1.out X4.out
  rw [EQ1.out] at KS
  unfold nv at KS
  refine KS.mono ?_
  rintro _ v5 ⟨rfl, hb⟩
  have B5 := Lib.hid (B4.out.trans (hb.mono B4.out.size))
  clear hb KS
  clear X1 X4 C1 C4
  have hcell : (v5.alloc (.cells #[.string ⟨#[43]⟩, .string ⟨#[45]⟩, .string ⟨#[42]⟩, .string ⟨#[47]⟩, .string ⟨#[97, 110, 100]⟩, .string ⟨#[111, 114]⟩] 9)).cell? ⟨v5.heap.size, op % 6, none⟩ = some (.string sg) := by
    rw [cell_of_row _ _ _ _ _ _ (heap_alloc_new v5 _)]; exact SG.out
  have bR := (Below.refl _ v5).alloc (Nat.le_refl _) (.cells #[.string ⟨#[43]⟩, .string ⟨#[45]⟩, .string ⟨#[42]⟩, .string ⟨#[47]⟩, .string ⟨#[97, 110, 100]⟩, .string ⟨#[111, 114]⟩] 9)
  have B6 := Lib.hid (B5.out.trans (bR.mono B5.out.size))
  clear bR
  go_wp2_with fail
  generalize v5.alloc (.cells #[.string ⟨#[43]⟩, .string ⟨#[45]⟩, .string ⟨#[42]⟩, .string ⟨#[47]⟩, .string ⟨#[97, 110, 100]⟩, .string ⟨#[111, 114]⟩] 9) = V6 at *
  clear hcell
  refine (K5.out _).mono ?_
  rintro _ v7 ⟨⟨mo, ma, ms, mn, md, mf, mm, mr, my, mq, mk, mc⟩, at7, rfl, hx, hsz7, hb⟩
  unfold nv
  have bV := (Below.refl _ v7).alloc (Nat.le_refl _) (.cells #[.int .i64 mo, .int .i64 ma, .string ms, .int .i64 mn, .int .i64 md, .bool mf, .int .i64 mm, .int .i64 mr, .int .i64 my, .slice mq mk mc] 36)
  have hbV := hb.trans (bV.mono hb.size)
  have B7 := Lib.hid (B6.out.trans (hbV.mono B6.out.size))
  have X7 := Lib.hid (NodeA.bel bV _ _ hx)
  have C7 := Lib.hid (B10.new v7 (.int .i64 mo) (.int .i64 ma) (.string ms) (.int .i64 mn) (.int .i64 md) (.bool mf) (.int .i64 mm) (.int .i64 mr) (.int .i64 my) (.slice mq mk mc) 36)
  clear bV hbV hb hx
  go_wp2_with fail
  generalize v7.alloc (.cells #[.int .i64 mo, .int .i64 ma, .string ms, .int .i64 mn, .int .i64 md, .bool mf, .int .i64 mm, .int .i64 mr, .int .i64 my, .slice mq mk mc] 36) = V7 at *
  generalize v7.heap.size = z7 at *
  refine (K6.out _).mono ?_
  rintro _ v8 ⟨⟨no, na, ns, nn, nd, nf, nm, nr, ny, nq, nk, nc⟩, at8, rfl, hx, hsz8, hb⟩
  unfold nv
  have bV := (Below.refl _ v8).alloc (Nat.le_refl _) (.cells #[.int .i64 no, .int .i64 na, .string ns, .int .i64 nn, .int .i64 nd, .bool nf, .int .i64 nm, .int .i64 nr, .int .i64 ny, .slice nq nk nc] 36)
  have hbV := hb.trans (bV.mono hb.size)
  have B8 := Lib.hid (B7.out.trans (hbV.mono B7.out.size))
  have X8 := Lib.hid (NodeA.bel bV _ _ hx)
  have C8 := Lib.hid (B10.new v8 (.int .i64 no) (.int .i64 na) (.string ns) (.int .i64 nn) (.int .i64 nd) (.bool nf) (.int .i64 nm) (.int .i64 nr) (.int .i64 ny) (.slice nq nk nc) 36)
  replace X7 := Lib.hid (NodeA.bel hbV _ _ X7.out)
  replace C7 := Lib.hid (C7.out.bel hbV)
  clear bV hbV hb hx
  obtain ⟨r0, r1, r2, r3, r4, r5, r6, r7, r8, r9, -, -, -, -, -, -, -, -, -, -⟩ := C7.out
  obtain ⟨q0, q1, q2, q3, q4, q5, q6, q7, q8, q9, -, -, -, -, -, -, -, -, -, -⟩ := C8.out
  go_wp2_with fail
  generalize v8.alloc (.cells #[.int .i64 no, .int .i64 na, .string ns, .int .i64 nn, .int .i64 nd, .bool nf, .int .i64 nm, .int .i64 nr, .int .i64 ny, .slice nq nk nc] 36) = V8 at *
  generalize v8.heap.size = z8 at *
  clear r0 r1 r2 r3 r4 r5 r6 r7 r8 r9 q0 q1 q2 q3 q4 q5 q6 q7 q8 q9
  have KS := same_any false _ _ _ _ _ (Nat.le_refl _) (by omega) _ _ _ _ _ X7.out X8.out
  rw [EQ2.out] at KS
  unfold nv at KS
  refine KS.mono ?_
  rintro _ v9 ⟨rfl, hb⟩
  have B9 := Lib.hid (B8.out.trans (hb.mono B8.out.size))
  clear hb KS
  go_wp2_with fail
  go_ret
  exact ⟨rfl, B9.out⟩
set_option maxRecDepth 100000 in
set_option maxHeartbeats 2000000 in
theorem brackets_law (s0 s1 s2 : ByteArray) (op : Nat) (w : World) (h0 : s0.size ≤ 281474976710656) (h1 : s1.size ≤ 281474976710656) (h2 : s2.size ≤ 281474976710656) (hop : op < 256) : Calls Tryz.prog 7 #[.string s0, .string s1, .string s2, .int .u8 op] w fun e w' => e = .returned (.bool true) ∧ RowKit.Below w.heap.size w w' := by
  by_cases hl : s0.size + s1.size + s2.size ≤ 900
  · exact brackets_main s0 s1 s2 op w hl hop
  have d1 : decide ((900 : Int) < (s0.size : Int) + (s1.size : Int) + (s2.size : Int)) = true := decide_eq_true (by omega)
  clear hl
  go_enter Tryz.func7, Tryz.ntmps7
  go_wp2_with fail
  refine (head_any _).mono ?_
  rintro _ w0 ⟨rfl, hb⟩
  have B0 := Lib.hid hb
  clear hb
  go_wp2_with fail
  go_ret
  exact ⟨rfl, B0.out⟩
end Go.Proofs.YtedbpjcglnkjmaaGreatDoor
