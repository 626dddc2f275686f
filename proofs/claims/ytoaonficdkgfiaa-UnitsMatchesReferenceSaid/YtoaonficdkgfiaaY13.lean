/- Texts on units: UOf URk UIdx -/
import Derived.Test.YtoaonficdkgfiaaY12
namespace Go.Proofs.Ytoaonficdkgfiaa
open Go.RowKit Un MapKept

/-- What Of answers. -/
def OfV : Got → Value
 | .ok u => .tuple #[uV u, .int .i64 0, .int .i64 0]
 | .er E p => .tuple #[uV uNum, .int .i64 E, .int .i64 p]
theorem enter_of1 (args : Array Value) (w : World) : (callFunc 36 args).run Try.prog w = .ok (.enter 36 args) w := by kernel_rfl
theorem At2.heap {w w' : World} {r : Nat} {x y : Value} (h : At2 w r x y) (hb : w'.heap[r]? = w.heap[r]?) : At2 w' r x y :=
 ⟨(World.cell?_of_block (w := w) (a := ⟨r, 0, none⟩) hb).trans h.c0, (World.cell?_of_block (w := w) (a := ⟨r, 1, none⟩) hb).trans h.c1, (World.frozen?_of_block (w := w) (a := ⟨r, 0, none⟩) hb).trans h.f0, (World.frozen?_of_block (w := w) (a := ⟨r, 1, none⟩) hb).trans h.f1⟩
theorem Kept.at {b r : Nat} {w w1 : World} {l : List Value} (h : Kept b w w1) (hl : 0 < l.length) (hr : r ≠ b) (hx : BoxL w r l) : BoxL w1 r l := hx.of (h.block r (hx.lt hl) hr)
set_option maxRecDepth 100000 in
set_option maxHeartbeats 12000000 in
theorem uOf_any (L : List Dc) (t : Nd) (hn : nin t) (p : Option Addr) (b off c : Nat) (A : Nat → Prop) (x : Kd) (w : World) (hS : SlR w p b off L.length 8 (L.map dC)) (hx : NdM w A t x) :
  Calls Try.prog 13 #[.slice p L.length c, nV t x] w fun e w' => e = .returned (OfV (ofV vld L t)) ∧ RowKit.Below w.heap.size w w' := by
 have KV := Lib.hid (fun V h1 h2 => uValid_any L t hn p b off c A x V h1 h2)
 have KO : Hid (rightD L = true → form vld t = true → ∀ V sb nb ub, SlR V p b off L.length 8 (L.map dC) → NdM V A t x → V.cell? ⟨sb, 0, none⟩ = some (.slice p L.length c) → BoxL V nb (nC t x) → BoxL V ub [.bool false, .int .i64 0, .int .i64 0, .int .i64 0] → Calls Try.prog 36 #[.pointer (some ⟨sb, 0, none⟩), .pointer (some ⟨nb, 0, none⟩), .pointer (some ⟨ub, 0, none⟩)] V fun e w' => Of1 V ub (fnd (Un.facts L) t) e w') := fun h1 h2 V sb nb ub g1 g2 g3 g4 g5 => by
  simp only [rightD, Bool.and_eq_true, List.isEmpty_iff] at h1
  simp only [form, Bool.and_eq_true] at h2
  exact uOf1_any L t h1.1 h1.2 20 h2.1 p b off c A x sb nb ub V g1 g2 g3 g4 g5
 have HS := Lib.hid hS
 have HX := Lib.hid hx
 obtain ⟨R, hR⟩ : ∃ R, R = ofV vld L t := ⟨_, rfl⟩
 rw [← hR]
 have HR : Hid (R = if (rightD L && form vld t) = true then fnd (Un.facts L) t else .er 1 0) := hR
 clear hS hx hn hR
 generalize fnd (Un.facts L) t = G at *
 generalize form vld t = ex at *
 generalize rightD L = rd at *
 obtain ⟨op, pl, nm, n0, d0, ⟨uf, um, ua, ud⟩, ks⟩ := t
 obtain ⟨xq, xc⟩ := x
 simp only [nV, nC] at KV KO ⊢
 generalize bs nm = s at *
 obtain ⟨W1, hW1⟩ : ∃ W1, W1 = w.alloc (.cells #[.slice p L.length c] 22) := ⟨_, rfl⟩
 have a1 := (Below.refl w.heap.size w).alloc (Nat.le_refl _) (.cells #[.slice p L.length c] 22)
 have x1 : BoxL W1 w.heap.size [.slice p L.length c] := by rw [hW1]; exact box_new _ _ rfl
 rw [← hW1] at a1
 have s1 : W1.heap.size = w.heap.size + 1 := by rw [hW1]; simp
 obtain ⟨W2, hW2⟩ : ∃ W2, W2 = W1.alloc (.cells #[.int .i64 op, .int .i64 pl, .string s, .int .i64 n0, .int .i64 d0, .bool uf, .int .i64 um, .int .i64 ua, .int .i64 ud, .slice xq ks.length xc] 32) := ⟨_, rfl⟩
 have a2 := (Below.refl W1.heap.size W1).alloc (Nat.le_refl _) (.cells #[.int .i64 op, .int .i64 pl, .string s, .int .i64 n0, .int .i64 d0, .bool uf, .int .i64 um, .int .i64 ua, .int .i64 ud, .slice xq ks.length xc] 32)
 have x2 : BoxL W2 (w.heap.size + 1) [.int .i64 op, .int .i64 pl, .string s, .int .i64 n0, .int .i64 d0, .bool uf, .int .i64 um, .int .i64 ua, .int .i64 ud, .slice xq ks.length xc] := by rw [hW2]; exact box_new _ _ s1
 rw [← hW2] at a2
 have s2 : W2.heap.size = w.heap.size + 2 := by rw [hW2]; simp; omega
 obtain ⟨W3, hW3⟩ : ∃ W3, W3 = W2.alloc (.cells #[.bool false, .int .i64 0, .int .i64 0, .int .i64 0] 29) := ⟨_, rfl⟩
 have a3 := (Below.refl W2.heap.size W2).alloc (Nat.le_refl _) (.cells #[.bool false, .int .i64 0, .int .i64 0, .int .i64 0] 29)
 have x3 : BoxL W3 (w.heap.size + 2) [.bool false, .int .i64 0, .int .i64 0, .int .i64 0] := by rw [hW3]; exact box_new _ _ s2
 rw [← hW3] at a3
 have X1 := Lib.hid ((x1.bel (by simp) a2).bel (by simp) a3)
 have X2 := Lib.hid (x2.bel (by simp) a3)
 have X3 := Lib.hid x3
 have s3 : W3.heap.size = w.heap.size + 3 := by rw [hW3]; simp; omega
 have B3 := Lib.hid ((a1.trans (a2.mono (by omega))).trans (a3.mono (by omega)))
 have S3 := Lib.hid (HS.out.bel B3.out)
 have N3 := Lib.hid (HX.out.bel B3.out)
 clear x1 x2 x3 a1 a2 a3 s1 s2 HS HX
 obtain ⟨c0, c1, c2, c3, c4, c5, c6, c7, c8, c9⟩ := box10 X2.out
 obtain ⟨cs, -⟩ := X1.out 0 _ rfl
 go_enter Try.func13, Try.ntmps13
 go_wp2_with fail
 rw [← hW1, ← hW2, ← hW3]
 clear hW1 hW2 hW3
 refine (KV.out _ S3.out N3.out).mono ?_
 rintro _ V1 ⟨rfl, hb⟩
 have hsz := hb.size
 have B4 := Lib.hid (B3.out.trans (hb.mono B3.out.size))
 have S4 := Lib.hid (S3.out.bel hb)
 have N4 := Lib.hid (N3.out.bel hb)
 have Y1 := Lib.hid (X1.out.bel (by simp) hb)
 have Y2 := Lib.hid (X2.out.bel (by simp) hb)
 have Y3 := Lib.hid (X3.out.bel (by simp) hb)
 clear hb B3 S3 N3 X1 X2 X3 KV c0 c1 c2 c3 c4 c5 c6 c7 c8 c9 cs
 cases hv : (rd && ex) with
 | false =>
  have HR2 : Hid (R = .er 1 0) := by show _ = _; rw [HR.out, hv]; rfl
  clear hv
  obtain ⟨r0, r1, r2, r3, g0, g1, g2, g3⟩ := box4 Y3.out
  go_wp2_with fail
  exact bodyPost_ret (v := .tuple #[.agg #[.bool false, .int .i64 0, .int .i64 0, .int .i64 0], .int .i64 1, .int .i64 0]) (by simp [results, Try.results13, go_sem, r0, r1, r2, r3]) rfl ⟨by rw [HR2.out]; rfl, (by repeat' (first | (with_reducible exact B4.out) | (with_reducible refine Below.setCell ?_ ?_ _) | (with_reducible refine Below.alloc ?_ ?_ _) | (with_reducible refine Below.drew ?_) | (with_reducible refine below_drewN ?_ _) | (with_reducible exact Below.refl _ _) | omega | (simp; done) | (simp; omega)))⟩
 | true =>
  have HR2 : Hid (R = G) := by show _ = _; rw [HR.out, hv]; rfl
  simp only [Bool.and_eq_true] at hv
  have KO2 := Lib.hid (KO.out hv.1 hv.2)
  clear hv KO HR
  -- the unit's box
  have a5 := (Below.refl V1.heap.size V1).alloc (Nat.le_refl _) (.cells #[.bool false, .int .i64 0, .int .i64 0, .int .i64 0] 29)
  obtain ⟨ub, hub⟩ : ∃ ub, ub = V1.heap.size := ⟨_, rfl⟩
  have U5 : Hid (BoxL (V1.alloc (.cells #[.bool false, .int .i64 0, .int .i64 0, .int .i64 0] 29)) ub [.bool false, .int .i64 0, .int .i64 0, .int .i64 0]) := box_new _ _ hub.symm
  have B5 := Lib.hid (B4.out.trans (a5.mono B4.out.size))
  have S5 := Lib.hid (S4.out.bel a5)
  have N5 := Lib.hid (N4.out.bel a5)
  have Z1 := Lib.hid (Y1.out.bel (by simp) a5)
  have Z2 := Lib.hid (Y2.out.bel (by simp) a5)
  have Z3 := Lib.hid (Y3.out.bel (by simp) a5)
  have s5 : (V1.alloc (.cells #[.bool false, .int .i64 0, .int .i64 0, .int .i64 0] 29)).heap.size = ub + 1 := by simp [hub]
  clear a5 B4 S4 N4 Y1 Y2 Y3
  have hmf : ∀ (fn : Fn) (first cap : Array Value) (w : World), (Instr.makeFunc fn first cap).run Try.prog w = .ok (.func fn first cap) w := fun _ _ _ _ => rfl
  have KE : Hid (∀ V, Hid (BoxL V ub [.bool false, .int .i64 0, .int .i64 0, .int .i64 0]) → Hid (RowKit.Below w.heap.size w V) → SlR V p b off L.length 8 (L.map dC) → NdM V A (.mk op pl nm n0 d0 ⟨uf, um, ua, ud⟩ ks) ⟨xq, xc⟩ → BoxL V w.heap.size [.slice p L.length c] → BoxL V (w.heap.size + 1) [.int .i64 op, .int .i64 pl, .string s, .int .i64 n0, .int .i64 d0, .bool uf, .int .i64 um, .int .i64 ua, .int .i64 ud, .slice xq ks.length xc] → BoxL V (w.heap.size + 2) [.bool false, .int .i64 0, .int .i64 0, .int .i64 0] → V.heap.size = ub + 1 → w.heap.size + 3 ≤ ub →
   Calls Try.prog 35 #[.func (.func 36) #[] #[.pointer (some ⟨w.heap.size, 0, none⟩), .pointer (some ⟨w.heap.size + 1, 0, none⟩), .pointer (some ⟨ub, 0, none⟩)]] V fun e w' => (∃ E q, e = .returned (.agg #[.int .i64 q, .int .i64 E]) ∧ (match G with | .ok u => E = 0 ∧ q = 0 ∧ BoxL w' ub (uC u) | .er E' q' => E = E' ∧ q = q' ∧ BoxL w' ub [.bool false, .int .i64 0, .int .i64 0, .int .i64 0])) ∧ BoxL w' (w.heap.size + 2) [.bool false, .int .i64 0, .int .i64 0, .int .i64 0] ∧ RowKit.Below w.heap.size w w') := by
   intro V hU hB hS hN h1 h2 h3 hs hub3
   have bd := (Below.refl V.heap.size V).alloc (Nat.le_refl _) (.cells #[.int .i64 0, .int .i64 0] 66)
   have sd : (V.alloc (.cells #[.int .i64 0, .int .i64 0] 66)).heap.size = V.heap.size + 1 := by simp
   have ad := At2.new V (.int .i64 0) (.int .i64 0) 66
   obtain ⟨g1, -⟩ := h1 0 _ rfl
   have KQ := KO2.out (V.alloc (.cells #[.int .i64 0, .int .i64 0] 66)) w.heap.size (w.heap.size + 1) ub (hS.bel bd) (hN.bel bd) ((bd.cell (p := ⟨w.heap.size, 0, none⟩) (World.block_lt_of_cell? _ _ g1)).trans g1) (h2.bel (by simp) bd) (hU.out.bel (by simp) bd)
   have l2 := h3.lt (by simp)
   cases G with
   | ok u =>
    refine (uerrorOf_ok 36 _ enter_of1 (fun w' => BoxL w' ub (uC u) ∧ Kept ub V w') V (KQ.mono ?_)).mono ?_
    ·rintro e w' ⟨he, hx, hk⟩
     exact ⟨he, ad.heap (hk.block _ (by omega) (by omega)), hx, (Kept.of bd).trans hk⟩
    ·rintro e w' ⟨rfl, w2, ⟨hx, hk⟩, hk2⟩
     refine ⟨⟨0, 0, rfl, rfl, rfl, hk2.at (by simp [uC]) (by omega) hx⟩, hk2.at (by simp) (by omega) (hk.at (by simp) (by omega) h3), (hB.out.trans (hk.below (B := w.heap.size) (by omega) (by omega))).trans (hk2.below (B := w.heap.size) (by omega) (by have := hk.size; omega))⟩
   | er E q =>
    refine (uerrorOf_er 36 _ enter_of1 E q (fun w' => RowKit.Below V.heap.size V w') V (KQ.mono ?_)).mono ?_
    ·rintro e w' ⟨he, hk⟩
     exact ⟨he, ad.bel hk, bd.trans (hk.mono (by omega))⟩
    ·rintro e w' ⟨rfl, w2, hk, hk2⟩
     exact ⟨⟨E, q, rfl, rfl, rfl, hk2.at (by simp) (by omega) (hU.out.bel (by simp) hk)⟩, hk2.at (by simp) (by omega) (h3.bel (by simp) hk), (hB.out.trans (hk.mono (by omega))).trans (hk2.below (B := w.heap.size) (by omega) (by have := hk.size; omega))⟩
  go_wp2_with fail
  generalize V1.alloc (.cells #[.bool false, .int .i64 0, .int .i64 0, .int .i64 0] 29) = V5 at *
  subst hub
  generalize V1.heap.size = ub at *
  refine (KE.out V5 U5 B5 S5.out N5.out Z1.out Z2.out Z3.out s5 (by omega)).mono ?_
  rintro _ V6 ⟨⟨E, q, rfl, hG⟩, hz, hb⟩
  -- in both cases a unit lies in the box
  obtain ⟨⟨vf, vm, va, vd⟩, hu, hRv⟩ : ∃ u, BoxL V6 ub (uC u) ∧ OfV R = .tuple #[uV u, .int .i64 E, .int .i64 q] := by
   rw [HR2.out]
   cases G with
   | ok u => obtain ⟨rfl, rfl, hx⟩ := hG; exact ⟨u, hx, rfl⟩
   | er E' q' => obtain ⟨rfl, rfl, hx⟩ := hG; exact ⟨uNum, hx, rfl⟩
  have HRV := Lib.hid hRv
  simp only [uC] at hu
  have a7 := (Below.refl V6.heap.size V6).alloc (Nat.le_refl _) (.cells #[.int .i64 q, .int .i64 E] 66)
  have D7 := Lib.hid (box_new (w := V6) [.int .i64 q, .int .i64 E] 66 rfl)
  have U7 := Lib.hid (hu.bel (by simp) a7)
  have Z7 := Lib.hid (hz.bel (by simp) a7)
  have B7 := Lib.hid (hb.trans (a7.mono hb.size))
  have nd : V6.heap.size ≠ w.heap.size + 2 := by have := hz.lt (by simp); omega
  have nu : ub ≠ w.heap.size + 2 := by omega
  clear a7 hu hz hG hRv KE KO2 HR2 U5 B5 S5 N5 Z1 Z2 Z3
  obtain ⟨u0, u1, u2, u3, -⟩ := box4 U7.out
  obtain ⟨d0', -⟩ := D7.out 0 _ rfl
  obtain ⟨d1', -⟩ := D7.out 1 _ rfl
  obtain ⟨r0, r1, r2, r3, g0, g1, g2, g3⟩ := box4 Z7.out
  go_wp2_with fail
  generalize V6.alloc (.cells #[.int .i64 q, .int .i64 E] 66) = V7 at *
  generalize V6.heap.size = db at *
  have hS : V7.drew.cell? ⟨ub, 0, none⟩ = some (.bool vf) ∧ V7.drew.cell? ⟨ub, 1, none⟩ = some (.int .i64 vm) ∧ V7.drew.cell? ⟨ub, 2, none⟩ = some (.int .i64 va) ∧ V7.drew.cell? ⟨ub, 3, none⟩ = some (.int .i64 vd) ∧ V7.drew.cell? ⟨db, 0, none⟩ = some (.int .i64 q) ∧ V7.drew.cell? ⟨db, 1, none⟩ = some (.int .i64 E) := ⟨u0, u1, u2, u3, d0', d1'⟩
  refine wp_region_held (S := fun w' : World => w'.cell? ⟨ub, 0, none⟩ = some (.bool vf) ∧ w'.cell? ⟨ub, 1, none⟩ = some (.int .i64 vm) ∧ w'.cell? ⟨ub, 2, none⟩ = some (.int .i64 va) ∧ w'.cell? ⟨ub, 3, none⟩ = some (.int .i64 vd) ∧ w'.cell? ⟨db, 0, none⟩ = some (.int .i64 q) ∧ w'.cell? ⟨db, 1, none⟩ = some (.int .i64 E)) mixed ?_
  change wpAnyH _ _ _ _ _ _ _ _ V7.drew
  refine tk0 (v := ?_) (by kernel_rfl) (by kernel_rfl) (by kernel_rfl) (fun _ _ _ h => h) (Or.inl ⟨by rfl, ?_⟩) hS ?_
  rotate_left
  ·(intro w hSw; (try dsimp only at hSw); go_simp; try with_reducible rfl)
  simp only [Act.put, zA, zB, zC]
  refine tk1 (v := ?_) (by kernel_rfl) (by kernel_rfl) (by kernel_rfl) (fun _ _ _ h => h) (Or.inl ⟨by rfl, ?_⟩) hS ?_
  rotate_left
  ·(intro w hSw; (try dsimp only at hSw); go_simp; try with_reducible rfl)
  simp only [Act.put, zA, zB, zC]
  refine tk2 (v := ?_) (by kernel_rfl) (by kernel_rfl) (by kernel_rfl) (fun _ _ _ h => h) (Or.inl ⟨by rfl, ?_⟩) hS ?_
  rotate_left
  ·(intro w hSw; (try dsimp only at hSw); go_simp; try with_reducible rfl)
  simp only [Act.put, zA, zB, zC]
  refine tk3 (v := ?_) (by kernel_rfl) (by kernel_rfl) (by kernel_rfl) (fun _ _ _ h => h) (Or.inl ⟨by rfl, ?_⟩) hS ?_
  rotate_left
  ·(intro w hSw; (try dsimp only at hSw); go_simp; try with_reducible rfl)
  simp only [Act.put, zA, zB, zC]
  refine tk4 (v := ?_) (by kernel_rfl) (by kernel_rfl) (by kernel_rfl) (fun _ _ _ h => h) (Or.inl ⟨by rfl, ?_⟩) hS ?_
  rotate_left
  ·(intro w hSw; (try dsimp only at hSw); go_simp; try with_reducible rfl)
  simp only [Act.put, zA, zB, zC]
  refine wpAnyH_ready (rs := [5]) (by kernel_rfl) (by simp) (st5 (fun K hK => ?_) AllReadyH.nil)
  have o4 : ∀ {j bb : Nat} {v : Value}, V7.cell? ⟨bb, j, none⟩ = some v → bb ≠ w.heap.size + 2 → ((((V7.setCell ⟨w.heap.size + 2, 0, none⟩ (.bool vf)).setCell ⟨w.heap.size + 2, 1, none⟩ (.int .i64 vm)).setCell ⟨w.heap.size + 2, 2, none⟩ (.int .i64 va)).setCell ⟨w.heap.size + 2, 3, none⟩ (.int .i64 vd)).cell? ⟨bb, j, none⟩ = some v := fun h hn => cell_otn (cell_otn (cell_otn (cell_otn h hn 0 _) hn 1 _) hn 2 _) hn 3 _
  have HH := Lib.hid (show ((((V7.setCell ⟨w.heap.size + 2, 0, none⟩ (.bool vf)).setCell ⟨w.heap.size + 2, 1, none⟩ (.int .i64 vm)).setCell ⟨w.heap.size + 2, 2, none⟩ (.int .i64 va)).setCell ⟨w.heap.size + 2, 3, none⟩ (.int .i64 vd)).cell? ⟨ub, 0, none⟩ = some (.bool vf) ∧ ((((V7.setCell ⟨w.heap.size + 2, 0, none⟩ (.bool vf)).setCell ⟨w.heap.size + 2, 1, none⟩ (.int .i64 vm)).setCell ⟨w.heap.size + 2, 2, none⟩ (.int .i64 va)).setCell ⟨w.heap.size + 2, 3, none⟩ (.int .i64 vd)).cell? ⟨ub, 1, none⟩ = some (.int .i64 vm) ∧ ((((V7.setCell ⟨w.heap.size + 2, 0, none⟩ (.bool vf)).setCell ⟨w.heap.size + 2, 1, none⟩ (.int .i64 vm)).setCell ⟨w.heap.size + 2, 2, none⟩ (.int .i64 va)).setCell ⟨w.heap.size + 2, 3, none⟩ (.int .i64 vd)).cell? ⟨ub, 2, none⟩ = some (.int .i64 va) ∧ ((((V7.setCell ⟨w.heap.size + 2, 0, none⟩ (.bool vf)).setCell ⟨w.heap.size + 2, 1, none⟩ (.int .i64 vm)).setCell ⟨w.heap.size + 2, 2, none⟩ (.int .i64 va)).setCell ⟨w.heap.size + 2, 3, none⟩ (.int .i64 vd)).cell? ⟨ub, 3, none⟩ = some (.int .i64 vd) ∧ ((((V7.setCell ⟨w.heap.size + 2, 0, none⟩ (.bool vf)).setCell ⟨w.heap.size + 2, 1, none⟩ (.int .i64 vm)).setCell ⟨w.heap.size + 2, 2, none⟩ (.int .i64 va)).setCell ⟨w.heap.size + 2, 3, none⟩ (.int .i64 vd)).cell? ⟨db, 0, none⟩ = some (.int .i64 q) ∧ ((((V7.setCell ⟨w.heap.size + 2, 0, none⟩ (.bool vf)).setCell ⟨w.heap.size + 2, 1, none⟩ (.int .i64 vm)).setCell ⟨w.heap.size + 2, 2, none⟩ (.int .i64 va)).setCell ⟨w.heap.size + 2, 3, none⟩ (.int .i64 vd)).cell? ⟨db, 1, none⟩ = some (.int .i64 E) from ⟨o4 u0 nu, o4 u1 nu, o4 u2 nu, o4 u3 nu, o4 d0' nd, o4 d1' nd⟩)
  clear o4
  go_simp
  refine hK.out _ _ ?_ (fun hHeld => ?_)
  ·exact HH.out
  clear hK K
  try simp only [Act.put, zA, zB, zC]
  refine tk6 (v := ?_) (by kernel_rfl) (by kernel_rfl) (by kernel_rfl) (fun _ _ _ h => h) (Or.inl ⟨by rfl, ?_⟩) hHeld ?_
  rotate_left
  ·(intro w hSw; (try dsimp only at hSw); go_simp; try with_reducible rfl)
  simp only [Act.put, zA, zB, zC]
  refine tk7 (v := ?_) (by kernel_rfl) (by kernel_rfl) (by kernel_rfl) (fun _ _ _ h => h) (Or.inl ⟨by rfl, ?_⟩) hHeld ?_
  rotate_left
  ·(intro w hSw; (try dsimp only at hSw); go_simp; try with_reducible rfl)
  simp only [Act.put, zA, zB, zC]
  refine wpAnyH_done (by kernel_rfl) ?_ _
  go_wp2_with fail
  exact bodyPost_ret (v := .tuple #[.agg #[.bool vf, .int .i64 vm, .int .i64 va, .int .i64 vd], .int .i64 E, .int .i64 q]) (by simp [results, Try.results13, go_sem, r0, r1, r2, r3]) rfl ⟨by rw [HRV.out]; rfl, (by repeat' (first | (with_reducible exact B7.out) | (with_reducible refine Below.setCell ?_ ?_ _) | (with_reducible refine Below.alloc ?_ ?_ _) | (with_reducible refine Below.drew ?_) | (with_reducible refine below_drewN ?_ _) | (with_reducible exact Below.refl _ _) | omega | (simp; done) | (simp; omega)))⟩
end Go.Proofs.Ytoaonficdkgfiaa
namespace Go.Proofs.Ytoaonficdkgfiaa
open Go.RowKit Un MapKept

/-- A rule's cells. -/
def rC (r : Ru) (x y : Kd) : List Value := [.string (bs r.nm), .int .i64 r.ver, .int .i64 r.kind, .string (bs r.act), .int .i64 r.fr, .int .i64 r.un, .int .i64 r.known] ++ nC r.whn x ++ nC r.giv y ++ [.int .i64 r.pl]
/-- A list is a rule's cells. -/
structure RuC (r : Ru) (x y : Kd) (l : List Value) : Prop where
 len : l.length = 28
 f0 : l[0]? = some (.string (bs r.nm))
 f1 : l[1]? = some (.int .i64 r.ver)
 f2 : l[2]? = some (.int .i64 r.kind)
 f3 : l[3]? = some (.string (bs r.act))
 f4 : l[4]? = some (.int .i64 r.fr)
 f5 : l[5]? = some (.int .i64 r.un)
 f6 : l[6]? = some (.int .i64 r.known)
 wh : ∀ (j : Nat) (v : Value), (nC r.whn x)[j]? = some v → l[7 + j]? = some v
 gi : ∀ (j : Nat) (v : Value), (nC r.giv y)[j]? = some v → l[17 + j]? = some v
 f27 : l[27]? = some (.int .i64 r.pl)
 one : ∀ u ∈ l, u.oneCell' = true
theorem nC_one (t : Nd) (x : Kd) : ∀ u ∈ nC t x, u.oneCell' = true := by cases t; simp [nC, Value.oneCell']
theorem RuC.of (r : Ru) (x y : Kd) : RuC r x y (rC r x y) := by
 have h1 := nC_len r.whn x
 have h2 := nC_len r.giv y
 refine ⟨by simp [rC, h1, h2], rfl, rfl, rfl, rfl, rfl, rfl, rfl, fun j v hv => ?_, fun j v hv => ?_, ?_, fun u hu => ?_⟩
 ·have hj := (List.getElem?_eq_some_iff.1 hv).1
  unfold rC
  rw [List.append_assoc, List.append_assoc, List.getElem?_append_right (by simp), List.getElem?_append_left (by simpa using hj)]
  simpa using hv
 ·have hj := (List.getElem?_eq_some_iff.1 hv).1
  unfold rC
  rw [List.append_assoc, List.append_assoc, List.getElem?_append_right (by simp; omega), List.getElem?_append_right (by simp [h1]; omega), List.getElem?_append_left (by simp [h1]; omega)]
  simp only [List.length_cons, List.length_nil, h1]
  rw [show 17 + j - (0 + 1 + 1 + 1 + 1 + 1 + 1 + 1) - 10 = j by omega]
  exact hv
 ·unfold rC
  rw [List.getElem?_append_right (by simp [h1, h2])]
  simp [h1, h2]
 ·unfold rC at hu
  simp only [List.mem_append] at hu
  rcases hu with ((hu | hu) | hu) | hu
  ·simp at hu
   rcases hu with rfl | rfl | rfl | rfl | rfl | rfl | rfl <;> rfl
  ·exact nC_one _ _ u hu
  ·exact nC_one _ _ u hu
  ·simp at hu; subst hu; rfl
theorem gete {l : List Value} {i : Nat} {v : Value} (h : l[i]? = some v) : ∃ hi : i < l.length, l[i] = v := List.getElem?_eq_some_iff.1 h
/-- A rule's operands lie in memory. -/
def RuM (w : World) (A : Nat → Prop) (r : Ru) (x y : Kd) : Prop := NdM w A r.whn x ∧ NdM w A r.giv y
theorem RuM.bel {w w1 : World} {A : Nat → Prop} {r : Ru} {x y : Kd} (h : RuM w A r x y) (hB : RowKit.Below w.heap.size w w1) : RuM w1 A r x y := ⟨h.1.bel hB, h.2.bel hB⟩
set_option maxRecDepth 100000 in
set_option maxHeartbeats 4000000 in
theorem uisTimed_any (r : Ru) (x y : Kd) (l : List Value) (hr : RuC r x y l) (w : World) : Calls Try.prog 84 #[.agg l.toArray] w fun e w' => e = .returned (.bool (timed r)) ∧ RowKit.Below w.heap.size w w' := by
 have HB := Lib.hid (Below.refl w.heap.size w)
 obtain ⟨R, hR⟩ : ∃ R, R = timed r := ⟨_, rfl⟩
 rw [← hR]
 have HR : Hid (R = (decide (1 ≤ r.ver) && decide (r.ver ≤ 999) && decide (0 ≤ r.fr) && decide (r.fr < r.un) && decide (r.un ≤ 36525) && decide (0 ≤ r.known) && decide (r.known ≤ 36524))) := hR
 obtain ⟨i1, e1⟩ := gete hr.f1
 obtain ⟨i4, e4⟩ := gete hr.f4
 obtain ⟨i5, e5⟩ := gete hr.f5
 obtain ⟨i6, e6⟩ := gete hr.f6
 have hl := hr.len
 obtain ⟨nm, ver, kind, act, fr, un, known, wh, gi, pl⟩ := r
 simp only at e1 e4 e5 e6 HR
 clear hr hR
 go_enter Try.func84, Try.ntmps84
 go_wp2_with fail
 all_goals
  go_ret
  refine ⟨ret_bool ?_, (by repeat' (first | (with_reducible exact HB.out) | (with_reducible refine Below.setCell ?_ ?_ _) | (with_reducible refine Below.alloc ?_ ?_ _) | (with_reducible refine Below.drew ?_) | (with_reducible refine below_drewN ?_ _) | (with_reducible exact Below.refl _ _) | omega | (simp; done) | (simp; omega)))⟩
  rw [HR.out, Bool.eq_iff_iff]
  simp only [Bool.and_eq_true, decide_eq_true_eq] at *
  first | omega | (simp_all; done) | (simp_all; omega)
theorem uhasAct_any (k : Int) (w : World) : Calls Try.prog 97 #[.int .i64 k] w fun e w' => e = .returned (.bool (hasAct k)) ∧ w' = w := by
 obtain ⟨R, hR⟩ : ∃ R, R = hasAct k := ⟨_, rfl⟩
 rw [← hR]
 have HR := Lib.hid hR
 clear hR
 go_enter Try.func97, Try.ntmps97
 go_wp2_with fail
 all_goals
  go_ret
  refine ⟨ret_bool ?_, rfl⟩
  rw [HR.out]
  simp_all [hasAct]
set_option maxRecDepth 100000 in
set_option maxHeartbeats 4000000 in
theorem uisNothing_any (t : Nd) (x : Kd) (w : World) : Calls Try.prog 98 #[nV t x] w fun e w' => e = .returned (.bool (isNothing t)) ∧ RowKit.Below w.heap.size w w' := by
 have HB := Lib.hid (Below.refl w.heap.size w)
 obtain ⟨R, hR⟩ : ∃ R, R = isNothing t := ⟨_, rfl⟩
 rw [← hR]
 obtain ⟨op, pl, nm, n0, d0, ⟨uf, um, ua, ud⟩, ks⟩ := t
 obtain ⟨xq, xc⟩ := x
 have HR : Hid (R = (decide (op = 1) && decide (n0 = 0) && ((⟨uf, um, ua, ud⟩ : U) == uNum))) := hR
 clear hR
 simp only [nV, nC]
 cases uf with
 | true =>
  go_enter Try.func98, Try.ntmps98
  go_wp2_with fail
  all_goals
   go_ret
   refine ⟨ret_bool ?_, (by repeat' (first | (with_reducible exact HB.out) | (with_reducible refine Below.setCell ?_ ?_ _) | (with_reducible refine Below.alloc ?_ ?_ _) | (with_reducible refine Below.drew ?_) | (with_reducible refine below_drewN ?_ _) | (with_reducible exact Below.refl _ _) | omega | (simp; done) | (simp; omega)))⟩
   rw [HR.out]
   simp_all [uNum]
 | false =>
  go_enter Try.func98, Try.ntmps98
  go_wp2_with fail
  all_goals
   go_ret
   refine ⟨ret_bool ?_, (by repeat' (first | (with_reducible exact HB.out) | (with_reducible refine Below.setCell ?_ ?_ _) | (with_reducible refine Below.alloc ?_ ?_ _) | (with_reducible refine Below.drew ?_) | (with_reducible refine below_drewN ?_ _) | (with_reducible exact Below.refl _ _) | omega | (simp; done) | (simp; omega)))⟩
   rw [HR.out]
   simp_all [uNum]
end Go.Proofs.Ytoaonficdkgfiaa
namespace Go.Proofs.Ytoaonficdkgfiaa
open Go.RowKit Un MapKept

theorem load_rowAt (T n : Nat) (hu : (Try.prog.underlying T).map (fun d => match d with | .struct _ | .array _ _ => true | _ => false) = some true) (hi : (Try.prog.info? T).map (·.size) = some n) (w : World) (b o : Nat) (l : List Value) (hl : l.length = n) (h : ∀ j v, l[j]? = some v → w.cell? ⟨b, o + j, none⟩ = some v) : (Instr.loadAt T (.pointer (some ⟨b, o, none⟩))).run Try.prog w = .ok (.agg l.toArray) w := by
 have hc : (loadCells ⟨b, o, none⟩ l.length).run Try.prog w = .ok l.toArray w := run_loadCells_list (P := Try.prog) w ⟨b, o, none⟩ l (fun j v hv => by
   have hadd : (⟨b, o, none⟩ : Addr).add j = ⟨b, o + j, none⟩ := by unfold Addr.add; split <;> simp_all
   rw [hadd]; exact h j v hv)
 obtain ⟨d, hd, hd2⟩ := Option.map_eq_some_iff.1 hu
 obtain ⟨i, hi1, hi2⟩ := Option.map_eq_some_iff.1 hi
 subst hl
 have hagg : (isAgg T).run Try.prog w = .ok true w := by
  unfold isAgg
  rw [Sem.run_bind, run_underlying hd w]
  cases d <;> simp_all
 simp [Instr.loadAt, Instr.sureAddr, loadVar, Sem.run_bind, hagg, sizeOf, typeInfo, hi1, hi2, hc]
theorem load_rule (w : World) (b o : Nat) (l : List Value) (hl : l.length = 28) (h : ∀ j v, l[j]? = some v → w.cell? ⟨b, o + j, none⟩ = some v) : (Instr.loadAt 58 (.pointer (some ⟨b, o, none⟩))).run Try.prog w = .ok (.agg l.toArray) w :=
 load_rowAt 58 28 (by kernel_rfl) (by kernel_rfl) w b o l hl h
set_option maxRecDepth 100000 in
set_option maxHeartbeats 4000000 in
theorem indexF (F : FuncId) (hE : ∀ (args : Array Value) (w : World), (callFunc F args).run Try.prog w = .ok (.enter F args) w) (fv : Value) (rows : List (List Value)) (pr : List Bool) (hpr : pr.length = rows.length) (p : Option Addr) (b off c : Nat) (w : World) (hS : SlR w p b off rows.length 28 rows)
  (KF : ∀ (i : Nat) (h : i < rows.length) (h' : i < pr.length) (V : World), RowKit.Below w.heap.size w V → Calls Try.prog F #[.agg rows[i].toArray, fv] V fun e w' => e = .returned (.bool pr[i]) ∧ RowKit.Below V.heap.size V w') :
  Calls Try.prog 103 #[.slice p rows.length c, .func (.func F) #[] #[fv]] w fun e w' => ∃ k : Int, e = .returned (.int .i64 k) ∧ (0 ≤ k ↔ pr.any id = true) ∧ RowKit.Below w.heap.size w w' := by
 have HB := Lib.hid (Below.refl w.heap.size w)
 have HS := Lib.hid hS
 have KQ := Lib.hid KF
 have hmax := hS.max
 obtain ⟨R, hR⟩ : ∃ R, R = pr.any id := ⟨_, rfl⟩
 rw [← hR]
 have HR := Lib.hid hR
 clear hS KF hR
 go_enter Try.func103, Try.ntmps103
 go_wp2_with fail
 go_loopg [8] rows.length (fun g v8 wr => ∃ i : Nat, i ≤ rows.length ∧ rows.length - i ≤ g ∧ v8 = .int .i64 i ∧ Hid ((pr.take i).any id = false) ∧ Hid (RowKit.Below w.heap.size w wr))
 case atStart => exact ⟨0, Nat.zero_le _, by omega, by simp, by show _ = _; simp, HB⟩
 case round =>
  obtain ⟨i, hi, hg, rfl, HM, HW⟩ := hrel
  by_cases hlt : i < rows.length
  ·have hz : (i : Int) < (rows.length : Int) := by omega
   have hq := HS.out.ptr (by omega)
   subst hq
   have hr := (HS.out.bel HW.out).at_ i rows[i] (List.getElem?_eq_getElem hlt)
   have hld := load_rule wr b (off + i * 28) rows[i] hr.1 hr.2
   have KC := Lib.hid (KQ.out i hlt (by omega) wr HW.out)
   have htk : pr.take (i + 1) = pr.take i ++ [pr[i]'(by omega)] := List.take_succ_eq_append_getElem (by omega)
   have E3 : Hid ((pr.take (i + 1)).any id = pr[i]'(by omega)) := by show _ = _; rw [htk, List.any_append, HM.out]; simp
   have E4 : Hid (pr[i]'(by omega) = true → R = true) := fun h => by rw [HR.out]; exact List.any_eq_true.2 ⟨_, List.getElem_mem (by omega), h⟩
   clear hr htk
   obtain ⟨x, hx⟩ : ∃ x, x = pr[i]'(by omega) := ⟨_, rfl⟩
   rw [← hx] at KC E3 E4
   clear hx
   generalize rows[i] = l at *
   have e2 : IntKind.i64.wrap ((i : Int) + 1) = ((i + 1 : Nat) : Int) := by rw [IntWalk.i64_in _ (by omega)]; rfl
   go_wp2_with ((with_reducible show wpList _ _ _ ({ dst := some 15, op := _, type := _, pos := _, after := _, guard := _ } :: _) _ _); refine wl_loadP rfl rfl rfl hld ?_)
   refine KC.out.mono ?_
   rintro _ v ⟨rfl, hb⟩
   have HW3 := Lib.hid (HW.out.trans (hb.mono HW.out.size))
   clear hb KC hld
   cases x with
   | true =>
    go_wp2_with fail
    go_ret
    exact ⟨i, rfl, ⟨fun _ => E4.out trivial, fun _ => by omega⟩, HW3.out⟩
   | false =>
    go_wp2_with fail
    go_roundg (rows.length - (i + 1))
    case measure => omega
    case rel => exact ⟨i + 1, by omega, Nat.le_refl _, by simp, E3, HW3⟩
  ·have hz : ¬ (i : Int) < (rows.length : Int) := by omega
   have hie : i = rows.length := by omega
   subst hie
   go_wp2_with fail
   go_ret
   refine ⟨-1, rfl, ⟨fun h => absurd h (by omega), fun h => ?_⟩, HW.out⟩
   have := HM.out
   rw [← hpr, List.take_length, ← HR.out, h] at this
   cases this
set_option maxRecDepth 100000 in
set_option maxHeartbeats 4000000 in
theorem containsF (F : FuncId) (hE : ∀ (args : Array Value) (w : World), (callFunc F args).run Try.prog w = .ok (.enter F args) w) (fv : Value) (rows : List (List Value)) (pr : List Bool) (hpr : pr.length = rows.length) (p : Option Addr) (b off c : Nat) (w : World) (hS : SlR w p b off rows.length 28 rows)
  (KF : ∀ (i : Nat) (h : i < rows.length) (h' : i < pr.length) (V : World), RowKit.Below w.heap.size w V → Calls Try.prog F #[.agg rows[i].toArray, fv] V fun e w' => e = .returned (.bool pr[i]) ∧ RowKit.Below V.heap.size V w') :
  Calls Try.prog 94 #[.slice p rows.length c, .func (.func F) #[] #[fv]] w fun e w' => e = .returned (.bool (pr.any id)) ∧ RowKit.Below w.heap.size w w' := by
 have KI := Lib.hid (indexF F hE fv rows pr hpr p b off c w hS KF)
 clear hS KF
 generalize pr.any id = R at *
 go_enter Try.func94, Try.ntmps94
 go_wp2_with fail
 refine KI.out.mono ?_
 rintro _ v ⟨k, rfl, hk, hb⟩
 have HB := Lib.hid hb
 clear hb KI
 have HK : Hid (decide (0 ≤ k) = R) := by show _ = _; rw [Bool.eq_iff_iff, decide_eq_true_eq]; exact hk
 clear hk
 by_cases h0 : 0 ≤ k
 ·go_wp2_with fail
  go_ret
  exact ⟨ret_bool (by rw [← HK.out, decide_eq_true h0]), HB.out⟩
 ·go_wp2_with fail
  go_ret
  exact ⟨ret_bool (by rw [← HK.out, decide_eq_false (by omega)]), HB.out⟩
/-- The closure that asks for a version. -/
theorem twice1 (r v : Ru) (x y xv yv : Kd) (l lv : List Value) (hr : RuC r x y l) (hv : RuC v xv yv lv) (ub : Nat) (w : World) (hb : BoxL w ub l) :
  Calls Try.prog 95 #[.agg lv.toArray, .pointer (some ⟨ub, 0, none⟩)] w fun e w' => e = .returned (.bool (v.ver == r.ver)) ∧ RowKit.Below w.heap.size w w' := by
 obtain ⟨i1, e1⟩ := gete hv.f1
 have A1 := (Below.refl w.heap.size w).alloc (Nat.le_refl _) (.cells lv.toArray 58)
 have c1 := (hb.bel (by rw [hr.len]; omega) A1 1 _ hr.f1).1
 have HB := Lib.hid A1
 have hl := hv.len
 generalize r.ver = a at *
 generalize v.ver = d at *
 clear A1 hb hr hv
 go_enter Try.func95, Try.ntmps95
 go_wp2_with fail
 go_ret
 exact ⟨rfl, HB.out⟩
theorem about1 (r v : Ru) (x y xv yv : Kd) (l lv : List Value) (hr : RuC r x y l) (hv : RuC v xv yv lv) (ub : Nat) (w : World) (hb : BoxL w ub l) :
  Calls Try.prog 96 #[.agg lv.toArray, .pointer (some ⟨ub, 0, none⟩)] w fun e w' => e = .returned (.bool (v.kind != r.kind || !(v.act == r.act))) ∧ RowKit.Below w.heap.size w w' := by
 obtain ⟨i2, e2⟩ := gete hv.f2
 obtain ⟨i3, e3⟩ := gete hv.f3
 have A1 := (Below.refl w.heap.size w).alloc (Nat.le_refl _) (.cells lv.toArray 58)
 have c2 := (hb.bel (by rw [hr.len]; omega) A1 2 _ hr.f2).1
 have c3 := (hb.bel (by rw [hr.len]; omega) A1 3 _ hr.f3).1
 have HB := Lib.hid A1
 have hl := hv.len
 have e0 : ((bs v.act).toList == (bs r.act).toList) = (v.act == r.act) := by rw [bs_list, bs_list]
 generalize (v.act == r.act) = E at *
 generalize bs r.act = s1 at *
 generalize bs v.act = s2 at *
 generalize r.kind = a at *
 generalize v.kind = d at *
 clear A1 hb hr hv
 by_cases hk : d = a
 ·subst hk
  go_enter Try.func96, Try.ntmps96
  go_wp2_with fail
  go_ret
  exact ⟨ret_bool (by simp), HB.out⟩
 ·have hkb : (d == a) = false := by simpa using hk
  go_enter Try.func96, Try.ntmps96
  go_wp2_with fail
  go_ret
  exact ⟨ret_bool (by simp [hk]), HB.out⟩
end Go.Proofs.Ytoaonficdkgfiaa
