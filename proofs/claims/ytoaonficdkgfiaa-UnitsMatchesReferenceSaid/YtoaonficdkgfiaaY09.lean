/- Texts on units: UPrd -/
import Derived.Test.YtoaonficdkgfiaaY08
namespace Go.Proofs.Ytoaonficdkgfiaa
open Go.RowKit Un

theorem w64 {x : Int} (h1 : -1000 ≤ x) (h2 : x ≤ 1000) : IntKind.i64.wrap x = x := IntWalk.i64_in _ (by omega)
def sU (u : U) : Prop := -3 ≤ u.m ∧ u.m ≤ 3 ∧ -3 ≤ u.a ∧ u.a ≤ 3 ∧ -3 ≤ u.d ∧ u.d ≤ 3
theorem cell_oth {w : World} {pb r : Nat} {v : Value} (h : w.cell? ⟨pb, 0, none⟩ = some v) (hr : pb ≠ r) (o : Nat) (y : Value) : (w.setCell ⟨r, o, none⟩ y).cell? ⟨pb, 0, none⟩ = some v := (World.cell?_of_block (w := w) (a := ⟨pb, 0, none⟩) (Below.heap_setCell _ _ _ _ hr)).trans h
theorem cell_otn {w : World} {pb r j : Nat} {v : Value} (h : w.cell? ⟨pb, j, none⟩ = some v) (hr : pb ≠ r) (o : Nat) (y : Value) : (w.setCell ⟨r, o, none⟩ y).cell? ⟨pb, j, none⟩ = some v := (World.cell?_of_block (w := w) (a := ⟨pb, j, none⟩) (Below.heap_setCell _ _ _ _ hr)).trans h
theorem slr_new3 (w : World) (T : Nat) (x y z : Int) (n : Nat) (hn : w.heap.size = n) : SlR (w.alloc (.cells #[.int .i64 x, .int .i64 y, .int .i64 z] T)) (some ⟨n, 0, none⟩) n 0 3 1 [[.int .i64 x], [.int .i64 y], [.int .i64 z]] := by
 subst hn
 refine ⟨rfl, fun _ => rfl, fun i r hr => ?_, fun _ => by simp, by omega⟩
 match i, hr with
 | 0, hr => cases hr; exact ⟨rfl, fun j v hv => by cases j with | zero => cases hv; simp | succ j => simp at hv⟩
 | 1, hr => cases hr; exact ⟨rfl, fun j v hv => by cases j with | zero => cases hv; simp | succ j => simp at hv⟩
 | 2, hr => cases hr; exact ⟨rfl, fun j v hv => by cases j with | zero => cases hv; simp | succ j => simp at hv⟩
 | i + 3, hr => simp at hr
theorem BoxL.oth {w : World} {b r : Nat} {l : List Value} (h : BoxL w b l) (hr : b ≠ r) (o : Nat) (y : Value) : BoxL (w.setCell ⟨r, o, none⟩ y) b l := h.other hr o y
set_option maxRecDepth 100000 in
set_option maxHeartbeats 8000000 in
theorem opProduct (s : Int) (u v : U) (b off c pb : Nat) (w : World) (hu : sU u) (hv : sU v) (hs : s = 1 ∨ s = -1) (h2 : U2 w b off u v) (hp : w.cell? ⟨pb, 0, none⟩ = some (.int .i64 s)) :
  Calls Try.prog 90 #[.slice (some ⟨b, off, none⟩) 2 c, .pointer (some ⟨pb, 0, none⟩)] w fun e w' => e = .returned (.tuple #[uV (mulU s u v), .bool (!u.f && !v.f && (expo (mulU s u v).m && (expo (mulU s u v).a && expo (mulU s u v).d)))]) ∧ RowKit.Below w.heap.size w w' := by
 have NB : b < w.heap.size := h2.lt
 have NP : pb < w.heap.size := World.block_lt_of_cell? _ _ hp
 obtain ⟨W1, hW1⟩ : ∃ W1, W1 = w.alloc (.cells #[.bool false, .int .i64 0, .int .i64 0, .int .i64 0] 29) := ⟨_, rfl⟩
 have B1 := Lib.hid ((Below.refl w.heap.size w).alloc (Nat.le_refl _) (.cells #[.bool false, .int .i64 0, .int .i64 0, .int .i64 0] 29))
 have X1 := Lib.hid (BoxL.new w [.bool false, .int .i64 0, .int .i64 0, .int .i64 0] 29)
 rw [← hW1] at B1
 have X1' : Hid (BoxL W1 w.heap.size [.bool false, .int .i64 0, .int .i64 0, .int .i64 0]) := by rw [hW1]; exact X1.out
 have hs1 : W1.heap.size = w.heap.size + 1 := by rw [hW1]; simp
 clear X1
 have M1 := Lib.hid (h2.bel B1.out)
 have P1 : Hid (W1.cell? ⟨pb, 0, none⟩ = some (.int .i64 s)) := (B1.out.cell (p := ⟨pb, 0, none⟩) NP).trans hp
 have HQ : Hid ((mulU s u v) = ⟨false, u.m + s * v.m, u.a + s * v.a, u.d + s * v.d⟩) := rfl
 obtain ⟨uf, um, ua, ud⟩ := u
 obtain ⟨vf, vm, va, vd⟩ := v
 obtain ⟨u1, u2, u3, u4, u5, u6⟩ := hu
 obtain ⟨v1, v2, v3, v4, v5, v6⟩ := hv
 simp only at HQ u1 u2 u3 u4 u5 u6 v1 v2 v3 v4 v5 v6 ⊢
 rw [HQ.out]
 simp only
 have ma : ∃ sm, sm = s * vm ∧ -3 ≤ sm ∧ sm ≤ 3 := by rcases hs with rfl | rfl <;> exact ⟨_, rfl, by omega, by omega⟩
 have mb : ∃ sm, sm = s * va ∧ -3 ≤ sm ∧ sm ≤ 3 := by rcases hs with rfl | rfl <;> exact ⟨_, rfl, by omega, by omega⟩
 have mc : ∃ sm, sm = s * vd ∧ -3 ≤ sm ∧ sm ≤ 3 := by rcases hs with rfl | rfl <;> exact ⟨_, rfl, by omega, by omega⟩
 obtain ⟨sm, hsm, sm1, sm2⟩ := ma
 obtain ⟨sa, hsa, sa1, sa2⟩ := mb
 obtain ⟨sd, hsd, sd1, sd2⟩ := mc
 rw [← hsm, ← hsa, ← hsd]
 have ew1 : IntKind.i64.wrap (s * vm) = sm := by rw [← hsm]; exact w64 (by omega) (by omega)
 have ew2 : IntKind.i64.wrap (s * va) = sa := by rw [← hsa]; exact w64 (by omega) (by omega)
 have ew3 : IntKind.i64.wrap (s * vd) = sd := by rw [← hsd]; exact w64 (by omega) (by omega)
 obtain ⟨x, hx⟩ : ∃ x, x = um + sm := ⟨_, rfl⟩
 obtain ⟨y, hy⟩ : ∃ y, y = ua + sa := ⟨_, rfl⟩
 obtain ⟨z, hz⟩ : ∃ z, z = ud + sd := ⟨_, rfl⟩
 rw [← hx, ← hy, ← hz]
 have ew4 : IntKind.i64.wrap (um + sm) = x := by rw [← hx]; exact w64 (by omega) (by omega)
 have ew5 : IntKind.i64.wrap (ua + sa) = y := by rw [← hy]; exact w64 (by omega) (by omega)
 have ew6 : IntKind.i64.wrap (ud + sd) = z := by rw [← hz]; exact w64 (by omega) (by omega)
 have KE : Hid (∀ (w : World) (p : Option Addr) (b off c : Nat), SlR w p b off 3 1 [[.int .i64 x], [.int .i64 y], [.int .i64 z]] → Calls Try.prog 91 #[.slice p 3 c] w fun e w' => e = .returned (.bool ([x, y, z].all expo)) ∧ w' = w) := fun w p b off c hS => uareExps_any [x, y, z] p b off c w hS
 have HX : Hid ((expo x && (expo y && expo z)) = [x, y, z].all expo) := by show _ = _; simp
 rw [HX.out]
 clear u1 u2 u3 u4 u5 u6 v1 v2 v3 v4 v5 v6 hsm hsa hsd sm1 sm2 sa1 sa2 sd1 sd2 hx hy hz hs h2 hp HQ HX
 generalize hE : [x, y, z].all expo = E at *
 clear hE
 obtain ⟨a0, a1, a2, a3, b0, b1, b2, b3⟩ := M1.out
 simp only at a0 a1 a2 a3 b0 b1 b2 b3
 go_enter Try.func90, Try.ntmps90
 go_wp2_with fail
 rw [← hW1]
 clear hW1
 rename_i K0 hK0
 have REST : Hid (∀ b5 b6 : Nat, ∀ V : World, b5 ≠ b6 → w.heap.size < b5 → w.heap.size < b6 → Hid (BoxL V b5 [.bool uf, .int .i64 um, .int .i64 ua, .int .i64 ud]) → Hid (BoxL V b6 [.bool vf, .int .i64 vm, .int .i64 va, .int .i64 vd]) → Hid (BoxL V w.heap.size [.bool false, .int .i64 0, .int .i64 0, .int .i64 0]) → Hid (V.cell? ⟨pb, 0, none⟩ = some (.int .i64 s)) → Hid (RowKit.Below w.heap.size w V) → K0 { tmps := #[.slice (some ⟨b, off, none⟩) 2 c, .pointer (some ⟨pb, 0, none⟩), undef, .pointer (some ⟨w.heap.size, 0, none⟩), .bool false, .pointer (some ⟨b5, 0, none⟩), .pointer (some ⟨b6, 0, none⟩), undef, .slice (some ⟨b, off, none⟩) 2 c, .pointer (some ⟨b, off, none⟩), .agg #[.bool uf, .int .i64 um, .int .i64 ua, .int .i64 ud], .slice (some ⟨b, off, none⟩) 2 c, .pointer (some ⟨b, off + 4, none⟩), .agg #[.bool vf, .int .i64 vm, .int .i64 va, .int .i64 vd], undef, undef, undef, undef, undef, undef, undef, undef, undef, undef, undef, undef, undef, undef, undef, undef, undef, undef, undef, undef, undef, undef, undef, undef, undef, undef, undef, undef, undef, undef, undef, undef, undef, undef, undef, undef, undef, undef, undef, undef, undef], defers := [] } V) := by
  intro b5 b6 V n56 n5 n6 X5 X6 X3 P2 B2
  refine hK0 _ _ ?_
  clear hK0 a0 a1 a2 a3 b0 b1 b2 b3 B1 X1' M1 P1 hs1
  obtain ⟨c0, c1, c2, c3, g0, g1, g2, g3⟩ := box4 X5.out
  obtain ⟨d0, d1, d2, d3, k0, k1, k2, k3⟩ := box4 X6.out
  have hp := P2.out
  go_wp2_with fail
  have X7 := Lib.hid (BoxL.new V [.bool false, .int .i64 x, .int .i64 y, .int .i64 z] 29)
  have A1 := (Below.refl V.heap.size V).alloc (Nat.le_refl _) (.cells #[.bool false, .int .i64 x, .int .i64 y, .int .i64 z] 29)
  have Y5 := Lib.hid (X5.out.bel (by simp) A1)
  have Y6 := Lib.hid (X6.out.bel (by simp) A1)
  have Y3 := Lib.hid (X3.out.bel (by simp) A1)
  have l3 := X3.out.lt (by simp)
  have BB := Lib.hid (B2.out.trans (A1.mono B2.out.size))
  clear A1 X5 X6 X3 P2 B2 c0 c1 c2 c3 g0 g1 g2 g3 d0 d1 d2 d3 k0 k1 k2 k3 hp ew1 ew2 ew3 ew4 ew5 ew6
  have hv1 : (V.alloc (.cells #[.bool false, .int .i64 x, .int .i64 y, .int .i64 z] 29)).heap.size = V.heap.size + 1 := by simp
  generalize V.alloc (.cells #[.bool false, .int .i64 x, .int .i64 y, .int .i64 z] 29) = V2 at *
  generalize V.heap.size = n7 at *
  have N7 : n7 ≠ w.heap.size := by omega
  have N5 : b5 ≠ w.heap.size := by omega
  have N6 : b6 ≠ w.heap.size := by omega
  have Y5d := Y5.out.bel (by simp) (Below.refl V2.heap.size V2).drew
  have Y6d := Y6.out.bel (by simp) (Below.refl V2.heap.size V2).drew
  have Y7d := X7.out.bel (by simp) (Below.refl V2.heap.size V2).drew
  have Y3d := Lib.hid (Y3.out.bel (by simp) (Below.refl V2.heap.size V2).drew)
  have BBd := Lib.hid BB.out.drew
  have hv1d : V2.drew.heap.size = n7 + 1 := hv1
  cases uf with
  | true =>
   have hS : V2.drew.cell? ⟨n7, 0, none⟩ = some (.bool false) ∧ V2.drew.cell? ⟨n7, 1, none⟩ = some (.int .i64 x) ∧ V2.drew.cell? ⟨n7, 2, none⟩ = some (.int .i64 y) ∧ V2.drew.cell? ⟨n7, 3, none⟩ = some (.int .i64 z) ∧ V2.drew.cell? ⟨b5, 0, none⟩ = some (.bool true) ∧ V2.drew.cell? ⟨b6, 0, none⟩ = some (.bool vf) := ⟨(Y7d 0 _ rfl).1, (Y7d 1 _ rfl).1, (Y7d 2 _ rfl).1, (Y7d 3 _ rfl).1, (Y5d 0 _ rfl).1, (Y6d 0 _ rfl).1⟩
   refine wp_region_held (S := fun w' : World => w'.cell? ⟨n7, 0, none⟩ = some (.bool false) ∧ w'.cell? ⟨n7, 1, none⟩ = some (.int .i64 x) ∧ w'.cell? ⟨n7, 2, none⟩ = some (.int .i64 y) ∧ w'.cell? ⟨n7, 3, none⟩ = some (.int .i64 z) ∧ w'.cell? ⟨b5, 0, none⟩ = some (.bool true) ∧ w'.cell? ⟨b6, 0, none⟩ = some (.bool vf)) mixed ?_
   change wpAnyH _ _ _ _ _ _ _ _ V2.drew
   have HHS := Lib.hid hS
   refine tk0 (v := ?_) (by kernel_rfl) (by kernel_rfl) (by kernel_rfl) (fun _ _ _ h => h) (Or.inl ⟨by rfl, ?_⟩) hS ?_
   rotate_left
   ·(intro w hSw; (try dsimp only at hSw); go_simp; try with_reducible rfl)
   simp only [Act.put, zA, zB, zC]
   refine tk1 (v := ?_) (by kernel_rfl) (by kernel_rfl) (by kernel_rfl) (fun _ _ _ h => h) (Or.inl ⟨by rfl, ?_⟩) hS ?_
   rotate_left
   ·(intro w hSw; (try dsimp only at hSw); go_simp; try with_reducible rfl)
   simp only [Act.put, zA, zB, zC]
   refine tk2 (v := ?_) (by kernel_rfl) (by kernel_rfl) (by kernel_rfl) (fun _ _ _ h => h) (Or.inl ⟨by rfl, ?_⟩) hS ?_
   rotate_left
   ·(intro w hSw; (try dsimp only at hSw); go_simp; try with_reducible rfl)
   simp only [Act.put, zA, zB, zC]
   refine tk3 (v := ?_) (by kernel_rfl) (by kernel_rfl) (by kernel_rfl) (fun _ _ _ h => h) (Or.inl ⟨by rfl, ?_⟩) hS ?_
   rotate_left
   ·(intro w hSw; (try dsimp only at hSw); go_simp; try with_reducible rfl)
   simp only [Act.put, zA, zB, zC]
   refine tk4 (v := ?_) (by kernel_rfl) (by kernel_rfl) (by kernel_rfl) (fun _ _ _ h => h) (Or.inl ⟨by rfl, ?_⟩) hS ?_
   rotate_left
   ·(intro w hSw; (try dsimp only at hSw); go_simp; try with_reducible rfl)
   simp only [Act.put, zA, zB, zC]
   refine tk5 (v := undef) (by kernel_rfl) (by kernel_rfl) (by kernel_rfl) (fun _ _ _ h => h) (Or.inr ⟨by rfl, rfl⟩) hS ?_
   simp only [Act.put, zA, zB, zC]
   refine tk6 (v := undef) (by kernel_rfl) (by kernel_rfl) (by kernel_rfl) (fun _ _ _ h => h) (Or.inr ⟨by rfl, rfl⟩) hS ?_
   simp only [Act.put, zA, zB, zC]
   refine tk7 (v := undef) (by kernel_rfl) (by kernel_rfl) (by kernel_rfl) (fun _ _ _ h => h) (Or.inr ⟨by rfl, rfl⟩) hS ?_
   simp only [Act.put, zA, zB, zC]
   refine tk8 (v := ?_) (by kernel_rfl) (by kernel_rfl) (by kernel_rfl) (fun _ _ _ h => h) (Or.inl ⟨by rfl, ?_⟩) hS ?_
   rotate_left
   ·(intro w hSw; (try dsimp only at hSw); go_simp; try with_reducible rfl)
   simp only [Act.put, zA, zB, zC]
   refine tk9 (v := ?_) (by kernel_rfl) (by kernel_rfl) (by kernel_rfl) (fun _ _ _ h => h) (Or.inl ⟨by rfl, ?_⟩) hS ?_
   rotate_left
   ·(intro w hSw; (try dsimp only at hSw); go_simp; try with_reducible rfl)
   simp only [Act.put, zA, zB, zC]
   refine tk10 (v := undef) (by kernel_rfl) (by kernel_rfl) (by kernel_rfl) (fun _ _ _ h => h) (Or.inr ⟨by rfl, rfl⟩) hS ?_
   simp only [Act.put, zA, zB, zC]
   refine tk11 (v := undef) (by kernel_rfl) (by kernel_rfl) (by kernel_rfl) (fun _ _ _ h => h) (Or.inr ⟨by rfl, rfl⟩) hS ?_
   simp only [Act.put, zA, zB, zC]
   refine tk12 (v := undef) (by kernel_rfl) (by kernel_rfl) (by kernel_rfl) (fun _ _ _ h => h) (Or.inr ⟨by rfl, rfl⟩) hS ?_
   simp only [Act.put, zA, zB, zC]
   refine tk13 (v := undef) (by kernel_rfl) (by kernel_rfl) (by kernel_rfl) (fun _ _ _ h => h) (Or.inr ⟨by rfl, rfl⟩) hS ?_
   simp only [Act.put, zA, zB, zC]
   refine tk14 (v := undef) (by kernel_rfl) (by kernel_rfl) (by kernel_rfl) (fun _ _ _ h => h) (Or.inr ⟨by rfl, rfl⟩) hS ?_
   simp only [Act.put, zA, zB, zC]
   refine tk15 (v := undef) (by kernel_rfl) (by kernel_rfl) (by kernel_rfl) (fun _ _ _ h => h) (Or.inr ⟨by rfl, rfl⟩) hS ?_
   simp only [Act.put, zA, zB, zC]
   clear Y5d Y6d
   generalize V2.drew = V3 at *
   refine wpAnyH_ready (rs := [16]) (by kernel_rfl) (by simp) (st16 (fun K hK => ?_) AllReadyH.nil)
   go_simp
   refine hK.out _ _ ?_ (fun hHeld => ?_)
   ·exact HHS.out
   clear hK K
   try simp only [Act.put, zA, zB, zC]
   refine wpAnyH_ready (rs := [17]) (by kernel_rfl) (by simp) (st17 (fun K hK => ?_) AllReadyH.nil)
   go_simp
   refine hK.out _ _ ?_ (fun hHeld => ?_)
   ·exact HHS.out
   clear hK K
   try simp only [Act.put, zA, zB, zC]
   refine tk18 (v := ?_) (by kernel_rfl) (by kernel_rfl) (by kernel_rfl) (fun _ _ _ h => h) (Or.inl ⟨by rfl, ?_⟩) hHeld ?_
   rotate_left
   ·(intro w hSw; (try dsimp only at hSw); go_simp; try with_reducible rfl)
   simp only [Act.put, zA, zB, zC]
   refine wpAnyH_ready (rs := [19]) (by kernel_rfl) (by simp) (st19 (fun K hK => ?_) AllReadyH.nil)
   obtain ⟨x0, x1, x2, x3, g0, g1, g2, g3⟩ := box4 Y3d.out
   go_simp
   refine hK.out _ _ ?_ (fun hHeld => ?_)
   ·exact ⟨cell_otn (cell_otn (cell_otn (cell_otn HHS.out.1 N7 0 (.bool false)) N7 1 (.int .i64 x)) N7 2 (.int .i64 y)) N7 3 (.int .i64 z), cell_otn (cell_otn (cell_otn (cell_otn HHS.out.2.1 N7 0 (.bool false)) N7 1 (.int .i64 x)) N7 2 (.int .i64 y)) N7 3 (.int .i64 z), cell_otn (cell_otn (cell_otn (cell_otn HHS.out.2.2.1 N7 0 (.bool false)) N7 1 (.int .i64 x)) N7 2 (.int .i64 y)) N7 3 (.int .i64 z), cell_otn (cell_otn (cell_otn (cell_otn HHS.out.2.2.2.1 N7 0 (.bool false)) N7 1 (.int .i64 x)) N7 2 (.int .i64 y)) N7 3 (.int .i64 z), cell_otn (cell_otn (cell_otn (cell_otn HHS.out.2.2.2.2.1 N5 0 (.bool false)) N5 1 (.int .i64 x)) N5 2 (.int .i64 y)) N5 3 (.int .i64 z), cell_otn (cell_otn (cell_otn (cell_otn HHS.out.2.2.2.2.2 N6 0 (.bool false)) N6 1 (.int .i64 x)) N6 2 (.int .i64 y)) N6 3 (.int .i64 z)⟩
   clear hK K
   try simp only [Act.put, zA, zB, zC]
   refine tk20 (v := ?_) (by kernel_rfl) (by kernel_rfl) (by kernel_rfl) (fun _ _ _ h => h) (Or.inl ⟨by rfl, ?_⟩) hHeld ?_
   rotate_left
   ·(intro w hSw; (try dsimp only at hSw); go_simp; try with_reducible rfl)
   simp only [Act.put, zA, zB, zC]
   refine wpAnyH_done (by kernel_rfl) ?_ _
   go_wp2_with fail
   exact bodyPost_ret (v := .tuple #[.agg #[.bool false, .int .i64 x, .int .i64 y, .int .i64 z], .bool false]) (by simp [results, Try.results90, go_sem, x0, x1, x2, x3]) rfl ⟨by simp [uV, uC], (by repeat' (first | (with_reducible exact BBd.out) | (with_reducible refine Below.setCell ?_ ?_ _) | (with_reducible refine Below.alloc ?_ ?_ _) | (with_reducible refine Below.drew ?_) | (with_reducible refine below_drewN ?_ _) | (with_reducible exact Below.refl _ _) | omega | (simp; done) | (simp; omega)))⟩
  | false =>
   cases vf with
   | true =>
    have hS : V2.drew.cell? ⟨n7, 0, none⟩ = some (.bool false) ∧ V2.drew.cell? ⟨n7, 1, none⟩ = some (.int .i64 x) ∧ V2.drew.cell? ⟨n7, 2, none⟩ = some (.int .i64 y) ∧ V2.drew.cell? ⟨n7, 3, none⟩ = some (.int .i64 z) ∧ V2.drew.cell? ⟨b5, 0, none⟩ = some (.bool false) ∧ V2.drew.cell? ⟨b6, 0, none⟩ = some (.bool true) := ⟨(Y7d 0 _ rfl).1, (Y7d 1 _ rfl).1, (Y7d 2 _ rfl).1, (Y7d 3 _ rfl).1, (Y5d 0 _ rfl).1, (Y6d 0 _ rfl).1⟩
    refine wp_region_held (S := fun w' : World => w'.cell? ⟨n7, 0, none⟩ = some (.bool false) ∧ w'.cell? ⟨n7, 1, none⟩ = some (.int .i64 x) ∧ w'.cell? ⟨n7, 2, none⟩ = some (.int .i64 y) ∧ w'.cell? ⟨n7, 3, none⟩ = some (.int .i64 z) ∧ w'.cell? ⟨b5, 0, none⟩ = some (.bool false) ∧ w'.cell? ⟨b6, 0, none⟩ = some (.bool true)) mixed ?_
    change wpAnyH _ _ _ _ _ _ _ _ V2.drew
    have HHS := Lib.hid hS
    refine tk0 (v := ?_) (by kernel_rfl) (by kernel_rfl) (by kernel_rfl) (fun _ _ _ h => h) (Or.inl ⟨by rfl, ?_⟩) hS ?_
    rotate_left
    ·(intro w hSw; (try dsimp only at hSw); go_simp; try with_reducible rfl)
    simp only [Act.put, zA, zB, zC]
    refine tk1 (v := ?_) (by kernel_rfl) (by kernel_rfl) (by kernel_rfl) (fun _ _ _ h => h) (Or.inl ⟨by rfl, ?_⟩) hS ?_
    rotate_left
    ·(intro w hSw; (try dsimp only at hSw); go_simp; try with_reducible rfl)
    simp only [Act.put, zA, zB, zC]
    refine tk2 (v := ?_) (by kernel_rfl) (by kernel_rfl) (by kernel_rfl) (fun _ _ _ h => h) (Or.inl ⟨by rfl, ?_⟩) hS ?_
    rotate_left
    ·(intro w hSw; (try dsimp only at hSw); go_simp; try with_reducible rfl)
    simp only [Act.put, zA, zB, zC]
    refine tk3 (v := ?_) (by kernel_rfl) (by kernel_rfl) (by kernel_rfl) (fun _ _ _ h => h) (Or.inl ⟨by rfl, ?_⟩) hS ?_
    rotate_left
    ·(intro w hSw; (try dsimp only at hSw); go_simp; try with_reducible rfl)
    simp only [Act.put, zA, zB, zC]
    refine tk4 (v := ?_) (by kernel_rfl) (by kernel_rfl) (by kernel_rfl) (fun _ _ _ h => h) (Or.inl ⟨by rfl, ?_⟩) hS ?_
    rotate_left
    ·(intro w hSw; (try dsimp only at hSw); go_simp; try with_reducible rfl)
    simp only [Act.put, zA, zB, zC]
    refine tk5 (v := ?_) (by kernel_rfl) (by kernel_rfl) (by kernel_rfl) (fun _ _ _ h => h) (Or.inl ⟨by rfl, ?_⟩) hS ?_
    rotate_left
    ·(intro w hSw; (try dsimp only at hSw); go_simp; try with_reducible rfl)
    simp only [Act.put, zA, zB, zC]
    refine tk6 (v := ?_) (by kernel_rfl) (by kernel_rfl) (by kernel_rfl) (fun _ _ _ h => h) (Or.inl ⟨by rfl, ?_⟩) hS ?_
    rotate_left
    ·(intro w hSw; (try dsimp only at hSw); go_simp; try with_reducible rfl)
    simp only [Act.put, zA, zB, zC]
    refine tk7 (v := ?_) (by kernel_rfl) (by kernel_rfl) (by kernel_rfl) (fun _ _ _ h => h) (Or.inl ⟨by rfl, ?_⟩) hS ?_
    rotate_left
    ·(intro w hSw; (try dsimp only at hSw); go_simp; try with_reducible rfl)
    simp only [Act.put, zA, zB, zC]
    refine tk8 (v := ?_) (by kernel_rfl) (by kernel_rfl) (by kernel_rfl) (fun _ _ _ h => h) (Or.inl ⟨by rfl, ?_⟩) hS ?_
    rotate_left
    ·(intro w hSw; (try dsimp only at hSw); go_simp; try with_reducible rfl)
    simp only [Act.put, zA, zB, zC]
    refine tk9 (v := ?_) (by kernel_rfl) (by kernel_rfl) (by kernel_rfl) (fun _ _ _ h => h) (Or.inl ⟨by rfl, ?_⟩) hS ?_
    rotate_left
    ·(intro w hSw; (try dsimp only at hSw); go_simp; try with_reducible rfl)
    simp only [Act.put, zA, zB, zC]
    refine tk10 (v := undef) (by kernel_rfl) (by kernel_rfl) (by kernel_rfl) (fun _ _ _ h => h) (Or.inr ⟨by rfl, rfl⟩) hS ?_
    simp only [Act.put, zA, zB, zC]
    refine tk11 (v := undef) (by kernel_rfl) (by kernel_rfl) (by kernel_rfl) (fun _ _ _ h => h) (Or.inr ⟨by rfl, rfl⟩) hS ?_
    simp only [Act.put, zA, zB, zC]
    refine tk12 (v := undef) (by kernel_rfl) (by kernel_rfl) (by kernel_rfl) (fun _ _ _ h => h) (Or.inr ⟨by rfl, rfl⟩) hS ?_
    simp only [Act.put, zA, zB, zC]
    refine tk13 (v := undef) (by kernel_rfl) (by kernel_rfl) (by kernel_rfl) (fun _ _ _ h => h) (Or.inr ⟨by rfl, rfl⟩) hS ?_
    simp only [Act.put, zA, zB, zC]
    refine tk14 (v := undef) (by kernel_rfl) (by kernel_rfl) (by kernel_rfl) (fun _ _ _ h => h) (Or.inr ⟨by rfl, rfl⟩) hS ?_
    simp only [Act.put, zA, zB, zC]
    refine tk15 (v := undef) (by kernel_rfl) (by kernel_rfl) (by kernel_rfl) (fun _ _ _ h => h) (Or.inr ⟨by rfl, rfl⟩) hS ?_
    simp only [Act.put, zA, zB, zC]
    clear Y5d Y6d
    generalize V2.drew = V3 at *
    refine wpAnyH_ready (rs := [16]) (by kernel_rfl) (by simp) (st16 (fun K hK => ?_) AllReadyH.nil)
    go_simp
    refine hK.out _ _ ?_ (fun hHeld => ?_)
    ·exact HHS.out
    clear hK K
    try simp only [Act.put, zA, zB, zC]
    refine wpAnyH_ready (rs := [17]) (by kernel_rfl) (by simp) (st17 (fun K hK => ?_) AllReadyH.nil)
    go_simp
    refine hK.out _ _ ?_ (fun hHeld => ?_)
    ·exact HHS.out
    clear hK K
    try simp only [Act.put, zA, zB, zC]
    refine tk18 (v := ?_) (by kernel_rfl) (by kernel_rfl) (by kernel_rfl) (fun _ _ _ h => h) (Or.inl ⟨by rfl, ?_⟩) hHeld ?_
    rotate_left
    ·(intro w hSw; (try dsimp only at hSw); go_simp; try with_reducible rfl)
    simp only [Act.put, zA, zB, zC]
    refine wpAnyH_ready (rs := [19]) (by kernel_rfl) (by simp) (st19 (fun K hK => ?_) AllReadyH.nil)
    obtain ⟨x0, x1, x2, x3, g0, g1, g2, g3⟩ := box4 Y3d.out
    go_simp
    refine hK.out _ _ ?_ (fun hHeld => ?_)
    ·exact ⟨cell_otn (cell_otn (cell_otn (cell_otn HHS.out.1 N7 0 (.bool false)) N7 1 (.int .i64 x)) N7 2 (.int .i64 y)) N7 3 (.int .i64 z), cell_otn (cell_otn (cell_otn (cell_otn HHS.out.2.1 N7 0 (.bool false)) N7 1 (.int .i64 x)) N7 2 (.int .i64 y)) N7 3 (.int .i64 z), cell_otn (cell_otn (cell_otn (cell_otn HHS.out.2.2.1 N7 0 (.bool false)) N7 1 (.int .i64 x)) N7 2 (.int .i64 y)) N7 3 (.int .i64 z), cell_otn (cell_otn (cell_otn (cell_otn HHS.out.2.2.2.1 N7 0 (.bool false)) N7 1 (.int .i64 x)) N7 2 (.int .i64 y)) N7 3 (.int .i64 z), cell_otn (cell_otn (cell_otn (cell_otn HHS.out.2.2.2.2.1 N5 0 (.bool false)) N5 1 (.int .i64 x)) N5 2 (.int .i64 y)) N5 3 (.int .i64 z), cell_otn (cell_otn (cell_otn (cell_otn HHS.out.2.2.2.2.2 N6 0 (.bool false)) N6 1 (.int .i64 x)) N6 2 (.int .i64 y)) N6 3 (.int .i64 z)⟩
    clear hK K
    try simp only [Act.put, zA, zB, zC]
    refine tk20 (v := ?_) (by kernel_rfl) (by kernel_rfl) (by kernel_rfl) (fun _ _ _ h => h) (Or.inl ⟨by rfl, ?_⟩) hHeld ?_
    rotate_left
    ·(intro w hSw; (try dsimp only at hSw); go_simp; try with_reducible rfl)
    simp only [Act.put, zA, zB, zC]
    refine wpAnyH_done (by kernel_rfl) ?_ _
    go_wp2_with fail
    exact bodyPost_ret (v := .tuple #[.agg #[.bool false, .int .i64 x, .int .i64 y, .int .i64 z], .bool false]) (by simp [results, Try.results90, go_sem, x0, x1, x2, x3]) rfl ⟨by simp [uV, uC], (by repeat' (first | (with_reducible exact BBd.out) | (with_reducible refine Below.setCell ?_ ?_ _) | (with_reducible refine Below.alloc ?_ ?_ _) | (with_reducible refine Below.drew ?_) | (with_reducible refine below_drewN ?_ _) | (with_reducible exact Below.refl _ _) | omega | (simp; done) | (simp; omega)))⟩
   | false =>
    have hS : V2.drew.cell? ⟨n7, 0, none⟩ = some (.bool false) ∧ V2.drew.cell? ⟨n7, 1, none⟩ = some (.int .i64 x) ∧ V2.drew.cell? ⟨n7, 2, none⟩ = some (.int .i64 y) ∧ V2.drew.cell? ⟨n7, 3, none⟩ = some (.int .i64 z) ∧ V2.drew.cell? ⟨b5, 0, none⟩ = some (.bool false) ∧ V2.drew.cell? ⟨b6, 0, none⟩ = some (.bool false) := ⟨(Y7d 0 _ rfl).1, (Y7d 1 _ rfl).1, (Y7d 2 _ rfl).1, (Y7d 3 _ rfl).1, (Y5d 0 _ rfl).1, (Y6d 0 _ rfl).1⟩
    refine wp_region_held (S := fun w' : World => w'.cell? ⟨n7, 0, none⟩ = some (.bool false) ∧ w'.cell? ⟨n7, 1, none⟩ = some (.int .i64 x) ∧ w'.cell? ⟨n7, 2, none⟩ = some (.int .i64 y) ∧ w'.cell? ⟨n7, 3, none⟩ = some (.int .i64 z) ∧ w'.cell? ⟨b5, 0, none⟩ = some (.bool false) ∧ w'.cell? ⟨b6, 0, none⟩ = some (.bool false)) mixed ?_
    change wpAnyH _ _ _ _ _ _ _ _ V2.drew
    have HHS := Lib.hid hS
    refine tk0 (v := ?_) (by kernel_rfl) (by kernel_rfl) (by kernel_rfl) (fun _ _ _ h => h) (Or.inl ⟨by rfl, ?_⟩) hS ?_
    rotate_left
    ·(intro w hSw; (try dsimp only at hSw); go_simp; try with_reducible rfl)
    simp only [Act.put, zA, zB, zC]
    refine tk1 (v := ?_) (by kernel_rfl) (by kernel_rfl) (by kernel_rfl) (fun _ _ _ h => h) (Or.inl ⟨by rfl, ?_⟩) hS ?_
    rotate_left
    ·(intro w hSw; (try dsimp only at hSw); go_simp; try with_reducible rfl)
    simp only [Act.put, zA, zB, zC]
    refine tk2 (v := ?_) (by kernel_rfl) (by kernel_rfl) (by kernel_rfl) (fun _ _ _ h => h) (Or.inl ⟨by rfl, ?_⟩) hS ?_
    rotate_left
    ·(intro w hSw; (try dsimp only at hSw); go_simp; try with_reducible rfl)
    simp only [Act.put, zA, zB, zC]
    refine tk3 (v := ?_) (by kernel_rfl) (by kernel_rfl) (by kernel_rfl) (fun _ _ _ h => h) (Or.inl ⟨by rfl, ?_⟩) hS ?_
    rotate_left
    ·(intro w hSw; (try dsimp only at hSw); go_simp; try with_reducible rfl)
    simp only [Act.put, zA, zB, zC]
    refine tk4 (v := ?_) (by kernel_rfl) (by kernel_rfl) (by kernel_rfl) (fun _ _ _ h => h) (Or.inl ⟨by rfl, ?_⟩) hS ?_
    rotate_left
    ·(intro w hSw; (try dsimp only at hSw); go_simp; try with_reducible rfl)
    simp only [Act.put, zA, zB, zC]
    refine tk5 (v := ?_) (by kernel_rfl) (by kernel_rfl) (by kernel_rfl) (fun _ _ _ h => h) (Or.inl ⟨by rfl, ?_⟩) hS ?_
    rotate_left
    ·(intro w hSw; (try dsimp only at hSw); go_simp; try with_reducible rfl)
    simp only [Act.put, zA, zB, zC]
    refine tk6 (v := ?_) (by kernel_rfl) (by kernel_rfl) (by kernel_rfl) (fun _ _ _ h => h) (Or.inl ⟨by rfl, ?_⟩) hS ?_
    rotate_left
    ·(intro w hSw; (try dsimp only at hSw); go_simp; try with_reducible rfl)
    simp only [Act.put, zA, zB, zC]
    refine tk7 (v := ?_) (by kernel_rfl) (by kernel_rfl) (by kernel_rfl) (fun _ _ _ h => h) (Or.inl ⟨by rfl, ?_⟩) hS ?_
    rotate_left
    ·(intro w hSw; (try dsimp only at hSw); go_simp; try with_reducible rfl)
    simp only [Act.put, zA, zB, zC]
    refine tk8 (v := ?_) (by kernel_rfl) (by kernel_rfl) (by kernel_rfl) (fun _ _ _ h => h) (Or.inl ⟨by rfl, ?_⟩) hS ?_
    rotate_left
    ·(intro w hSw; (try dsimp only at hSw); go_simp; try with_reducible rfl)
    simp only [Act.put, zA, zB, zC]
    refine tk9 (v := ?_) (by kernel_rfl) (by kernel_rfl) (by kernel_rfl) (fun _ _ _ h => h) (Or.inl ⟨by rfl, ?_⟩) hS ?_
    rotate_left
    ·(intro w hSw; (try dsimp only at hSw); go_simp; try with_reducible rfl)
    simp only [Act.put, zA, zB, zC]
    refine tk10 (v := ?_) (by kernel_rfl) (by kernel_rfl) (by kernel_rfl) (fun _ _ _ h => h) (Or.inl ⟨by rfl, ?_⟩) hS ?_
    rotate_left
    ·(intro w hSw; (try dsimp only at hSw); go_simp; try with_reducible rfl)
    simp only [Act.put, zA, zB, zC]
    refine tk11 (v := ?_) (by kernel_rfl) (by kernel_rfl) (by kernel_rfl) (fun _ _ _ h => h) (Or.inl ⟨by rfl, ?_⟩) hS ?_
    rotate_left
    ·(intro w hSw; (try dsimp only at hSw); go_simp; try with_reducible rfl)
    simp only [Act.put, zA, zB, zC]
    refine tk12 (v := ?_) (by kernel_rfl) (by kernel_rfl) (by kernel_rfl) (fun _ _ _ h => h) (Or.inl ⟨by rfl, ?_⟩) hS ?_
    rotate_left
    ·(intro w hSw; (try dsimp only at hSw); go_simp; try with_reducible rfl)
    simp only [Act.put, zA, zB, zC]
    refine tk13 (v := ?_) (by kernel_rfl) (by kernel_rfl) (by kernel_rfl) (fun _ _ _ h => h) (Or.inl ⟨by rfl, ?_⟩) hS ?_
    rotate_left
    ·(intro w hSw; (try dsimp only at hSw); go_simp; try with_reducible rfl)
    simp only [Act.put, zA, zB, zC]
    refine tk14 (v := ?_) (by kernel_rfl) (by kernel_rfl) (by kernel_rfl) (fun _ _ _ h => h) (Or.inl ⟨by rfl, ?_⟩) hS ?_
    rotate_left
    ·(intro w hSw; (try dsimp only at hSw); go_simp; try with_reducible rfl)
    simp only [Act.put, zA, zB, zC]
    refine tk15 (v := ?_) (by kernel_rfl) (by kernel_rfl) (by kernel_rfl) (fun _ _ _ h => h) (Or.inl ⟨by rfl, ?_⟩) hS ?_
    rotate_left
    ·(intro w hSw; (try dsimp only at hSw); go_simp; try with_reducible rfl)
    simp only [Act.put, zA, zB, zC]
    clear Y5d Y6d
    generalize V2.drew = V3 at *
    refine wpAnyH_ready (rs := [16]) (by kernel_rfl) (by simp) (st16 (fun K hK => ?_) AllReadyH.nil)
    go_simp
    have A1 := (Below.refl V3.heap.size V3).alloc (Nat.le_refl _) (.cells #[.int .i64 x, .int .i64 y, .int .i64 z] 3)
    have HH2 := Lib.hid (show (V3.alloc (.cells #[.int .i64 x, .int .i64 y, .int .i64 z] 3)).cell? ⟨n7, 0, none⟩ = some (.bool false) ∧ (V3.alloc (.cells #[.int .i64 x, .int .i64 y, .int .i64 z] 3)).cell? ⟨n7, 1, none⟩ = some (.int .i64 x) ∧ (V3.alloc (.cells #[.int .i64 x, .int .i64 y, .int .i64 z] 3)).cell? ⟨n7, 2, none⟩ = some (.int .i64 y) ∧ (V3.alloc (.cells #[.int .i64 x, .int .i64 y, .int .i64 z] 3)).cell? ⟨n7, 3, none⟩ = some (.int .i64 z) ∧ (V3.alloc (.cells #[.int .i64 x, .int .i64 y, .int .i64 z] 3)).cell? ⟨b5, 0, none⟩ = some (.bool false) ∧ (V3.alloc (.cells #[.int .i64 x, .int .i64 y, .int .i64 z] 3)).cell? ⟨b6, 0, none⟩ = some (.bool false) from ⟨(A1.cell (World.block_lt_of_cell? _ _ HHS.out.1)).trans HHS.out.1, (A1.cell (World.block_lt_of_cell? _ _ HHS.out.2.1)).trans HHS.out.2.1, (A1.cell (World.block_lt_of_cell? _ _ HHS.out.2.2.1)).trans HHS.out.2.2.1, (A1.cell (World.block_lt_of_cell? _ _ HHS.out.2.2.2.1)).trans HHS.out.2.2.2.1, (A1.cell (World.block_lt_of_cell? _ _ HHS.out.2.2.2.2.1)).trans HHS.out.2.2.2.2.1, (A1.cell (World.block_lt_of_cell? _ _ HHS.out.2.2.2.2.2)).trans HHS.out.2.2.2.2.2⟩)
    refine hK.out _ _ ?_ (fun hHeld => ?_)
    ·exact HH2.out
    clear hK K
    try simp only [Act.put, zA, zB, zC]
    have Z3 := Lib.hid (Y3d.out.bel (by simp) A1)
    have BB4 := Lib.hid (BBd.out.trans (A1.mono BBd.out.size))
    have SL := Lib.hid (slr_new3 V3 3 x y z (n7 + 1) hv1d)
    clear A1 Y3d BBd HHS
    generalize V3.alloc (.cells #[.int .i64 x, .int .i64 y, .int .i64 z] 3) = V4 at *
    refine wpAnyH_ready (rs := [17]) (by kernel_rfl) (by simp) (st17 (fun K hK => ?_) AllReadyH.nil)
    go_simp
    refine (KE.out _ _ _ _ _ SL.out).mono ?_
    rintro _ v ⟨rfl, rfl⟩
    go_wp2_with fail
    refine hK.out _ _ ?_ (fun hHeld => ?_)
    ·exact HH2.out
    clear hK K
    try simp only [Act.put, zA, zB, zC]
    refine tk18 (v := ?_) (by kernel_rfl) (by kernel_rfl) (by kernel_rfl) (fun _ _ _ h => h) (Or.inl ⟨by rfl, ?_⟩) hHeld ?_
    rotate_left
    ·(intro w hSw; (try dsimp only at hSw); go_simp; try with_reducible rfl)
    simp only [Act.put, zA, zB, zC]
    refine wpAnyH_ready (rs := [19]) (by kernel_rfl) (by simp) (st19 (fun K hK => ?_) AllReadyH.nil)
    obtain ⟨x0, x1, x2, x3, g0, g1, g2, g3⟩ := box4 Z3.out
    go_simp
    refine hK.out _ _ ?_ (fun hHeld => ?_)
    ·exact ⟨cell_otn (cell_otn (cell_otn (cell_otn HH2.out.1 N7 0 (.bool false)) N7 1 (.int .i64 x)) N7 2 (.int .i64 y)) N7 3 (.int .i64 z), cell_otn (cell_otn (cell_otn (cell_otn HH2.out.2.1 N7 0 (.bool false)) N7 1 (.int .i64 x)) N7 2 (.int .i64 y)) N7 3 (.int .i64 z), cell_otn (cell_otn (cell_otn (cell_otn HH2.out.2.2.1 N7 0 (.bool false)) N7 1 (.int .i64 x)) N7 2 (.int .i64 y)) N7 3 (.int .i64 z), cell_otn (cell_otn (cell_otn (cell_otn HH2.out.2.2.2.1 N7 0 (.bool false)) N7 1 (.int .i64 x)) N7 2 (.int .i64 y)) N7 3 (.int .i64 z), cell_otn (cell_otn (cell_otn (cell_otn HH2.out.2.2.2.2.1 N5 0 (.bool false)) N5 1 (.int .i64 x)) N5 2 (.int .i64 y)) N5 3 (.int .i64 z), cell_otn (cell_otn (cell_otn (cell_otn HH2.out.2.2.2.2.2 N6 0 (.bool false)) N6 1 (.int .i64 x)) N6 2 (.int .i64 y)) N6 3 (.int .i64 z)⟩
    clear hK K
    try simp only [Act.put, zA, zB, zC]
    refine tk20 (v := ?_) (by kernel_rfl) (by kernel_rfl) (by kernel_rfl) (fun _ _ _ h => h) (Or.inl ⟨by rfl, ?_⟩) hHeld ?_
    rotate_left
    ·(intro w hSw; (try dsimp only at hSw); go_simp; try with_reducible rfl)
    simp only [Act.put, zA, zB, zC]
    refine wpAnyH_done (by kernel_rfl) ?_ _
    go_wp2_with fail
    exact bodyPost_ret (v := .tuple #[.agg #[.bool false, .int .i64 x, .int .i64 y, .int .i64 z], .bool E]) (by simp [results, Try.results90, go_sem, x0, x1, x2, x3]) rfl ⟨by simp [uV, uC], (by repeat' (first | (with_reducible exact BB4.out) | (with_reducible refine Below.setCell ?_ ?_ _) | (with_reducible refine Below.alloc ?_ ?_ _) | (with_reducible refine Below.drew ?_) | (with_reducible refine below_drewN ?_ _) | (with_reducible exact Below.refl _ _) | omega | (simp; done) | (simp; omega)))⟩
 clear hK0 KE ew1 ew2 ew3 ew4 ew5 ew6
 have hS : W1.drew.cell? ⟨b, off, none⟩ = some (.bool uf) ∧ W1.drew.cell? ⟨b, off + 1, none⟩ = some (.int .i64 um) ∧ W1.drew.cell? ⟨b, off + 2, none⟩ = some (.int .i64 ua) ∧ W1.drew.cell? ⟨b, off + 3, none⟩ = some (.int .i64 ud) ∧ W1.drew.cell? ⟨b, off + 4, none⟩ = some (.bool vf) ∧ W1.drew.cell? ⟨b, off + 5, none⟩ = some (.int .i64 vm) ∧ W1.drew.cell? ⟨b, off + 6, none⟩ = some (.int .i64 va) ∧ W1.drew.cell? ⟨b, off + 7, none⟩ = some (.int .i64 vd) := ⟨a0, a1, a2, a3, b0, b1, b2, b3⟩
 refine wp_region_held (S := fun w' : World => w'.cell? ⟨b, off, none⟩ = some (.bool uf) ∧ w'.cell? ⟨b, off + 1, none⟩ = some (.int .i64 um) ∧ w'.cell? ⟨b, off + 2, none⟩ = some (.int .i64 ua) ∧ w'.cell? ⟨b, off + 3, none⟩ = some (.int .i64 ud) ∧ w'.cell? ⟨b, off + 4, none⟩ = some (.bool vf) ∧ w'.cell? ⟨b, off + 5, none⟩ = some (.int .i64 vm) ∧ w'.cell? ⟨b, off + 6, none⟩ = some (.int .i64 va) ∧ w'.cell? ⟨b, off + 7, none⟩ = some (.int .i64 vd)) mixed ?_
 change wpAnyH _ _ _ _ _ _ _ _ W1.drew
 refine tk0 (v := ?_) (by kernel_rfl) (by kernel_rfl) (by kernel_rfl) (fun _ _ _ h => h) (Or.inl ⟨by rfl, ?_⟩) hS ?_
 rotate_left
 ·(intro w hSw; (try dsimp only at hSw); go_simp; try with_reducible rfl)
 simp only [Act.put, zA, zB, zC]
 refine tk1 (v := ?_) (by kernel_rfl) (by kernel_rfl) (by kernel_rfl) (fun _ _ _ h => h) (Or.inl ⟨by rfl, ?_⟩) hS ?_
 rotate_left
 ·(intro w hSw; (try dsimp only at hSw); go_simp; try with_reducible rfl)
 simp only [Act.put, zA, zB, zC]
 refine tk2 (v := ?_) (by kernel_rfl) (by kernel_rfl) (by kernel_rfl) (fun _ _ _ h => h) (Or.inl ⟨by rfl, ?_⟩) hS ?_
 rotate_left
 ·(intro w hSw; (try dsimp only at hSw); go_simp; try with_reducible rfl)
 simp only [Act.put, zA, zB, zC]
 refine tk3 (v := ?_) (by kernel_rfl) (by kernel_rfl) (by kernel_rfl) (fun _ _ _ h => h) (Or.inl ⟨by rfl, ?_⟩) hS ?_
 rotate_left
 ·(intro w hSw; (try dsimp only at hSw); go_simp; try with_reducible rfl)
 simp only [Act.put, zA, zB, zC]
 refine tk4 (v := ?_) (by kernel_rfl) (by kernel_rfl) (by kernel_rfl) (fun _ _ _ h => h) (Or.inl ⟨by rfl, ?_⟩) hS ?_
 rotate_left
 ·(intro w hSw; (try dsimp only at hSw); go_simp; try with_reducible rfl)
 simp only [Act.put, zA, zB, zC]
 refine tk5 (v := ?_) (by kernel_rfl) (by kernel_rfl) (by kernel_rfl) (fun _ _ _ h => h) (Or.inl ⟨by rfl, ?_⟩) hS ?_
 rotate_left
 ·(intro w hSw; (try dsimp only at hSw); go_simp; try with_reducible rfl)
 simp only [Act.put, zA, zB, zC]
 have D1 := (Below.refl W1.heap.size W1).drew
 have M2 := Lib.hid (M1.out.bel D1)
 have X2 := Lib.hid (X1'.out.bel (by simp) D1)
 have P2 : Hid (W1.drew.cell? ⟨pb, 0, none⟩ = some (.int .i64 s)) := P1.out
 have B2 := Lib.hid (B1.out.drew)
 have hs2 : W1.drew.heap.size = w.heap.size + 1 := hs1
 clear M1 X1' P1 B1 D1
 generalize W1.drew = V1 at *
 have A1 := (Below.refl V1.heap.size V1).alloc (Nat.le_refl _) (.cells #[.bool false, .int .i64 0, .int .i64 0, .int .i64 0] 29)
 have M3 := Lib.hid (M2.out.bel A1)
 have A2 := (Below.refl (V1.alloc (.cells #[.bool false, .int .i64 0, .int .i64 0, .int .i64 0] 29)).heap.size (V1.alloc (.cells #[.bool false, .int .i64 0, .int .i64 0, .int .i64 0] 29))).alloc (Nat.le_refl _) (.cells #[.bool false, .int .i64 0, .int .i64 0, .int .i64 0] 29)
 have M4 := Lib.hid (M3.out.bel A2)
 have X5 := Lib.hid ((BoxL.new V1 [.bool false, .int .i64 0, .int .i64 0, .int .i64 0] 29).bel (by simp) A2)
 have X6 := Lib.hid (BoxL.new (V1.alloc (.cells #[.bool false, .int .i64 0, .int .i64 0, .int .i64 0] 29)) [.bool false, .int .i64 0, .int .i64 0, .int .i64 0] 29)
 have X3 := Lib.hid ((X2.out.bel (by simp) A1).bel (by simp) A2)
 have P3 : Hid (((V1.alloc (.cells #[.bool false, .int .i64 0, .int .i64 0, .int .i64 0] 29)).alloc (.cells #[.bool false, .int .i64 0, .int .i64 0, .int .i64 0] 29)).cell? ⟨pb, 0, none⟩ = some (.int .i64 s)) := ((A2.cell (p := ⟨pb, 0, none⟩) (by simp; omega)).trans (A1.cell (p := ⟨pb, 0, none⟩) (by show pb < _; omega))).trans P2.out
 have B3 : Hid (RowKit.Below w.heap.size w ((V1.alloc (.cells #[.bool false, .int .i64 0, .int .i64 0, .int .i64 0] 29)).alloc (.cells #[.bool false, .int .i64 0, .int .i64 0, .int .i64 0] 29))) := (B2.out.trans (A1.mono (by omega))).trans (A2.mono (by simp; omega))
 have sz : (V1.alloc (.cells #[.bool false, .int .i64 0, .int .i64 0, .int .i64 0] 29)).heap.size = w.heap.size + 2 := by simp; omega
 rw [sz] at X6
 rw [hs2] at X5
 clear A1 A2
 refine wpAnyH_ready (rs := [6, 7]) (by kernel_rfl) (by simp) (st6 (fun K hK => ?_) (st7 (fun K hK => ?_) AllReadyH.nil))
 ·go_simp
  refine hK.out _ _ ?_ (fun hHeld => ?_)
  ·exact ⟨M3.out.a0, M3.out.a1, M3.out.a2, M3.out.a3, M3.out.b0, M3.out.b1, M3.out.b2, M3.out.b3⟩
  clear hK K
  try simp only [Act.put, zA, zB, zC]
  refine wpAnyH_ready (rs := [7]) (by kernel_rfl) (by simp) (st7 (fun K hK => ?_) AllReadyH.nil)
  go_simp
  refine hK.out _ _ ?_ (fun hHeld => ?_)
  ·exact ⟨M4.out.a0, M4.out.a1, M4.out.a2, M4.out.a3, M4.out.b0, M4.out.b1, M4.out.b2, M4.out.b3⟩
  clear hK K
  try simp only [Act.put, zA, zB, zC]
  clear M2 M3 X2 P2 B2
  generalize ((V1.alloc (.cells #[.bool false, .int .i64 0, .int .i64 0, .int .i64 0] 29)).alloc (.cells #[.bool false, .int .i64 0, .int .i64 0, .int .i64 0] 29)) = V2 at *
  refine wpAnyH_ready (rs := [8]) (by kernel_rfl) (by simp) (st8 (fun K hK => ?_) AllReadyH.nil)
  obtain ⟨x0, x1, x2, x3, g0, g1, g2, g3⟩ := box4 X5.out
  obtain ⟨y0, y1, y2, y3, k0, k1, k2, k3⟩ := box4 X6.out
  have NA : b ≠ (w.heap.size + 1) := by omega
  have NB2 : b ≠ (w.heap.size + 2) := by omega
  go_simp
  have M5 := Lib.hid ((((M4.out.other NA 0 (.bool uf)).other NA 1 (.int .i64 um)).other NA 2 (.int .i64 ua)).other NA 3 (.int .i64 ud))
  refine hK.out _ _ ?_ (fun hHeld => ?_)
  ·exact ⟨M5.out.a0, M5.out.a1, M5.out.a2, M5.out.a3, M5.out.b0, M5.out.b1, M5.out.b2, M5.out.b3⟩
  clear hK K
  try simp only [Act.put, zA, zB, zC]
  refine wpAnyH_ready (rs := [9]) (by kernel_rfl) (by simp) (st9 (fun K hK => ?_) AllReadyH.nil)
  go_simp
  have M6 := Lib.hid ((((M5.out.other NB2 0 (.bool vf)).other NB2 1 (.int .i64 vm)).other NB2 2 (.int .i64 va)).other NB2 3 (.int .i64 vd))
  refine hK.out _ _ ?_ (fun hHeld => ?_)
  ·exact ⟨M6.out.a0, M6.out.a1, M6.out.a2, M6.out.a3, M6.out.b0, M6.out.b1, M6.out.b2, M6.out.b3⟩
  clear hK K
  try simp only [Act.put, zA, zB, zC]
  refine wpAnyH_done (by kernel_rfl) ?_ _
  have Z5 := Lib.hid ((((((((X5.out.set 0 (.bool uf)).set 1 (.int .i64 um)).set 2 (.int .i64 ua)).set 3 (.int .i64 ud)).oth (r := (w.heap.size + 2)) (by omega) 0 (.bool vf)).oth (r := (w.heap.size + 2)) (by omega) 1 (.int .i64 vm)).oth (r := (w.heap.size + 2)) (by omega) 2 (.int .i64 va)).oth (r := (w.heap.size + 2)) (by omega) 3 (.int .i64 vd))
  have Z6 := Lib.hid ((((((((X6.out.oth (r := (w.heap.size + 1)) (by omega) 0 (.bool uf)).oth (r := (w.heap.size + 1)) (by omega) 1 (.int .i64 um)).oth (r := (w.heap.size + 1)) (by omega) 2 (.int .i64 ua)).oth (r := (w.heap.size + 1)) (by omega) 3 (.int .i64 ud)).set 0 (.bool vf)).set 1 (.int .i64 vm)).set 2 (.int .i64 va)).set 3 (.int .i64 vd))
  have Z3 := Lib.hid ((((((((X3.out.oth (r := (w.heap.size + 1)) (by omega) 0 (.bool uf)).oth (r := (w.heap.size + 1)) (by omega) 1 (.int .i64 um)).oth (r := (w.heap.size + 1)) (by omega) 2 (.int .i64 ua)).oth (r := (w.heap.size + 1)) (by omega) 3 (.int .i64 ud)).oth (r := (w.heap.size + 2)) (by omega) 0 (.bool vf)).oth (r := (w.heap.size + 2)) (by omega) 1 (.int .i64 vm)).oth (r := (w.heap.size + 2)) (by omega) 2 (.int .i64 va)).oth (r := (w.heap.size + 2)) (by omega) 3 (.int .i64 vd))
  refine REST.out (w.heap.size + 1) (w.heap.size + 2) _ (by omega) (by omega) (by omega) Z5 Z6 Z3 ?_ ?_
  ·show World.cell? _ _ = _
   exact cell_oth (cell_oth (cell_oth (cell_oth (cell_oth (cell_oth (cell_oth (cell_oth P3.out (by omega) 0 _) (by omega) 1 _) (by omega) 2 _) (by omega) 3 _) (by omega) 0 _) (by omega) 1 _) (by omega) 2 _) (by omega) 3 _
  ·show RowKit.Below _ _ _
   exact (by repeat' (first | (with_reducible exact B3.out) | (with_reducible refine Below.setCell ?_ ?_ _) | (with_reducible refine Below.alloc ?_ ?_ _) | (with_reducible refine Below.drew ?_) | (with_reducible refine below_drewN ?_ _) | (with_reducible exact Below.refl _ _) | omega | (simp; done) | (simp; omega)))
 ·go_simp
  refine hK.out _ _ ?_ (fun hHeld => ?_)
  ·exact ⟨M3.out.a0, M3.out.a1, M3.out.a2, M3.out.a3, M3.out.b0, M3.out.b1, M3.out.b2, M3.out.b3⟩
  clear hK K
  try simp only [Act.put, zA, zB, zC]
  refine wpAnyH_ready (rs := [6]) (by kernel_rfl) (by simp) (st6 (fun K hK => ?_) AllReadyH.nil)
  go_simp
  refine hK.out _ _ ?_ (fun hHeld => ?_)
  ·exact ⟨M4.out.a0, M4.out.a1, M4.out.a2, M4.out.a3, M4.out.b0, M4.out.b1, M4.out.b2, M4.out.b3⟩
  clear hK K
  try simp only [Act.put, zA, zB, zC]
  clear M2 M3 X2 P2 B2
  generalize ((V1.alloc (.cells #[.bool false, .int .i64 0, .int .i64 0, .int .i64 0] 29)).alloc (.cells #[.bool false, .int .i64 0, .int .i64 0, .int .i64 0] 29)) = V2 at *
  refine wpAnyH_ready (rs := [8]) (by kernel_rfl) (by simp) (st8 (fun K hK => ?_) AllReadyH.nil)
  obtain ⟨x0, x1, x2, x3, g0, g1, g2, g3⟩ := box4 X6.out
  obtain ⟨y0, y1, y2, y3, k0, k1, k2, k3⟩ := box4 X5.out
  have NA : b ≠ (w.heap.size + 2) := by omega
  have NB2 : b ≠ (w.heap.size + 1) := by omega
  go_simp
  have M5 := Lib.hid ((((M4.out.other NA 0 (.bool uf)).other NA 1 (.int .i64 um)).other NA 2 (.int .i64 ua)).other NA 3 (.int .i64 ud))
  refine hK.out _ _ ?_ (fun hHeld => ?_)
  ·exact ⟨M5.out.a0, M5.out.a1, M5.out.a2, M5.out.a3, M5.out.b0, M5.out.b1, M5.out.b2, M5.out.b3⟩
  clear hK K
  try simp only [Act.put, zA, zB, zC]
  refine wpAnyH_ready (rs := [9]) (by kernel_rfl) (by simp) (st9 (fun K hK => ?_) AllReadyH.nil)
  go_simp
  have M6 := Lib.hid ((((M5.out.other NB2 0 (.bool vf)).other NB2 1 (.int .i64 vm)).other NB2 2 (.int .i64 va)).other NB2 3 (.int .i64 vd))
  refine hK.out _ _ ?_ (fun hHeld => ?_)
  ·exact ⟨M6.out.a0, M6.out.a1, M6.out.a2, M6.out.a3, M6.out.b0, M6.out.b1, M6.out.b2, M6.out.b3⟩
  clear hK K
  try simp only [Act.put, zA, zB, zC]
  refine wpAnyH_done (by kernel_rfl) ?_ _
  have Z5 := Lib.hid ((((((((X6.out.set 0 (.bool uf)).set 1 (.int .i64 um)).set 2 (.int .i64 ua)).set 3 (.int .i64 ud)).oth (r := (w.heap.size + 1)) (by omega) 0 (.bool vf)).oth (r := (w.heap.size + 1)) (by omega) 1 (.int .i64 vm)).oth (r := (w.heap.size + 1)) (by omega) 2 (.int .i64 va)).oth (r := (w.heap.size + 1)) (by omega) 3 (.int .i64 vd))
  have Z6 := Lib.hid ((((((((X5.out.oth (r := (w.heap.size + 2)) (by omega) 0 (.bool uf)).oth (r := (w.heap.size + 2)) (by omega) 1 (.int .i64 um)).oth (r := (w.heap.size + 2)) (by omega) 2 (.int .i64 ua)).oth (r := (w.heap.size + 2)) (by omega) 3 (.int .i64 ud)).set 0 (.bool vf)).set 1 (.int .i64 vm)).set 2 (.int .i64 va)).set 3 (.int .i64 vd))
  have Z3 := Lib.hid ((((((((X3.out.oth (r := (w.heap.size + 2)) (by omega) 0 (.bool uf)).oth (r := (w.heap.size + 2)) (by omega) 1 (.int .i64 um)).oth (r := (w.heap.size + 2)) (by omega) 2 (.int .i64 ua)).oth (r := (w.heap.size + 2)) (by omega) 3 (.int .i64 ud)).oth (r := (w.heap.size + 1)) (by omega) 0 (.bool vf)).oth (r := (w.heap.size + 1)) (by omega) 1 (.int .i64 vm)).oth (r := (w.heap.size + 1)) (by omega) 2 (.int .i64 va)).oth (r := (w.heap.size + 1)) (by omega) 3 (.int .i64 vd))
  refine REST.out (w.heap.size + 2) (w.heap.size + 1) _ (by omega) (by omega) (by omega) Z5 Z6 Z3 ?_ ?_
  ·show World.cell? _ _ = _
   exact cell_oth (cell_oth (cell_oth (cell_oth (cell_oth (cell_oth (cell_oth (cell_oth P3.out (by omega) 0 _) (by omega) 1 _) (by omega) 2 _) (by omega) 3 _) (by omega) 0 _) (by omega) 1 _) (by omega) 2 _) (by omega) 3 _
  ·show RowKit.Below _ _ _
   exact (by repeat' (first | (with_reducible exact B3.out) | (with_reducible refine Below.setCell ?_ ?_ _) | (with_reducible refine Below.alloc ?_ ?_ _) | (with_reducible refine Below.drew ?_) | (with_reducible refine below_drewN ?_ _) | (with_reducible exact Below.refl _ _) | omega | (simp; done) | (simp; omega)))
end Go.Proofs.Ytoaonficdkgfiaa
