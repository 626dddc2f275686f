/-
  ZD: several texts in one.
-/
import Derived.Test.YtjifiijgghpniaaZC
import Derived.Deep.Onto
import Derived.Laws.MakeOwn
/-
  Contract of the operators of units: the closure that multiplies and divides.
-/
namespace Go.Proofs.Ytjifiijgghpniaa
open Go.RowKit Un

theorem w64 {x : Int} (h1 : -1000 ≤ x) (h2 : x ≤ 1000) : IntKind.i64.wrap x = x := IntWalk.i64_in _ (by omega)
def sU (u : U) : Prop := -3 ≤ u.m ∧ u.m ≤ 3 ∧ -3 ≤ u.a ∧ u.a ≤ 3 ∧ -3 ≤ u.d ∧ u.d ≤ 3
theorem cell_oth {w : World} {pb r : Nat} {v : Value} (h : w.cell? ⟨pb, 0, none⟩ = some v) (hr : pb ≠ r) (o : Nat) (y : Value) : (w.setCell ⟨r, o, none⟩ y).cell? ⟨pb, 0, none⟩ = some v := (World.cell?_of_block (w := w) (a := ⟨pb, 0, none⟩) (Below.heap_setCell _ _ _ _ hr)).trans h
theorem cell_otn {w : World} {pb r j : Nat} {v : Value} (h : w.cell? ⟨pb, j, none⟩ = some v) (hr : pb ≠ r) (o : Nat) (y : Value) : (w.setCell ⟨r, o, none⟩ y).cell? ⟨pb, j, none⟩ = some v := (World.cell?_of_block (w := w) (a := ⟨pb, j, none⟩) (Below.heap_setCell _ _ _ _ hr)).trans h
theorem slr_new3 (w : World) (T : Nat) (x y z : Int) (n : Nat) (hn : w.heap.size = n) : SlR (w.alloc (.cells #[.int .i64 x, .int .i64 y, .int .i64 z] T)) (some ⟨n, 0, none⟩) n 0 3 1 [[.int .i64 x], [.int .i64 y], [.int .i64 z]] := by
  subst hn
  refine ⟨rfl, fun _ => rfl, fun i r hr => ?_, fun _ => by simp, by omega⟩
  match i, hr with
  | 0, hr => cases hr; exact ⟨rfl, fun j v hv => by cases j with | zero => cases hv; simp | succ j => simp at hv⟩
  | 1, hr => cases hr; exact ⟨rfl, fun j v hv => by cases j with | zero => cases hv; simp | succ j => simp at hv⟩
  | 2, hr => cases hr; exact ⟨rfl, fun j v hv => by cases j with | zero => cases hv; simp | succ j => simp at hv⟩
  | i + 3, hr => simp at hr
theorem BoxL.oth {w : World} {b r : Nat} {l : List Value} (h : BoxL w b l) (hr : b ≠ r) (o : Nat) (y : Value) : BoxL (w.setCell ⟨r, o, none⟩ y) b l := h.other hr o y
set_option maxRecDepth 100000 in
set_option maxHeartbeats 8000000 in
theorem opProduct (s : Int) (u v : U) (b off c pb : Nat) (w : World) (hu : sU u) (hv : sU v) (hs : s = 1 ∨ s = -1) (h2 : U2 w b off u v) (hp : w.cell? ⟨pb, 0, none⟩ = some (.int .i64 s)) :
    Calls Try.prog 90 #[.slice (some ⟨b, off, none⟩) 2 c, .pointer (some ⟨pb, 0, none⟩)] w fun e w' => e = .returned (.tuple #[uV (mulU s u v), .bool (!u.f && !v.f && (expo (mulU s u v).m && (expo (mulU s u v).a && expo (mulU s u v).d)))]) ∧ RowKit.Below w.heap.size w w' := by
  have NB : b < w.heap.size := h2.lt
  have NP : pb < w.heap.size := World.block_lt_of_cell? _ _ hp
  obtain ⟨W1, hW1⟩ : ∃ W1, W1 = w.alloc (.cells #[.bool false, .int .i64 0, .int .i64 0, .int .i64 0] 29) := ⟨_, rfl⟩
  have B1 := Lib.hid ((Below.refl w.heap.size w).alloc (Nat.le_refl _) (.cells #[.bool false, .int .i64 0, .int .i64 0, .int .i64 0] 29))
  have X1 := Lib.hid (BoxL.new w [.bool false, .int .i64 0, .int .i64 0, .int .i64 0] 29)
  rw [← hW1] at B1
  have X1' : Hid (BoxL W1 w.heap.size [.bool false, .int .i64 0, .int .i64 0, .int .i64 0]) := by rw [hW1]; exact X1.out
  have hs1 : W1.heap.size = w.heap.size + 1 := by rw [hW1]; simp
  clear X1
  have M1 := Lib.hid (h2.bel B1.out)
  have P1 : Hid (W1.cell? ⟨pb, 0, none⟩ = some (.int .i64 s)) := (B1.out.cell (p := ⟨pb, 0, none⟩) NP).trans hp
  have HQ : Hid ((mulU s u v) = ⟨false, u.m + s * v.m, u.a + s * v.a, u.d + s * v.d⟩) := rfl
  obtain ⟨uf, um, ua, ud⟩ := u
  obtain ⟨vf, vm, va, vd⟩ := v
  obtain ⟨u1, u2, u3, u4, u5, u6⟩ := hu
  obtain ⟨v1, v2, v3, v4, v5, v6⟩ := hv
  simp only at HQ u1 u2 u3 u4 u5 u6 v1 v2 v3 v4 v5 v6 ⊢
  rw [HQ.out]
  simp only
  have ma : ∃ sm, sm = s * vm ∧ -3 ≤ sm ∧ sm ≤ 3 := by rcases hs with rfl | rfl <;> exact ⟨_, rfl, by omega, by omega⟩
  have mb : ∃ sm, sm = s * va ∧ -3 ≤ sm ∧ sm ≤ 3 := by rcases hs with rfl | rfl <;> exact ⟨_, rfl, by omega, by omega⟩
  have mc : ∃ sm, sm = s * vd ∧ -3 ≤ sm ∧ sm ≤ 3 := by rcases hs with rfl | rfl <;> exact ⟨_, rfl, by omega, by omega⟩
  obtain ⟨sm, hsm, sm1, sm2⟩ := ma
  obtain ⟨sa, hsa, sa1, sa2⟩ := mb
  obtain ⟨sd, hsd, sd1, sd2⟩ := mc
  rw [← hsm, ← hsa, ← hsd]
  have ew1 : IntKind.i64.wrap (s * vm) = sm := by rw [← hsm]; exact w64 (by omega) (by omega)
  have ew2 : IntKind.i64.wrap (s * va) = sa := by rw [← hsa]; exact w64 (by omega) (by omega)
  have ew3 : IntKind.i64.wrap (s * vd) = sd := by rw [← hsd]; exact w64 (by omega) (by omega)
  obtain ⟨x, hx⟩ : ∃ x, x = um + sm := ⟨_, rfl⟩
  obtain ⟨y, hy⟩ : ∃ y, y = ua + sa := ⟨_, rfl⟩
  obtain ⟨z, hz⟩ : ∃ z, z = ud + sd := ⟨_, rfl⟩
  rw [← hx, ← hy, ← hz]
  have ew4 : IntKind.i64.wrap (um + sm) = x := by rw [← hx]; exact w64 (by omega) (by omega)
  have ew5 : IntKind.i64.wrap (ua + sa) = y := by rw [← hy]; exact w64 (by omega) (by omega)
  have ew6 : IntKind.i64.wrap (ud + sd) = z := by rw [← hz]; exact w64 (by omega) (by omega)
  have KE : Hid (∀ (w : World) (p : Option Addr) (b off c : Nat), SlR w p b off 3 1 [[.int .i64 x], [.int .i64 y], [.int .i64 z]] → Calls Try.prog 91 #[.slice p 3 c] w fun e w' => e = .returned (.bool ([x, y, z].all expo)) ∧ w' = w) := fun w p b off c hS => uareExps_any [x, y, z] p b off c w hS
  have HX : Hid ((expo x && (expo y && expo z)) = [x, y, z].all expo) := by show _ = _; simp
  rw [HX.out]
  clear u1 u2 u3 u4 u5 u6 v1 v2 v3 v4 v5 v6 hsm hsa hsd sm1 sm2 sa1 sa2 sd1 sd2 hx hy hz hs h2 hp HQ HX
  generalize hE : [x, y, z].all expo = E at *
  clear hE
  obtain ⟨a0, a1, a2, a3, b0, b1, b2, b3⟩ := M1.out
  simp only at a0 a1 a2 a3 b0 b1 b2 b3
  go_enter Try.func90, Try.ntmps90
  go_wp2_with fail
  rw [← hW1]
  clear hW1
  rename_i K0 hK0
  have REST : Hid (∀ b5 b6 : Nat, ∀ V : World, b5 ≠ b6 → w.heap.size < b5 → w.heap.size < b6 → Hid (BoxL V b5 [.bool uf, .int .i64 um, .int .i64 ua, .int .i64 ud]) → Hid (BoxL V b6 [.bool vf, .int .i64 vm, .int .i64 va, .int .i64 vd]) → Hid (BoxL V w.heap.size [.bool false, .int .i64 0, .int .i64 0, .int .i64 0]) → Hid (V.cell? ⟨pb, 0, none⟩ = some (.int .i64 s)) → Hid (RowKit.Below w.heap.size w V) → K0 { tmps := #[.slice (some ⟨b, off, none⟩) 2 c, .pointer (some ⟨pb, 0, none⟩), undef, .pointer (some ⟨w.heap.size, 0, none⟩), .bool false, .pointer (some ⟨b5, 0, none⟩), .pointer (some ⟨b6, 0, none⟩), undef, .slice (some ⟨b, off, none⟩) 2 c, .pointer (some ⟨b, off, none⟩), .agg #[.bool uf, .int .i64 um, .int .i64 ua, .int .i64 ud], .slice (some ⟨b, off, none⟩) 2 c, .pointer (some ⟨b, off + 4, none⟩), .agg #[.bool vf, .int .i64 vm, .int .i64 va, .int .i64 vd], undef, undef, undef, undef, undef, undef, undef, undef, undef, undef, undef, undef, undef, undef, undef, undef, undef, undef, undef, undef, undef, undef, undef, undef, undef, undef, undef, undef, undef, undef, undef, undef, undef, undef, undef, undef, undef, undef, undef, undef, undef], defers := [] } V) := by
    intro b5 b6 V n56 n5 n6 X5 X6 X3 P2 B2
    refine hK0 _ _ ?_
    clear hK0 a0 a1 a2 a3 b0 b1 b2 b3 B1 X1' M1 P1 hs1
    obtain ⟨c0, c1, c2, c3, g0, g1, g2, g3⟩ := box4 X5.out
    obtain ⟨d0, d1, d2, d3, k0, k1, k2, k3⟩ := box4 X6.out
    have hp := P2.out
    go_wp2_with fail
    have X7 := Lib.hid (BoxL.new V [.bool false, .int .i64 x, .int .i64 y, .int .i64 z] 29)
    have A1 := (Below.refl V.heap.size V).alloc (Nat.le_refl _) (.cells #[.bool false, .int .i64 x, .int .i64 y, .int .i64 z] 29)
    have Y5 := Lib.hid (X5.out.bel (by simp) A1)
    have Y6 := Lib.hid (X6.out.bel (by simp) A1)
    have Y3 := Lib.hid (X3.out.bel (by simp) A1)
    have l3 := X3.out.lt (by simp)
    have BB := Lib.hid (B2.out.trans (A1.mono B2.out.size))
    clear A1 X5 X6 X3 P2 B2 c0 c1 c2 c3 g0 g1 g2 g3 d0 d1 d2 d3 k0 k1 k2 k3 hp ew1 ew2 ew3 ew4 ew5 ew6
    have hv1 : (V.alloc (.cells #[.bool false, .int .i64 x, .int .i64 y, .int .i64 z] 29)).heap.size = V.heap.size + 1 := by simp
    generalize V.alloc (.cells #[.bool false, .int .i64 x, .int .i64 y, .int .i64 z] 29) = V2 at *
    generalize V.heap.size = n7 at *
    have N7 : n7 ≠ w.heap.size := by omega
    have N5 : b5 ≠ w.heap.size := by omega
    have N6 : b6 ≠ w.heap.size := by omega
    have Y5d := Y5.out.bel (by simp) (Below.refl V2.heap.size V2).drew
    have Y6d := Y6.out.bel (by simp) (Below.refl V2.heap.size V2).drew
    have Y7d := X7.out.bel (by simp) (Below.refl V2.heap.size V2).drew
    have Y3d := Lib.hid (Y3.out.bel (by simp) (Below.refl V2.heap.size V2).drew)
    have BBd := Lib.hid BB.out.drew
    have hv1d : V2.drew.heap.size = n7 + 1 := hv1
    cases uf with
    | true =>
      have hS : V2.drew.cell? ⟨n7, 0, none⟩ = some (.bool false) ∧ V2.drew.cell? ⟨n7, 1, none⟩ = some (.int .i64 x) ∧ V2.drew.cell? ⟨n7, 2, none⟩ = some (.int .i64 y) ∧ V2.drew.cell? ⟨n7, 3, none⟩ = some (.int .i64 z) ∧ V2.drew.cell? ⟨b5, 0, none⟩ = some (.bool true) ∧ V2.drew.cell? ⟨b6, 0, none⟩ = some (.bool vf) := ⟨(Y7d 0 _ rfl).1, (Y7d 1 _ rfl).1, (Y7d 2 _ rfl).1, (Y7d 3 _ rfl).1, (Y5d 0 _ rfl).1, (Y6d 0 _ rfl).1⟩
      refine wp_region_held (S := fun w' : World => w'.cell? ⟨n7, 0, none⟩ = some (.bool false) ∧ w'.cell? ⟨n7, 1, none⟩ = some (.int .i64 x) ∧ w'.cell? ⟨n7, 2, none⟩ = some (.int .i64 y) ∧ w'.cell? ⟨n7, 3, none⟩ = some (.int .i64 z) ∧ w'.cell? ⟨b5, 0, none⟩ = some (.bool true) ∧ w'.cell? ⟨b6, 0, none⟩ = some (.bool vf)) mixed ?_
      change wpAnyH _ _ _ _ _ _ _ _ V2.drew
      have HHS := Lib.hid hS
      refine tk0 (v := ?_) (by kernel_rfl) (by kernel_rfl) (by kernel_rfl) (fun _ _ _ h => h) (Or.inl ⟨by rfl, ?_⟩) hS ?_
      rotate_left
      · (intro w hSw; (try dsimp only at hSw); go_simp; try with_reducible rfl)
      simp only [Act.put, List.setIfInBounds_toArray, List.set_cons_zero, List.set_cons_succ]
      refine tk1 (v := ?_) (by kernel_rfl) (by kernel_rfl) (by kernel_rfl) (fun _ _ _ h => h) (Or.inl ⟨by rfl, ?_⟩) hS ?_
      rotate_left
      · (intro w hSw; (try dsimp only at hSw); go_simp; try with_reducible rfl)
      simp only [Act.put, List.setIfInBounds_toArray, List.set_cons_zero, List.set_cons_succ]
      refine tk2 (v := ?_) (by kernel_rfl) (by kernel_rfl) (by kernel_rfl) (fun _ _ _ h => h) (Or.inl ⟨by rfl, ?_⟩) hS ?_
      rotate_left
      · (intro w hSw; (try dsimp only at hSw); go_simp; try with_reducible rfl)
      simp only [Act.put, List.setIfInBounds_toArray, List.set_cons_zero, List.set_cons_succ]
      refine tk3 (v := ?_) (by kernel_rfl) (by kernel_rfl) (by kernel_rfl) (fun _ _ _ h => h) (Or.inl ⟨by rfl, ?_⟩) hS ?_
      rotate_left
      · (intro w hSw; (try dsimp only at hSw); go_simp; try with_reducible rfl)
      simp only [Act.put, List.setIfInBounds_toArray, List.set_cons_zero, List.set_cons_succ]
      refine tk4 (v := ?_) (by kernel_rfl) (by kernel_rfl) (by kernel_rfl) (fun _ _ _ h => h) (Or.inl ⟨by rfl, ?_⟩) hS ?_
      rotate_left
      · (intro w hSw; (try dsimp only at hSw); go_simp; try with_reducible rfl)
      simp only [Act.put, List.setIfInBounds_toArray, List.set_cons_zero, List.set_cons_succ]
      refine tk5 (v := undef) (by kernel_rfl) (by kernel_rfl) (by kernel_rfl) (fun _ _ _ h => h) (Or.inr ⟨by rfl, rfl⟩) hS ?_
      simp only [Act.put, List.setIfInBounds_toArray, List.set_cons_zero, List.set_cons_succ]
      refine tk6 (v := undef) (by kernel_rfl) (by kernel_rfl) (by kernel_rfl) (fun _ _ _ h => h) (Or.inr ⟨by rfl, rfl⟩) hS ?_
      simp only [Act.put, List.setIfInBounds_toArray, List.set_cons_zero, List.set_cons_succ]
      refine tk7 (v := undef) (by kernel_rfl) (by kernel_rfl) (by kernel_rfl) (fun _ _ _ h => h) (Or.inr ⟨by rfl, rfl⟩) hS ?_
      simp only [Act.put, List.setIfInBounds_toArray, List.set_cons_zero, List.set_cons_succ]
      refine tk8 (v := ?_) (by kernel_rfl) (by kernel_rfl) (by kernel_rfl) (fun _ _ _ h => h) (Or.inl ⟨by rfl, ?_⟩) hS ?_
      rotate_left
      · (intro w hSw; (try dsimp only at hSw); go_simp; try with_reducible rfl)
      simp only [Act.put, List.setIfInBounds_toArray, List.set_cons_zero, List.set_cons_succ]
      refine tk9 (v := ?_) (by kernel_rfl) (by kernel_rfl) (by kernel_rfl) (fun _ _ _ h => h) (Or.inl ⟨by rfl, ?_⟩) hS ?_
      rotate_left
      · (intro w hSw; (try dsimp only at hSw); go_simp; try with_reducible rfl)
      simp only [Act.put, List.setIfInBounds_toArray, List.set_cons_zero, List.set_cons_succ]
      refine tk10 (v := undef) (by kernel_rfl) (by kernel_rfl) (by kernel_rfl) (fun _ _ _ h => h) (Or.inr ⟨by rfl, rfl⟩) hS ?_
      simp only [Act.put, List.setIfInBounds_toArray, List.set_cons_zero, List.set_cons_succ]
      refine tk11 (v := undef) (by kernel_rfl) (by kernel_rfl) (by kernel_rfl) (fun _ _ _ h => h) (Or.inr ⟨by rfl, rfl⟩) hS ?_
      simp only [Act.put, List.setIfInBounds_toArray, List.set_cons_zero, List.set_cons_succ]
      refine tk12 (v := undef) (by kernel_rfl) (by kernel_rfl) (by kernel_rfl) (fun _ _ _ h => h) (Or.inr ⟨by rfl, rfl⟩) hS ?_
      simp only [Act.put, List.setIfInBounds_toArray, List.set_cons_zero, List.set_cons_succ]
      refine tk13 (v := undef) (by kernel_rfl) (by kernel_rfl) (by kernel_rfl) (fun _ _ _ h => h) (Or.inr ⟨by rfl, rfl⟩) hS ?_
      simp only [Act.put, List.setIfInBounds_toArray, List.set_cons_zero, List.set_cons_succ]
      refine tk14 (v := undef) (by kernel_rfl) (by kernel_rfl) (by kernel_rfl) (fun _ _ _ h => h) (Or.inr ⟨by rfl, rfl⟩) hS ?_
      simp only [Act.put, List.setIfInBounds_toArray, List.set_cons_zero, List.set_cons_succ]
      refine tk15 (v := undef) (by kernel_rfl) (by kernel_rfl) (by kernel_rfl) (fun _ _ _ h => h) (Or.inr ⟨by rfl, rfl⟩) hS ?_
      simp only [Act.put, List.setIfInBounds_toArray, List.set_cons_zero, List.set_cons_succ]
      clear Y5d Y6d
      generalize V2.drew = V3 at *
      refine wpAnyH_ready (rs := [16]) (by kernel_rfl) (by simp) (st16 (fun K hK => ?_) AllReadyH.nil)
      go_simp
      refine hK.out _ _ ?_ (fun hHeld => ?_)
      · exact HHS.out
      clear hK K
      try simp only [Act.put, List.setIfInBounds_toArray, List.set_cons_zero, List.set_cons_succ]
      refine wpAnyH_ready (rs := [17]) (by kernel_rfl) (by simp) (st17 (fun K hK => ?_) AllReadyH.nil)
      go_simp
      refine hK.out _ _ ?_ (fun hHeld => ?_)
      · exact HHS.out
      clear hK K
      try simp only [Act.put, List.setIfInBounds_toArray, List.set_cons_zero, List.set_cons_succ]
      refine tk18 (v := ?_) (by kernel_rfl) (by kernel_rfl) (by kernel_rfl) (fun _ _ _ h => h) (Or.inl ⟨by rfl, ?_⟩) hHeld ?_
      rotate_left
      · (intro w hSw; (try dsimp only at hSw); go_simp; try with_reducible rfl)
      simp only [Act.put, List.setIfInBounds_toArray, List.set_cons_zero, List.set_cons_succ]
      refine wpAnyH_ready (rs := [19]) (by kernel_rfl) (by simp) (st19 (fun K hK => ?_) AllReadyH.nil)
      obtain ⟨x0, x1, x2, x3, g0, g1, g2, g3⟩ := box4 Y3d.out
      go_simp
      refine hK.out _ _ ?_ (fun hHeld => ?_)
      · exact ⟨cell_otn (cell_otn (cell_otn (cell_otn HHS.out.1 N7 0 (.bool false)) N7 1 (.int .i64 x)) N7 2 (.int .i64 y)) N7 3 (.int .i64 z), cell_otn (cell_otn (cell_otn (cell_otn HHS.out.2.1 N7 0 (.bool false)) N7 1 (.int .i64 x)) N7 2 (.int .i64 y)) N7 3 (.int .i64 z), cell_otn (cell_otn (cell_otn (cell_otn HHS.out.2.2.1 N7 0 (.bool false)) N7 1 (.int .i64 x)) N7 2 (.int .i64 y)) N7 3 (.int .i64 z), cell_otn (cell_otn (cell_otn (cell_otn HHS.out.2.2.2.1 N7 0 (.bool false)) N7 1 (.int .i64 x)) N7 2 (.int .i64 y)) N7 3 (.int .i64 z), cell_otn (cell_otn (cell_otn (cell_otn HHS.out.2.2.2.2.1 N5 0 (.bool false)) N5 1 (.int .i64 x)) N5 2 (.int .i64 y)) N5 3 (.int .i64 z), cell_otn (cell_otn (cell_otn (cell_otn HHS.out.2.2.2.2.2 N6 0 (.bool false)) N6 1 (.int .i64 x)) N6 2 (.int .i64 y)) N6 3 (.int .i64 z)⟩
      clear hK K
      try simp only [Act.put, List.setIfInBounds_toArray, List.set_cons_zero, List.set_cons_succ]
      refine tk20 (v := ?_) (by kernel_rfl) (by kernel_rfl) (by kernel_rfl) (fun _ _ _ h => h) (Or.inl ⟨by rfl, ?_⟩) hHeld ?_
      rotate_left
      · (intro w hSw; (try dsimp only at hSw); go_simp; try with_reducible rfl)
      simp only [Act.put, List.setIfInBounds_toArray, List.set_cons_zero, List.set_cons_succ]
      refine wpAnyH_done (by kernel_rfl) ?_ _
      go_wp2_with fail
      exact bodyPost_ret (v := .tuple #[.agg #[.bool false, .int .i64 x, .int .i64 y, .int .i64 z], .bool false]) (by simp [results, Try.results90, go_sem, x0, x1, x2, x3]) rfl ⟨by simp [uV, uC], (by repeat' (first | (with_reducible exact BBd.out) | (with_reducible refine Below.setCell ?_ ?_ _) | (with_reducible refine Below.alloc ?_ ?_ _) | (with_reducible refine Below.drew ?_) | (with_reducible refine below_drewN ?_ _) | (with_reducible exact Below.refl _ _) | omega | (simp; done) | (simp; omega)))⟩
    | false =>
      cases vf with
      | true =>
        have hS : V2.drew.cell? ⟨n7, 0, none⟩ = some (.bool false) ∧ V2.drew.cell? ⟨n7, 1, none⟩ = some (.int .i64 x) ∧ V2.drew.cell? ⟨n7, 2, none⟩ = some (.int .i64 y) ∧ V2.drew.cell? ⟨n7, 3, none⟩ = some (.int .i64 z) ∧ V2.drew.cell? ⟨b5, 0, none⟩ = some (.bool false) ∧ V2.drew.cell? ⟨b6, 0, none⟩ = some (.bool true) := ⟨(Y7d 0 _ rfl).1, (Y7d 1 _ rfl).1, (Y7d 2 _ rfl).1, (Y7d 3 _ rfl).1, (Y5d 0 _ rfl).1, (Y6d 0 _ rfl).1⟩
        refine wp_region_held (S := fun w' : World => w'.cell? ⟨n7, 0, none⟩ = some (.bool false) ∧ w'.cell? ⟨n7, 1, none⟩ = some (.int .i64 x) ∧ w'.cell? ⟨n7, 2, none⟩ = some (.int .i64 y) ∧ w'.cell? ⟨n7, 3, none⟩ = some (.int .i64 z) ∧ w'.cell? ⟨b5, 0, none⟩ = some (.bool false) ∧ w'.cell? ⟨b6, 0, none⟩ = some (.bool true)) mixed ?_
        change wpAnyH _ _ _ _ _ _ _ _ V2.drew
        have HHS := Lib.hid hS
        refine tk0 (v := ?_) (by kernel_rfl) (by kernel_rfl) (by kernel_rfl) (fun _ _ _ h => h) (Or.inl ⟨by rfl, ?_⟩) hS ?_
        rotate_left
        · (intro w hSw; (try dsimp only at hSw); go_simp; try with_reducible rfl)
        simp only [Act.put, List.setIfInBounds_toArray, List.set_cons_zero, List.set_cons_succ]
        refine tk1 (v := ?_) (by kernel_rfl) (by kernel_rfl) (by kernel_rfl) (fun _ _ _ h => h) (Or.inl ⟨by rfl, ?_⟩) hS ?_
        rotate_left
        · (intro w hSw; (try dsimp only at hSw); go_simp; try with_reducible rfl)
        simp only [Act.put, List.setIfInBounds_toArray, List.set_cons_zero, List.set_cons_succ]
        refine tk2 (v := ?_) (by kernel_rfl) (by kernel_rfl) (by kernel_rfl) (fun _ _ _ h => h) (Or.inl ⟨by rfl, ?_⟩) hS ?_
        rotate_left
        · (intro w hSw; (try dsimp only at hSw); go_simp; try with_reducible rfl)
        simp only [Act.put, List.setIfInBounds_toArray, List.set_cons_zero, List.set_cons_succ]
        refine tk3 (v := ?_) (by kernel_rfl) (by kernel_rfl) (by kernel_rfl) (fun _ _ _ h => h) (Or.inl ⟨by rfl, ?_⟩) hS ?_
        rotate_left
        · (intro w hSw; (try dsimp only at hSw); go_simp; try with_reducible rfl)
        simp only [Act.put, List.setIfInBounds_toArray, List.set_cons_zero, List.set_cons_succ]
        refine tk4 (v := ?_) (by kernel_rfl) (by kernel_rfl) (by kernel_rfl) (fun _ _ _ h => h) (Or.inl ⟨by rfl, ?_⟩) hS ?_
        rotate_left
        · (intro w hSw; (try dsimp only at hSw); go_simp; try with_reducible rfl)
        simp only [Act.put, List.setIfInBounds_toArray, List.set_cons_zero, List.set_cons_succ]
        refine tk5 (v := ?_) (by kernel_rfl) (by kernel_rfl) (by kernel_rfl) (fun _ _ _ h => h) (Or.inl ⟨by rfl, ?_⟩) hS ?_
        rotate_left
        · (intro w hSw; (try dsimp only at hSw); go_simp; try with_reducible rfl)
        simp only [Act.put, List.setIfInBounds_toArray, List.set_cons_zero, List.set_cons_succ]
        refine tk6 (v := ?_) (by kernel_rfl) (by kernel_rfl) (by kernel_rfl) (fun _ _ _ h => h) (Or.inl ⟨by rfl, ?_⟩) hS ?_
        rotate_left
        · (intro w hSw; (try dsimp only at hSw); go_simp; try with_reducible rfl)
        simp only [Act.put, List.setIfInBounds_toArray, List.set_cons_zero, List.set_cons_succ]
        refine tk7 (v := ?_) (by kernel_rfl) (by kernel_rfl) (by kernel_rfl) (fun _ _ _ h => h) (Or.inl ⟨by rfl, ?_⟩) hS ?_
        rotate_left
        · (intro w hSw; (try dsimp only at hSw); go_simp; try with_reducible rfl)
        simp only [Act.put, List.setIfInBounds_toArray, List.set_cons_zero, List.set_cons_succ]
        refine tk8 (v := ?_) (by kernel_rfl) (by kernel_rfl) (by kernel_rfl) (fun _ _ _ h => h) (Or.inl ⟨by rfl, ?_⟩) hS ?_
        rotate_left
        · (intro w hSw; (try dsimp only at hSw); go_simp; try with_reducible rfl)
        simp only [Act.put, List.setIfInBounds_toArray, List.set_cons_zero, List.set_cons_succ]
        refine tk9 (v := ?_) (by kernel_rfl) (by kernel_rfl) (by kernel_rfl) (fun _ _ _ h => h) (Or.inl ⟨by rfl, ?_⟩) hS ?_
        rotate_left
        · (intro w hSw; (try dsimp only at hSw); go_simp; try with_reducible rfl)
        simp only [Act.put, List.setIfInBounds_toArray, List.set_cons_zero, List.set_cons_succ]
        refine tk10 (v := undef) (by kernel_rfl) (by kernel_rfl) (by kernel_rfl) (fun _ _ _ h => h) (Or.inr ⟨by rfl, rfl⟩) hS ?_
        simp only [Act.put, List.setIfInBounds_toArray, List.set_cons_zero, List.set_cons_succ]
        refine tk11 (v := undef) (by kernel_rfl) (by kernel_rfl) (by kernel_rfl) (fun _ _ _ h => h) (Or.inr ⟨by rfl, rfl⟩) hS ?_
        simp only [Act.put, List.setIfInBounds_toArray, List.set_cons_zero, List.set_cons_succ]
        refine tk12 (v := undef) (by kernel_rfl) (by kernel_rfl) (by kernel_rfl) (fun _ _ _ h => h) (Or.inr ⟨by rfl, rfl⟩) hS ?_
        simp only [Act.put, List.setIfInBounds_toArray, List.set_cons_zero, List.set_cons_succ]
        refine tk13 (v := undef) (by kernel_rfl) (by kernel_rfl) (by kernel_rfl) (fun _ _ _ h => h) (Or.inr ⟨by rfl, rfl⟩) hS ?_
        simp only [Act.put, List.setIfInBounds_toArray, List.set_cons_zero, List.set_cons_succ]
        refine tk14 (v := undef) (by kernel_rfl) (by kernel_rfl) (by kernel_rfl) (fun _ _ _ h => h) (Or.inr ⟨by rfl, rfl⟩) hS ?_
        simp only [Act.put, List.setIfInBounds_toArray, List.set_cons_zero, List.set_cons_succ]
        refine tk15 (v := undef) (by kernel_rfl) (by kernel_rfl) (by kernel_rfl) (fun _ _ _ h => h) (Or.inr ⟨by rfl, rfl⟩) hS ?_
        simp only [Act.put, List.setIfInBounds_toArray, List.set_cons_zero, List.set_cons_succ]
        clear Y5d Y6d
        generalize V2.drew = V3 at *
        refine wpAnyH_ready (rs := [16]) (by kernel_rfl) (by simp) (st16 (fun K hK => ?_) AllReadyH.nil)
        go_simp
        refine hK.out _ _ ?_ (fun hHeld => ?_)
        · exact HHS.out
        clear hK K
        try simp only [Act.put, List.setIfInBounds_toArray, List.set_cons_zero, List.set_cons_succ]
        refine wpAnyH_ready (rs := [17]) (by kernel_rfl) (by simp) (st17 (fun K hK => ?_) AllReadyH.nil)
        go_simp
        refine hK.out _ _ ?_ (fun hHeld => ?_)
        · exact HHS.out
        clear hK K
        try simp only [Act.put, List.setIfInBounds_toArray, List.set_cons_zero, List.set_cons_succ]
        refine tk18 (v := ?_) (by kernel_rfl) (by kernel_rfl) (by kernel_rfl) (fun _ _ _ h => h) (Or.inl ⟨by rfl, ?_⟩) hHeld ?_
        rotate_left
        · (intro w hSw; (try dsimp only at hSw); go_simp; try with_reducible rfl)
        simp only [Act.put, List.setIfInBounds_toArray, List.set_cons_zero, List.set_cons_succ]
        refine wpAnyH_ready (rs := [19]) (by kernel_rfl) (by simp) (st19 (fun K hK => ?_) AllReadyH.nil)
        obtain ⟨x0, x1, x2, x3, g0, g1, g2, g3⟩ := box4 Y3d.out
        go_simp
        refine hK.out _ _ ?_ (fun hHeld => ?_)
        · exact ⟨cell_otn (cell_otn (cell_otn (cell_otn HHS.out.1 N7 0 (.bool false)) N7 1 (.int .i64 x)) N7 2 (.int .i64 y)) N7 3 (.int .i64 z), cell_otn (cell_otn (cell_otn (cell_otn HHS.out.2.1 N7 0 (.bool false)) N7 1 (.int .i64 x)) N7 2 (.int .i64 y)) N7 3 (.int .i64 z), cell_otn (cell_otn (cell_otn (cell_otn HHS.out.2.2.1 N7 0 (.bool false)) N7 1 (.int .i64 x)) N7 2 (.int .i64 y)) N7 3 (.int .i64 z), cell_otn (cell_otn (cell_otn (cell_otn HHS.out.2.2.2.1 N7 0 (.bool false)) N7 1 (.int .i64 x)) N7 2 (.int .i64 y)) N7 3 (.int .i64 z), cell_otn (cell_otn (cell_otn (cell_otn HHS.out.2.2.2.2.1 N5 0 (.bool false)) N5 1 (.int .i64 x)) N5 2 (.int .i64 y)) N5 3 (.int .i64 z), cell_otn (cell_otn (cell_otn (cell_otn HHS.out.2.2.2.2.2 N6 0 (.bool false)) N6 1 (.int .i64 x)) N6 2 (.int .i64 y)) N6 3 (.int .i64 z)⟩
        clear hK K
        try simp only [Act.put, List.setIfInBounds_toArray, List.set_cons_zero, List.set_cons_succ]
        refine tk20 (v := ?_) (by kernel_rfl) (by kernel_rfl) (by kernel_rfl) (fun _ _ _ h => h) (Or.inl ⟨by rfl, ?_⟩) hHeld ?_
        rotate_left
        · (intro w hSw; (try dsimp only at hSw); go_simp; try with_reducible rfl)
        simp only [Act.put, List.setIfInBounds_toArray, List.set_cons_zero, List.set_cons_succ]
        refine wpAnyH_done (by kernel_rfl) ?_ _
        go_wp2_with fail
        exact bodyPost_ret (v := .tuple #[.agg #[.bool false, .int .i64 x, .int .i64 y, .int .i64 z], .bool false]) (by simp [results, Try.results90, go_sem, x0, x1, x2, x3]) rfl ⟨by simp [uV, uC], (by repeat' (first | (with_reducible exact BBd.out) | (with_reducible refine Below.setCell ?_ ?_ _) | (with_reducible refine Below.alloc ?_ ?_ _) | (with_reducible refine Below.drew ?_) | (with_reducible refine below_drewN ?_ _) | (with_reducible exact Below.refl _ _) | omega | (simp; done) | (simp; omega)))⟩
      | false =>
        have hS : V2.drew.cell? ⟨n7, 0, none⟩ = some (.bool false) ∧ V2.drew.cell? ⟨n7, 1, none⟩ = some (.int .i64 x) ∧ V2.drew.cell? ⟨n7, 2, none⟩ = some (.int .i64 y) ∧ V2.drew.cell? ⟨n7, 3, none⟩ = some (.int .i64 z) ∧ V2.drew.cell? ⟨b5, 0, none⟩ = some (.bool false) ∧ V2.drew.cell? ⟨b6, 0, none⟩ = some (.bool false) := ⟨(Y7d 0 _ rfl).1, (Y7d 1 _ rfl).1, (Y7d 2 _ rfl).1, (Y7d 3 _ rfl).1, (Y5d 0 _ rfl).1, (Y6d 0 _ rfl).1⟩
        refine wp_region_held (S := fun w' : World => w'.cell? ⟨n7, 0, none⟩ = some (.bool false) ∧ w'.cell? ⟨n7, 1, none⟩ = some (.int .i64 x) ∧ w'.cell? ⟨n7, 2, none⟩ = some (.int .i64 y) ∧ w'.cell? ⟨n7, 3, none⟩ = some (.int .i64 z) ∧ w'.cell? ⟨b5, 0, none⟩ = some (.bool false) ∧ w'.cell? ⟨b6, 0, none⟩ = some (.bool false)) mixed ?_
        change wpAnyH _ _ _ _ _ _ _ _ V2.drew
        have HHS := Lib.hid hS
        refine tk0 (v := ?_) (by kernel_rfl) (by kernel_rfl) (by kernel_rfl) (fun _ _ _ h => h) (Or.inl ⟨by rfl, ?_⟩) hS ?_
        rotate_left
        · (intro w hSw; (try dsimp only at hSw); go_simp; try with_reducible rfl)
        simp only [Act.put, List.setIfInBounds_toArray, List.set_cons_zero, List.set_cons_succ]
        refine tk1 (v := ?_) (by kernel_rfl) (by kernel_rfl) (by kernel_rfl) (fun _ _ _ h => h) (Or.inl ⟨by rfl, ?_⟩) hS ?_
        rotate_left
        · (intro w hSw; (try dsimp only at hSw); go_simp; try with_reducible rfl)
        simp only [Act.put, List.setIfInBounds_toArray, List.set_cons_zero, List.set_cons_succ]
        refine tk2 (v := ?_) (by kernel_rfl) (by kernel_rfl) (by kernel_rfl) (fun _ _ _ h => h) (Or.inl ⟨by rfl, ?_⟩) hS ?_
        rotate_left
        · (intro w hSw; (try dsimp only at hSw); go_simp; try with_reducible rfl)
        simp only [Act.put, List.setIfInBounds_toArray, List.set_cons_zero, List.set_cons_succ]
        refine tk3 (v := ?_) (by kernel_rfl) (by kernel_rfl) (by kernel_rfl) (fun _ _ _ h => h) (Or.inl ⟨by rfl, ?_⟩) hS ?_
        rotate_left
        · (intro w hSw; (try dsimp only at hSw); go_simp; try with_reducible rfl)
        simp only [Act.put, List.setIfInBounds_toArray, List.set_cons_zero, List.set_cons_succ]
        refine tk4 (v := ?_) (by kernel_rfl) (by kernel_rfl) (by kernel_rfl) (fun _ _ _ h => h) (Or.inl ⟨by rfl, ?_⟩) hS ?_
        rotate_left
        · (intro w hSw; (try dsimp only at hSw); go_simp; try with_reducible rfl)
        simp only [Act.put, List.setIfInBounds_toArray, List.set_cons_zero, List.set_cons_succ]
        refine tk5 (v := ?_) (by kernel_rfl) (by kernel_rfl) (by kernel_rfl) (fun _ _ _ h => h) (Or.inl ⟨by rfl, ?_⟩) hS ?_
        rotate_left
        · (intro w hSw; (try dsimp only at hSw); go_simp; try with_reducible rfl)
        simp only [Act.put, List.setIfInBounds_toArray, List.set_cons_zero, List.set_cons_succ]
        refine tk6 (v := ?_) (by kernel_rfl) (by kernel_rfl) (by kernel_rfl) (fun _ _ _ h => h) (Or.inl ⟨by rfl, ?_⟩) hS ?_
        rotate_left
        · (intro w hSw; (try dsimp only at hSw); go_simp; try with_reducible rfl)
        simp only [Act.put, List.setIfInBounds_toArray, List.set_cons_zero, List.set_cons_succ]
        refine tk7 (v := ?_) (by kernel_rfl) (by kernel_rfl) (by kernel_rfl) (fun _ _ _ h => h) (Or.inl ⟨by rfl, ?_⟩) hS ?_
        rotate_left
        · (intro w hSw; (try dsimp only at hSw); go_simp; try with_reducible rfl)
        simp only [Act.put, List.setIfInBounds_toArray, List.set_cons_zero, List.set_cons_succ]
        refine tk8 (v := ?_) (by kernel_rfl) (by kernel_rfl) (by kernel_rfl) (fun _ _ _ h => h) (Or.inl ⟨by rfl, ?_⟩) hS ?_
        rotate_left
        · (intro w hSw; (try dsimp only at hSw); go_simp; try with_reducible rfl)
        simp only [Act.put, List.setIfInBounds_toArray, List.set_cons_zero, List.set_cons_succ]
        refine tk9 (v := ?_) (by kernel_rfl) (by kernel_rfl) (by kernel_rfl) (fun _ _ _ h => h) (Or.inl ⟨by rfl, ?_⟩) hS ?_
        rotate_left
        · (intro w hSw; (try dsimp only at hSw); go_simp; try with_reducible rfl)
        simp only [Act.put, List.setIfInBounds_toArray, List.set_cons_zero, List.set_cons_succ]
        refine tk10 (v := ?_) (by kernel_rfl) (by kernel_rfl) (by kernel_rfl) (fun _ _ _ h => h) (Or.inl ⟨by rfl, ?_⟩) hS ?_
        rotate_left
        · (intro w hSw; (try dsimp only at hSw); go_simp; try with_reducible rfl)
        simp only [Act.put, List.setIfInBounds_toArray, List.set_cons_zero, List.set_cons_succ]
        refine tk11 (v := ?_) (by kernel_rfl) (by kernel_rfl) (by kernel_rfl) (fun _ _ _ h => h) (Or.inl ⟨by rfl, ?_⟩) hS ?_
        rotate_left
        · (intro w hSw; (try dsimp only at hSw); go_simp; try with_reducible rfl)
        simp only [Act.put, List.setIfInBounds_toArray, List.set_cons_zero, List.set_cons_succ]
        refine tk12 (v := ?_) (by kernel_rfl) (by kernel_rfl) (by kernel_rfl) (fun _ _ _ h => h) (Or.inl ⟨by rfl, ?_⟩) hS ?_
        rotate_left
        · (intro w hSw; (try dsimp only at hSw); go_simp; try with_reducible rfl)
        simp only [Act.put, List.setIfInBounds_toArray, List.set_cons_zero, List.set_cons_succ]
        refine tk13 (v := ?_) (by kernel_rfl) (by kernel_rfl) (by kernel_rfl) (fun _ _ _ h => h) (Or.inl ⟨by rfl, ?_⟩) hS ?_
        rotate_left
        · (intro w hSw; (try dsimp only at hSw); go_simp; try with_reducible rfl)
        simp only [Act.put, List.setIfInBounds_toArray, List.set_cons_zero, List.set_cons_succ]
        refine tk14 (v := ?_) (by kernel_rfl) (by kernel_rfl) (by kernel_rfl) (fun _ _ _ h => h) (Or.inl ⟨by rfl, ?_⟩) hS ?_
        rotate_left
        · (intro w hSw; (try dsimp only at hSw); go_simp; try with_reducible rfl)
        simp only [Act.put, List.setIfInBounds_toArray, List.set_cons_zero, List.set_cons_succ]
        refine tk15 (v := ?_) (by kernel_rfl) (by kernel_rfl) (by kernel_rfl) (fun _ _ _ h => h) (Or.inl ⟨by rfl, ?_⟩) hS ?_
        rotate_left
        · (intro w hSw; (try dsimp only at hSw); go_simp; try with_reducible rfl)
        simp only [Act.put, List.setIfInBounds_toArray, List.set_cons_zero, List.set_cons_succ]
        clear Y5d Y6d
        generalize V2.drew = V3 at *
        refine wpAnyH_ready (rs := [16]) (by kernel_rfl) (by simp) (st16 (fun K hK => ?_) AllReadyH.nil)
        go_simp
        have A1 := (Below.refl V3.heap.size V3).alloc (Nat.le_refl _) (.cells #[.int .i64 x, .int .i64 y, .int .i64 z] 3)
        have HH2 := Lib.hid (show (V3.alloc (.cells #[.int .i64 x, .int .i64 y, .int .i64 z] 3)).cell? ⟨n7, 0, none⟩ = some (.bool false) ∧ (V3.alloc (.cells #[.int .i64 x, .int .i64 y, .int .i64 z] 3)).cell? ⟨n7, 1, none⟩ = some (.int .i64 x) ∧ (V3.alloc (.cells #[.int .i64 x, .int .i64 y, .int .i64 z] 3)).cell? ⟨n7, 2, none⟩ = some (.int .i64 y) ∧ (V3.alloc (.cells #[.int .i64 x, .int .i64 y, .int .i64 z] 3)).cell? ⟨n7, 3, none⟩ = some (.int .i64 z) ∧ (V3.alloc (.cells #[.int .i64 x, .int .i64 y, .int .i64 z] 3)).cell? ⟨b5, 0, none⟩ = some (.bool false) ∧ (V3.alloc (.cells #[.int .i64 x, .int .i64 y, .int .i64 z] 3)).cell? ⟨b6, 0, none⟩ = some (.bool false) from ⟨(A1.cell (World.block_lt_of_cell? _ _ HHS.out.1)).trans HHS.out.1, (A1.cell (World.block_lt_of_cell? _ _ HHS.out.2.1)).trans HHS.out.2.1, (A1.cell (World.block_lt_of_cell? _ _ HHS.out.2.2.1)).trans HHS.out.2.2.1, (A1.cell (World.block_lt_of_cell? _ _ HHS.out.2.2.2.1)).trans HHS.out.2.2.2.1, (A1.cell (World.block_lt_of_cell? _ _ HHS.out.2.2.2.2.1)).trans HHS.out.2.2.2.2.1, (A1.cell (World.block_lt_of_cell? _ _ HHS.out.2.2.2.2.2)).trans HHS.out.2.2.2.2.2⟩)
        refine hK.out _ _ ?_ (fun hHeld => ?_)
        · exact HH2.out
        clear hK K
        try simp only [Act.put, List.setIfInBounds_toArray, List.set_cons_zero, List.set_cons_succ]
        have Z3 := Lib.hid (Y3d.out.bel (by simp) A1)
        have BB4 := Lib.hid (BBd.out.trans (A1.mono BBd.out.size))
        have SL := Lib.hid (slr_new3 V3 3 x y z (n7 + 1) hv1d)
        clear A1 Y3d BBd HHS
        generalize V3.alloc (.cells #[.int .i64 x, .int .i64 y, .int .i64 z] 3) = V4 at *
        refine wpAnyH_ready (rs := [17]) (by kernel_rfl) (by simp) (st17 (fun K hK => ?_) AllReadyH.nil)
        go_simp
        refine (KE.out _ _ _ _ _ SL.out).mono ?_
        rintro _ v ⟨rfl, rfl⟩
        go_wp2_with fail
        refine hK.out _ _ ?_ (fun hHeld => ?_)
        · exact HH2.out
        clear hK K
        try simp only [Act.put, List.setIfInBounds_toArray, List.set_cons_zero, List.set_cons_succ]
        refine tk18 (v := ?_) (by kernel_rfl) (by kernel_rfl) (by kernel_rfl) (fun _ _ _ h => h) (Or.inl ⟨by rfl, ?_⟩) hHeld ?_
        rotate_left
        · (intro w hSw; (try dsimp only at hSw); go_simp; try with_reducible rfl)
        simp only [Act.put, List.setIfInBounds_toArray, List.set_cons_zero, List.set_cons_succ]
        refine wpAnyH_ready (rs := [19]) (by kernel_rfl) (by simp) (st19 (fun K hK => ?_) AllReadyH.nil)
        obtain ⟨x0, x1, x2, x3, g0, g1, g2, g3⟩ := box4 Z3.out
        go_simp
        refine hK.out _ _ ?_ (fun hHeld => ?_)
        · exact ⟨cell_otn (cell_otn (cell_otn (cell_otn HH2.out.1 N7 0 (.bool false)) N7 1 (.int .i64 x)) N7 2 (.int .i64 y)) N7 3 (.int .i64 z), cell_otn (cell_otn (cell_otn (cell_otn HH2.out.2.1 N7 0 (.bool false)) N7 1 (.int .i64 x)) N7 2 (.int .i64 y)) N7 3 (.int .i64 z), cell_otn (cell_otn (cell_otn (cell_otn HH2.out.2.2.1 N7 0 (.bool false)) N7 1 (.int .i64 x)) N7 2 (.int .i64 y)) N7 3 (.int .i64 z), cell_otn (cell_otn (cell_otn (cell_otn HH2.out.2.2.2.1 N7 0 (.bool false)) N7 1 (.int .i64 x)) N7 2 (.int .i64 y)) N7 3 (.int .i64 z), cell_otn (cell_otn (cell_otn (cell_otn HH2.out.2.2.2.2.1 N5 0 (.bool false)) N5 1 (.int .i64 x)) N5 2 (.int .i64 y)) N5 3 (.int .i64 z), cell_otn (cell_otn (cell_otn (cell_otn HH2.out.2.2.2.2.2 N6 0 (.bool false)) N6 1 (.int .i64 x)) N6 2 (.int .i64 y)) N6 3 (.int .i64 z)⟩
        clear hK K
        try simp only [Act.put, List.setIfInBounds_toArray, List.set_cons_zero, List.set_cons_succ]
        refine tk20 (v := ?_) (by kernel_rfl) (by kernel_rfl) (by kernel_rfl) (fun _ _ _ h => h) (Or.inl ⟨by rfl, ?_⟩) hHeld ?_
        rotate_left
        · (intro w hSw; (try dsimp only at hSw); go_simp; try with_reducible rfl)
        simp only [Act.put, List.setIfInBounds_toArray, List.set_cons_zero, List.set_cons_succ]
        refine wpAnyH_done (by kernel_rfl) ?_ _
        go_wp2_with fail
        exact bodyPost_ret (v := .tuple #[.agg #[.bool false, .int .i64 x, .int .i64 y, .int .i64 z], .bool E]) (by simp [results, Try.results90, go_sem, x0, x1, x2, x3]) rfl ⟨by simp [uV, uC], (by repeat' (first | (with_reducible exact BB4.out) | (with_reducible refine Below.setCell ?_ ?_ _) | (with_reducible refine Below.alloc ?_ ?_ _) | (with_reducible refine Below.drew ?_) | (with_reducible refine below_drewN ?_ _) | (with_reducible exact Below.refl _ _) | omega | (simp; done) | (simp; omega)))⟩
  clear hK0 KE ew1 ew2 ew3 ew4 ew5 ew6
  have hS : W1.drew.cell? ⟨b, off, none⟩ = some (.bool uf) ∧ W1.drew.cell? ⟨b, off + 1, none⟩ = some (.int .i64 um) ∧ W1.drew.cell? ⟨b, off + 2, none⟩ = some (.int .i64 ua) ∧ W1.drew.cell? ⟨b, off + 3, none⟩ = some (.int .i64 ud) ∧ W1.drew.cell? ⟨b, off + 4, none⟩ = some (.bool vf) ∧ W1.drew.cell? ⟨b, off + 5, none⟩ = some (.int .i64 vm) ∧ W1.drew.cell? ⟨b, off + 6, none⟩ = some (.int .i64 va) ∧ W1.drew.cell? ⟨b, off + 7, none⟩ = some (.int .i64 vd) := ⟨a0, a1, a2, a3, b0, b1, b2, b3⟩
  refine wp_region_held (S := fun w' : World => w'.cell? ⟨b, off, none⟩ = some (.bool uf) ∧ w'.cell? ⟨b, off + 1, none⟩ = some (.int .i64 um) ∧ w'.cell? ⟨b, off + 2, none⟩ = some (.int .i64 ua) ∧ w'.cell? ⟨b, off + 3, none⟩ = some (.int .i64 ud) ∧ w'.cell? ⟨b, off + 4, none⟩ = some (.bool vf) ∧ w'.cell? ⟨b, off + 5, none⟩ = some (.int .i64 vm) ∧ w'.cell? ⟨b, off + 6, none⟩ = some (.int .i64 va) ∧ w'.cell? ⟨b, off + 7, none⟩ = some (.int .i64 vd)) mixed ?_
  change wpAnyH _ _ _ _ _ _ _ _ W1.drew
  refine tk0 (v := ?_) (by kernel_rfl) (by kernel_rfl) (by kernel_rfl) (fun _ _ _ h => h) (Or.inl ⟨by rfl, ?_⟩) hS ?_
  rotate_left
  · (intro w hSw; (try dsimp only at hSw); go_simp; try with_reducible rfl)
  simp only [Act.put, List.setIfInBounds_toArray, List.set_cons_zero, List.set_cons_succ]
  refine tk1 (v := ?_) (by kernel_rfl) (by kernel_rfl) (by kernel_rfl) (fun _ _ _ h => h) (Or.inl ⟨by rfl, ?_⟩) hS ?_
  rotate_left
  · (intro w hSw; (try dsimp only at hSw); go_simp; try with_reducible rfl)
  simp only [Act.put, List.setIfInBounds_toArray, List.set_cons_zero, List.set_cons_succ]
  refine tk2 (v := ?_) (by kernel_rfl) (by kernel_rfl) (by kernel_rfl) (fun _ _ _ h => h) (Or.inl ⟨by rfl, ?_⟩) hS ?_
  rotate_left
  · (intro w hSw; (try dsimp only at hSw); go_simp; try with_reducible rfl)
  simp only [Act.put, List.setIfInBounds_toArray, List.set_cons_zero, List.set_cons_succ]
  refine tk3 (v := ?_) (by kernel_rfl) (by kernel_rfl) (by kernel_rfl) (fun _ _ _ h => h) (Or.inl ⟨by rfl, ?_⟩) hS ?_
  rotate_left
  · (intro w hSw; (try dsimp only at hSw); go_simp; try with_reducible rfl)
  simp only [Act.put, List.setIfInBounds_toArray, List.set_cons_zero, List.set_cons_succ]
  refine tk4 (v := ?_) (by kernel_rfl) (by kernel_rfl) (by kernel_rfl) (fun _ _ _ h => h) (Or.inl ⟨by rfl, ?_⟩) hS ?_
  rotate_left
  · (intro w hSw; (try dsimp only at hSw); go_simp; try with_reducible rfl)
  simp only [Act.put, List.setIfInBounds_toArray, List.set_cons_zero, List.set_cons_succ]
  refine tk5 (v := ?_) (by kernel_rfl) (by kernel_rfl) (by kernel_rfl) (fun _ _ _ h => h) (Or.inl ⟨by rfl, ?_⟩) hS ?_
  rotate_left
  · (intro w hSw; (try dsimp only at hSw); go_simp; try with_reducible rfl)
  simp only [Act.put, List.setIfInBounds_toArray, List.set_cons_zero, List.set_cons_succ]
  have D1 := (Below.refl W1.heap.size W1).drew
  have M2 := Lib.hid (M1.out.bel D1)
  have X2 := Lib.hid (X1'.out.bel (by simp) D1)
  have P2 : Hid (W1.drew.cell? ⟨pb, 0, none⟩ = some (.int .i64 s)) := P1.out
  have B2 := Lib.hid (B1.out.drew)
  have hs2 : W1.drew.heap.size = w.heap.size + 1 := hs1
  clear M1 X1' P1 B1 D1
  generalize W1.drew = V1 at *
  have A1 := (Below.refl V1.heap.size V1).alloc (Nat.le_refl _) (.cells #[.bool false, .int .i64 0, .int .i64 0, .int .i64 0] 29)
  have M3 := Lib.hid (M2.out.bel A1)
  have A2 := (Below.refl (V1.alloc (.cells #[.bool false, .int .i64 0, .int .i64 0, .int .i64 0] 29)).heap.size (V1.alloc (.cells #[.bool false, .int .i64 0, .int .i64 0, .int .i64 0] 29))).alloc (Nat.le_refl _) (.cells #[.bool false, .int .i64 0, .int .i64 0, .int .i64 0] 29)
  have M4 := Lib.hid (M3.out.bel A2)
  have X5 := Lib.hid ((BoxL.new V1 [.bool false, .int .i64 0, .int .i64 0, .int .i64 0] 29).bel (by simp) A2)
  have X6 := Lib.hid (BoxL.new (V1.alloc (.cells #[.bool false, .int .i64 0, .int .i64 0, .int .i64 0] 29)) [.bool false, .int .i64 0, .int .i64 0, .int .i64 0] 29)
  have X3 := Lib.hid ((X2.out.bel (by simp) A1).bel (by simp) A2)
  have P3 : Hid (((V1.alloc (.cells #[.bool false, .int .i64 0, .int .i64 0, .int .i64 0] 29)).alloc (.cells #[.bool false, .int .i64 0, .int .i64 0, .int .i64 0] 29)).cell? ⟨pb, 0, none⟩ = some (.int .i64 s)) := ((A2.cell (p := ⟨pb, 0, none⟩) (by simp; omega)).trans (A1.cell (p := ⟨pb, 0, none⟩) (by show pb < _; omega))).trans P2.out
  have B3 : Hid (RowKit.Below w.heap.size w ((V1.alloc (.cells #[.bool false, .int .i64 0, .int .i64 0, .int .i64 0] 29)).alloc (.cells #[.bool false, .int .i64 0, .int .i64 0, .int .i64 0] 29))) := (B2.out.trans (A1.mono (by omega))).trans (A2.mono (by simp; omega))
  have sz : (V1.alloc (.cells #[.bool false, .int .i64 0, .int .i64 0, .int .i64 0] 29)).heap.size = w.heap.size + 2 := by simp; omega
  rw [sz] at X6
  rw [hs2] at X5
  clear A1 A2
  refine wpAnyH_ready (rs := [6, 7]) (by kernel_rfl) (by simp) (st6 (fun K hK => ?_) (st7 (fun K hK => ?_) AllReadyH.nil))
  · go_simp
    refine hK.out _ _ ?_ (fun hHeld => ?_)
    · exact ⟨M3.out.a0, M3.out.a1, M3.out.a2, M3.out.a3, M3.out.b0, M3.out.b1, M3.out.b2, M3.out.b3⟩
    clear hK K
    try simp only [Act.put, List.setIfInBounds_toArray, List.set_cons_zero, List.set_cons_succ]
    refine wpAnyH_ready (rs := [7]) (by kernel_rfl) (by simp) (st7 (fun K hK => ?_) AllReadyH.nil)
    go_simp
    refine hK.out _ _ ?_ (fun hHeld => ?_)
    · exact ⟨M4.out.a0, M4.out.a1, M4.out.a2, M4.out.a3, M4.out.b0, M4.out.b1, M4.out.b2, M4.out.b3⟩
    clear hK K
    try simp only [Act.put, List.setIfInBounds_toArray, List.set_cons_zero, List.set_cons_succ]
    clear M2 M3 X2 P2 B2
    generalize ((V1.alloc (.cells #[.bool false, .int .i64 0, .int .i64 0, .int .i64 0] 29)).alloc (.cells #[.bool false, .int .i64 0, .int .i64 0, .int .i64 0] 29)) = V2 at *
    refine wpAnyH_ready (rs := [8]) (by kernel_rfl) (by simp) (st8 (fun K hK => ?_) AllReadyH.nil)
    obtain ⟨x0, x1, x2, x3, g0, g1, g2, g3⟩ := box4 X5.out
    obtain ⟨y0, y1, y2, y3, k0, k1, k2, k3⟩ := box4 X6.out
    have NA : b ≠ (w.heap.size + 1) := by omega
    have NB2 : b ≠ (w.heap.size + 2) := by omega
    go_simp
    have M5 := Lib.hid ((((M4.out.other NA 0 (.bool uf)).other NA 1 (.int .i64 um)).other NA 2 (.int .i64 ua)).other NA 3 (.int .i64 ud))
    refine hK.out _ _ ?_ (fun hHeld => ?_)
    · exact ⟨M5.out.a0, M5.out.a1, M5.out.a2, M5.out.a3, M5.out.b0, M5.out.b1, M5.out.b2, M5.out.b3⟩
    clear hK K
    try simp only [Act.put, List.setIfInBounds_toArray, List.set_cons_zero, List.set_cons_succ]
    refine wpAnyH_ready (rs := [9]) (by kernel_rfl) (by simp) (st9 (fun K hK => ?_) AllReadyH.nil)
    go_simp
    have M6 := Lib.hid ((((M5.out.other NB2 0 (.bool vf)).other NB2 1 (.int .i64 vm)).other NB2 2 (.int .i64 va)).other NB2 3 (.int .i64 vd))
    refine hK.out _ _ ?_ (fun hHeld => ?_)
    · exact ⟨M6.out.a0, M6.out.a1, M6.out.a2, M6.out.a3, M6.out.b0, M6.out.b1, M6.out.b2, M6.out.b3⟩
    clear hK K
    try simp only [Act.put, List.setIfInBounds_toArray, List.set_cons_zero, List.set_cons_succ]
    refine wpAnyH_done (by kernel_rfl) ?_ _
    have Z5 := Lib.hid ((((((((X5.out.set 0 (.bool uf)).set 1 (.int .i64 um)).set 2 (.int .i64 ua)).set 3 (.int .i64 ud)).oth (r := (w.heap.size + 2)) (by omega) 0 (.bool vf)).oth (r := (w.heap.size + 2)) (by omega) 1 (.int .i64 vm)).oth (r := (w.heap.size + 2)) (by omega) 2 (.int .i64 va)).oth (r := (w.heap.size + 2)) (by omega) 3 (.int .i64 vd))
    have Z6 := Lib.hid ((((((((X6.out.oth (r := (w.heap.size + 1)) (by omega) 0 (.bool uf)).oth (r := (w.heap.size + 1)) (by omega) 1 (.int .i64 um)).oth (r := (w.heap.size + 1)) (by omega) 2 (.int .i64 ua)).oth (r := (w.heap.size + 1)) (by omega) 3 (.int .i64 ud)).set 0 (.bool vf)).set 1 (.int .i64 vm)).set 2 (.int .i64 va)).set 3 (.int .i64 vd))
    have Z3 := Lib.hid ((((((((X3.out.oth (r := (w.heap.size + 1)) (by omega) 0 (.bool uf)).oth (r := (w.heap.size + 1)) (by omega) 1 (.int .i64 um)).oth (r := (w.heap.size + 1)) (by omega) 2 (.int .i64 ua)).oth (r := (w.heap.size + 1)) (by omega) 3 (.int .i64 ud)).oth (r := (w.heap.size + 2)) (by omega) 0 (.bool vf)).oth (r := (w.heap.size + 2)) (by omega) 1 (.int .i64 vm)).oth (r := (w.heap.size + 2)) (by omega) 2 (.int .i64 va)).oth (r := (w.heap.size + 2)) (by omega) 3 (.int .i64 vd))
    refine REST.out (w.heap.size + 1) (w.heap.size + 2) _ (by omega) (by omega) (by omega) Z5 Z6 Z3 ?_ ?_
    · show World.cell? _ _ = _
      exact cell_oth (cell_oth (cell_oth (cell_oth (cell_oth (cell_oth (cell_oth (cell_oth P3.out (by omega) 0 _) (by omega) 1 _) (by omega) 2 _) (by omega) 3 _) (by omega) 0 _) (by omega) 1 _) (by omega) 2 _) (by omega) 3 _
    · show RowKit.Below _ _ _
      exact (by repeat' (first | (with_reducible exact B3.out) | (with_reducible refine Below.setCell ?_ ?_ _) | (with_reducible refine Below.alloc ?_ ?_ _) | (with_reducible refine Below.drew ?_) | (with_reducible refine below_drewN ?_ _) | (with_reducible exact Below.refl _ _) | omega | (simp; done) | (simp; omega)))
  · go_simp
    refine hK.out _ _ ?_ (fun hHeld => ?_)
    · exact ⟨M3.out.a0, M3.out.a1, M3.out.a2, M3.out.a3, M3.out.b0, M3.out.b1, M3.out.b2, M3.out.b3⟩
    clear hK K
    try simp only [Act.put, List.setIfInBounds_toArray, List.set_cons_zero, List.set_cons_succ]
    refine wpAnyH_ready (rs := [6]) (by kernel_rfl) (by simp) (st6 (fun K hK => ?_) AllReadyH.nil)
    go_simp
    refine hK.out _ _ ?_ (fun hHeld => ?_)
    · exact ⟨M4.out.a0, M4.out.a1, M4.out.a2, M4.out.a3, M4.out.b0, M4.out.b1, M4.out.b2, M4.out.b3⟩
    clear hK K
    try simp only [Act.put, List.setIfInBounds_toArray, List.set_cons_zero, List.set_cons_succ]
    clear M2 M3 X2 P2 B2
    generalize ((V1.alloc (.cells #[.bool false, .int .i64 0, .int .i64 0, .int .i64 0] 29)).alloc (.cells #[.bool false, .int .i64 0, .int .i64 0, .int .i64 0] 29)) = V2 at *
    refine wpAnyH_ready (rs := [8]) (by kernel_rfl) (by simp) (st8 (fun K hK => ?_) AllReadyH.nil)
    obtain ⟨x0, x1, x2, x3, g0, g1, g2, g3⟩ := box4 X6.out
    obtain ⟨y0, y1, y2, y3, k0, k1, k2, k3⟩ := box4 X5.out
    have NA : b ≠ (w.heap.size + 2) := by omega
    have NB2 : b ≠ (w.heap.size + 1) := by omega
    go_simp
    have M5 := Lib.hid ((((M4.out.other NA 0 (.bool uf)).other NA 1 (.int .i64 um)).other NA 2 (.int .i64 ua)).other NA 3 (.int .i64 ud))
    refine hK.out _ _ ?_ (fun hHeld => ?_)
    · exact ⟨M5.out.a0, M5.out.a1, M5.out.a2, M5.out.a3, M5.out.b0, M5.out.b1, M5.out.b2, M5.out.b3⟩
    clear hK K
    try simp only [Act.put, List.setIfInBounds_toArray, List.set_cons_zero, List.set_cons_succ]
    refine wpAnyH_ready (rs := [9]) (by kernel_rfl) (by simp) (st9 (fun K hK => ?_) AllReadyH.nil)
    go_simp
    have M6 := Lib.hid ((((M5.out.other NB2 0 (.bool vf)).other NB2 1 (.int .i64 vm)).other NB2 2 (.int .i64 va)).other NB2 3 (.int .i64 vd))
    refine hK.out _ _ ?_ (fun hHeld => ?_)
    · exact ⟨M6.out.a0, M6.out.a1, M6.out.a2, M6.out.a3, M6.out.b0, M6.out.b1, M6.out.b2, M6.out.b3⟩
    clear hK K
    try simp only [Act.put, List.setIfInBounds_toArray, List.set_cons_zero, List.set_cons_succ]
    refine wpAnyH_done (by kernel_rfl) ?_ _
    have Z5 := Lib.hid ((((((((X6.out.set 0 (.bool uf)).set 1 (.int .i64 um)).set 2 (.int .i64 ua)).set 3 (.int .i64 ud)).oth (r := (w.heap.size + 1)) (by omega) 0 (.bool vf)).oth (r := (w.heap.size + 1)) (by omega) 1 (.int .i64 vm)).oth (r := (w.heap.size + 1)) (by omega) 2 (.int .i64 va)).oth (r := (w.heap.size + 1)) (by omega) 3 (.int .i64 vd))
    have Z6 := Lib.hid ((((((((X5.out.oth (r := (w.heap.size + 2)) (by omega) 0 (.bool uf)).oth (r := (w.heap.size + 2)) (by omega) 1 (.int .i64 um)).oth (r := (w.heap.size + 2)) (by omega) 2 (.int .i64 ua)).oth (r := (w.heap.size + 2)) (by omega) 3 (.int .i64 ud)).set 0 (.bool vf)).set 1 (.int .i64 vm)).set 2 (.int .i64 va)).set 3 (.int .i64 vd))
    have Z3 := Lib.hid ((((((((X3.out.oth (r := (w.heap.size + 2)) (by omega) 0 (.bool uf)).oth (r := (w.heap.size + 2)) (by omega) 1 (.int .i64 um)).oth (r := (w.heap.size + 2)) (by omega) 2 (.int .i64 ua)).oth (r := (w.heap.size + 2)) (by omega) 3 (.int .i64 ud)).oth (r := (w.heap.size + 1)) (by omega) 0 (.bool vf)).oth (r := (w.heap.size + 1)) (by omega) 1 (.int .i64 vm)).oth (r := (w.heap.size + 1)) (by omega) 2 (.int .i64 va)).oth (r := (w.heap.size + 1)) (by omega) 3 (.int .i64 vd))
    refine REST.out (w.heap.size + 2) (w.heap.size + 1) _ (by omega) (by omega) (by omega) Z5 Z6 Z3 ?_ ?_
    · show World.cell? _ _ = _
      exact cell_oth (cell_oth (cell_oth (cell_oth (cell_oth (cell_oth (cell_oth (cell_oth P3.out (by omega) 0 _) (by omega) 1 _) (by omega) 2 _) (by omega) 3 _) (by omega) 0 _) (by omega) 1 _) (by omega) 2 _) (by omega) 3 _
    · show RowKit.Below _ _ _
      exact (by repeat' (first | (with_reducible exact B3.out) | (with_reducible refine Below.setCell ?_ ?_ _) | (with_reducible refine Below.alloc ?_ ?_ _) | (with_reducible refine Below.drew ?_) | (with_reducible refine below_drewN ?_ _) | (with_reducible exact Below.refl _ _) | omega | (simp; done) | (simp; omega)))
end Go.Proofs.Ytjifiijgghpniaa
/-
  The map of operators, and what calling one of them gives.
-/
namespace Go.Proofs.Ytjifiijgghpniaa
open Go.RowKit Un MapKept

/-- The operators, by number. -/
def opF (fb p1 p2 : Nat) : Int → Option Value :=
  updF (updF (updF (updF (updF (updF (updF (updF (updF (updF (updF (updF (updF (updF (updF ((fun _ => none)) 3 (.func (.func 72) #[] #[])) 4 (.func (.func 72) #[] #[])) 5 (.func (.func 90) #[] #[.pointer (some ⟨p1, 0, none⟩)])) 6 (.func (.func 90) #[] #[.pointer (some ⟨p2, 0, none⟩)])) 7 (.func (.func 72) #[] #[])) 8 (.func (.func 72) #[] #[])) 9 (.func (.func 73) #[] #[.pointer (some ⟨fb, 0, none⟩)])) 10 (.func (.func 73) #[] #[.pointer (some ⟨fb, 0, none⟩)])) 11 (.func (.func 74) #[] #[.pointer (some ⟨fb, 0, none⟩)])) 12 (.func (.func 74) #[] #[.pointer (some ⟨fb, 0, none⟩)])) 13 (.func (.func 75) #[] #[.pointer (some ⟨fb, 0, none⟩)])) 14 (.func (.func 75) #[] #[.pointer (some ⟨fb, 0, none⟩)])) 15 (.func (.func 75) #[] #[.pointer (some ⟨fb, 0, none⟩)])) 16 (.func (.func 77) #[] #[])) 17 (.func (.func 75) #[] #[.pointer (some ⟨fb, 0, none⟩)])
structure OpB (w0 w : World) (f : Int → Option Value) (ps : List (Nat × Int)) : Prop where
  mp : MapF kI (.int .i64) w (w0.heap.size + 1) f
  fl : FlagM w w0.heap.size
  be : RowKit.Below w0.heap.size w0 w
  pw : ∀ q ∈ ps, w.cell? ⟨q.1, 0, none⟩ = some (.int .i64 q.2) ∧ q.1 ≠ w0.heap.size + 1
theorem OpB.ins {w0 w w' : World} {f : Int → Option Value} {ps : List (Nat × Int)} (h : OpB w0 w f ps) {g : Int → Option Value} (hm : MapF kI (.int .i64) w' (w0.heap.size + 1) g) (hk : Kept (w0.heap.size + 1) w w') : OpB w0 w' g ps :=
  ⟨hm, h.fl.at (hk.block _ h.fl.lt (by omega)), h.be.trans (hk.below (by omega) h.be.size), fun q hq => ⟨(World.cell?_of_block (w := w) (a := ⟨q.1, 0, none⟩) (hk.block _ (World.block_lt_of_cell? _ _ (h.pw q hq).1) (h.pw q hq).2)).trans (h.pw q hq).1, (h.pw q hq).2⟩⟩
theorem OpB.call {w0 w w' : World} {f : Int → Option Value} {ps : List (Nat × Int)} (h : OpB w0 w f ps) {s : Int} (hb : RowKit.Below w.heap.size w w') (hc : w'.cell? ⟨w.heap.size, 0, none⟩ = some (.int .i64 s)) : OpB w0 w' f (ps ++ [(w.heap.size, s)]) :=
  ⟨h.mp.bel hb, h.fl.bel hb, h.be.trans (hb.mono h.be.size), fun q hq => by
    rcases List.mem_append.1 hq with hq | hq
    · exact ⟨(hb.cell (p := ⟨q.1, 0, none⟩) (World.block_lt_of_cell? _ _ (h.pw q hq).1)).trans (h.pw q hq).1, (h.pw q hq).2⟩
    · rw [List.mem_singleton.1 hq]
      have := h.mp.lt
      exact ⟨hc, by simp only; omega⟩⟩
theorem und_ops : Try.prog.underlying 70 = some (.map 3 90) := by kernel_rfl
theorem und_int : Try.prog.underlying 3 = some (.int .i64) := by kernel_rfl
theorem wpList_insF {w0 w : World} {ops : Array Oper} {rest : List Oper} {o : Oper} {a : Act} {Q : Exit → Act → World → Prop} {f : Int → Option Value} {ps : List (Nat × Int)} (hg : o.guard = none) (m v : Operand) (k : Int) (x : Value) (hop : o.op = Op.insert 70 m (.const (.int .i64 k)) v)
    (hm : a.eval m = .map (some (w0.heap.size + 1))) (hv : a.eval v = x) (h : OpB w0 w f ps)
    (hK : ∀ w', OpB w0 w' (updF f k x) ps → wpList Try.prog ops Q rest (a.put o.dst undef) w') :
    wpList Try.prog ops Q (o :: rest) a w := by
  refine wpList_plain hg fun K' hK' => ?_
  obtain ⟨ob, hr, hm2⟩ := h.mp.update und_ops und_int k (by rfl) (fun x hx => kI_inj _ _ hx) x
  have hr : (Instr.mapUpdate 70 (.map (some (w0.heap.size + 1))) (.int .i64 k) x).run Try.prog w = .ok () { w with heap := w.heap.setIfInBounds (w0.heap.size + 1) ob } := hr
  have he : a.eval (.const (.int .i64 k)) = .int .i64 k := rfl
  unfold Oper.wp
  simp [execOp, hop, hm, hv, he, hr, Result.andThen]
  exact hK' _ _ (hK _ (h.ins hm2 (kept_set (Kept.refl _ _) _)))
/-- What scopes know of operators. -/
structure OpsR (w : World) (mb fb p1 p2 : Nat) : Prop where
  mp : MapF kI (.int .i64) w mb (opF fb p1 p2)
  fl : FlagM w fb
  c1 : w.cell? ⟨p1, 0, none⟩ = some (.int .i64 1)
  c2 : w.cell? ⟨p2, 0, none⟩ = some (.int .i64 (-1))
theorem OpsR.bel {w w1 : World} {mb fb p1 p2 : Nat} (h : OpsR w mb fb p1 p2) (hB : RowKit.Below w.heap.size w w1) : OpsR w1 mb fb p1 p2 :=
  ⟨h.mp.bel hB, h.fl.bel hB, (hB.cell (p := ⟨p1, 0, none⟩) (World.block_lt_of_cell? _ _ h.c1)).trans h.c1, (hB.cell (p := ⟨p2, 0, none⟩) (World.block_lt_of_cell? _ _ h.c2)).trans h.c2⟩
set_option maxRecDepth 100000 in
set_option maxHeartbeats 8000000 in
theorem uoperators_any (w : World) : Calls Try.prog 54 #[] w fun e w' => ∃ mb fb p1 p2, e = .returned (.map (some mb)) ∧ OpsR w' mb fb p1 p2 ∧ RowKit.Below w.heap.size w w' := by
  have hmm := @run_makeMap Try.prog
  have hmf : ∀ (fn : Fn) (first cap : Array Value) (w : World), (Instr.makeFunc fn first cap).run Try.prog w = .ok (.func fn first cap) w := fun _ _ _ _ => rfl
  have KP := Lib.hid uproduct_any
  have H : Hid (OpB w ((w.alloc (.cells #[.bool true, .int .i64 0, .int .i64 0, .int .i64 0] 29)).alloc (.map #[] 0)) (fun _ => none) []) := by
    have A1 := (Below.refl w.heap.size w).alloc (Nat.le_refl _) (.cells #[.bool true, .int .i64 0, .int .i64 0, .int .i64 0] 29)
    have A2 := (Below.refl (w.alloc (.cells #[.bool true, .int .i64 0, .int .i64 0, .int .i64 0] 29)).heap.size (w.alloc (.cells #[.bool true, .int .i64 0, .int .i64 0, .int .i64 0] 29))).alloc (Nat.le_refl _) (.map #[] 0)
    have hm := MapF.new kI (.int .i64) (w.alloc (.cells #[.bool true, .int .i64 0, .int .i64 0, .int .i64 0] 29))
    have hs : (w.alloc (.cells #[.bool true, .int .i64 0, .int .i64 0, .int .i64 0] 29)).heap.size = w.heap.size + 1 := by simp
    rw [hs] at hm
    have hb := box4 (BoxL.new w [.bool true, .int .i64 0, .int .i64 0, .int .i64 0] 29)
    have hf : FlagM (w.alloc (.cells #[.bool true, .int .i64 0, .int .i64 0, .int .i64 0] 29)) w.heap.size := ⟨hb.1, hb.2.1, hb.2.2.1, hb.2.2.2.1⟩
    exact ⟨hm, hf.bel A2, A1.trans (A2.mono (by omega)), fun q hq => by cases hq⟩
  go_enter Try.func54, Try.ntmps54
  go_wp2_with (first
    | (refine (KP.out _ _).mono ?_; rintro _ v5 ⟨rfl, hc, hb⟩; replace H := Lib.hid (H.out.call hb hc); clear hc hb)
    | (refine (KP.out _ _).mono ?_; rintro _ v6 ⟨rfl, hc, hb⟩; replace H := Lib.hid (H.out.call hb hc); clear hc hb)
    | (refine wpList_insF rfl _ _ _ _ rfl rfl rfl H.out ?_; clear H; intro w1 h1; have H := Lib.hid h1; clear h1))
  go_ret
  exact ⟨_, _, _, _, rfl, ⟨H.out.mp, H.out.fl, (H.out.pw (_, 1) (by simp)).1, (H.out.pw (_, -1) (by simp)).1⟩, H.out.be⟩
/-- What an operator gives: its unit, or that there is none. -/
def OpOut (op : Int) (us : List U) (e : Ending) : Prop := ∃ val ok, e = .returned (.tuple #[val, .bool ok]) ∧ match opU op us with | some x => val = uV x ∧ ok = true | none => ok = false ∧ ∃ x, val = uV x
theorem expo3 (a b : Bool) (x y z : Bool) : (!a && !b && (x && (y && z))) = decide (a = false ∧ b = false ∧ x = true ∧ y = true ∧ z = true) := by cases a <;> cases b <;> cases x <;> cases y <;> cases z <;> rfl
theorem OpOut.of {op : Int} {us : List U} {e : Ending} {x : U} {c : Prop} [Decidable c] {d : Bool} (hx : opU op us = if c then some x else none) (hd : d = decide c) (he : e = .returned (.tuple #[uV x, .bool d])) : OpOut op us e := by
  refine ⟨_, _, he, ?_⟩
  rw [hx]
  by_cases h : c
  · rw [if_pos h, hd]; exact ⟨rfl, decide_eq_true h⟩
  · rw [if_neg h, hd]; exact ⟨decide_eq_false h, _, rfl⟩
theorem op_any {w : World} {mb fb p1 p2 : Nat} (h : OpsR w mb fb p1 p2) (op : Int) (us : List U) (p : Option Addr) (b off c : Nat) (hS : SlR w p b off us.length 4 (us.map uC)) (hl : (us.length : Int) = arity op) (h1 : op ≠ 1) (h2 : op ≠ 2) (hs : ∀ u ∈ us, sU u) :
    ∃ F caps, opF fb p1 p2 op = some (.func (.func F) #[] caps) ∧ (∀ (args : Array Value) (w : World), (callFunc F args).run Try.prog w = .ok (.enter F args) w) ∧ Calls Try.prog F (#[.slice p us.length c] ++ caps) w fun e w' => OpOut op us e ∧ RowKit.Below w.heap.size w w' := by
  have hop : op = 3 ∨ op = 4 ∨ op = 5 ∨ op = 6 ∨ op = 7 ∨ op = 8 ∨ op = 9 ∨ op = 10 ∨ op = 11 ∨ op = 12 ∨ op = 13 ∨ op = 14 ∨ op = 15 ∨ op = 16 ∨ op = 17 := by
    unfold arity at hl
    split at hl
    · omega
    · split at hl
      · omega
      · split at hl
        · omega
        · split at hl
          · omega
          · omega
  have two : arity op = 2 → ∃ u v, us = [u, v] := fun e => by
    rw [e] at hl
    match us, hl with
    | [u, v], _ => exact ⟨u, v, rfl⟩
    | [], h => simp at h
    | [_], h => simp at h
    | _ :: _ :: _ :: _, h => simp at h; omega
  rcases hop with rfl | rfl | rfl | rfl | rfl | rfl | rfl | rfl | rfl | rfl | rfl | rfl | rfl | rfl | rfl
  case inl | inr.inl | inr.inr.inr.inr.inl | inr.inr.inr.inr.inr.inl =>
    obtain ⟨u, v, rfl⟩ := two rfl
    obtain ⟨rfl, g⟩ := U2.of hS
    exact ⟨72, #[], by rfl, fun _ _ => by kernel_rfl, (opAlike u v b off c w g).mono fun _ _ ⟨he, hb⟩ => ⟨OpOut.of (x := u) (c := u = v ∧ u.f = false) rfl (by cases u.f <;> simp) he, hb⟩⟩
  case inr.inr.inl =>
    obtain ⟨u, v, rfl⟩ := two rfl
    obtain ⟨rfl, g⟩ := U2.of hS
    exact ⟨90, #[.pointer (some ⟨p1, 0, none⟩)], by rfl, fun _ _ => by kernel_rfl, (opProduct 1 u v b off c p1 w (hs u (by simp)) (hs v (by simp)) (.inl rfl) g h.c1).mono fun _ _ ⟨he, hb⟩ => ⟨OpOut.of (x := mulU 1 u v) (c := u.f = false ∧ v.f = false ∧ expo (mulU 1 u v).m = true ∧ expo (mulU 1 u v).a = true ∧ expo (mulU 1 u v).d = true) rfl (expo3 _ _ _ _ _) he, hb⟩⟩
  case inr.inr.inr.inl =>
    obtain ⟨u, v, rfl⟩ := two rfl
    obtain ⟨rfl, g⟩ := U2.of hS
    exact ⟨90, #[.pointer (some ⟨p2, 0, none⟩)], by rfl, fun _ _ => by kernel_rfl, (opProduct (-1) u v b off c p2 w (hs u (by simp)) (hs v (by simp)) (.inr rfl) g h.c2).mono fun _ _ ⟨he, hb⟩ => ⟨OpOut.of (x := mulU (-1) u v) (c := u.f = false ∧ v.f = false ∧ expo (mulU (-1) u v).m = true ∧ expo (mulU (-1) u v).a = true ∧ expo (mulU (-1) u v).d = true) rfl (expo3 _ _ _ _ _) he, hb⟩⟩
  case inr.inr.inr.inr.inr.inr.inl | inr.inr.inr.inr.inr.inr.inr.inl =>
    obtain ⟨u, v, rfl⟩ := two rfl
    obtain ⟨rfl, g⟩ := U2.of hS
    exact ⟨73, #[.pointer (some ⟨fb, 0, none⟩)], by rfl, fun _ _ => by kernel_rfl, (opEqual u v b off c fb w g h.fl).mono fun _ _ ⟨he, hb⟩ => ⟨OpOut.of (x := uFlag) (c := u = v) rfl rfl he, hb⟩⟩
  case inr.inr.inr.inr.inr.inr.inr.inr.inl | inr.inr.inr.inr.inr.inr.inr.inr.inr.inl =>
    obtain ⟨u, v, rfl⟩ := two rfl
    obtain ⟨rfl, g⟩ := U2.of hS
    exact ⟨74, #[.pointer (some ⟨fb, 0, none⟩)], by rfl, fun _ _ => by kernel_rfl, (opOrder u v b off c fb w g h.fl).mono fun _ _ ⟨he, hb⟩ => ⟨OpOut.of (x := uFlag) (c := u = v ∧ u.f = false) rfl (by cases u.f <;> simp) he, hb⟩⟩
  case inr.inr.inr.inr.inr.inr.inr.inr.inr.inr.inl | inr.inr.inr.inr.inr.inr.inr.inr.inr.inr.inr.inl =>
    obtain ⟨u, v, rfl⟩ := two rfl
    exact ⟨75, #[.pointer (some ⟨fb, 0, none⟩)], by rfl, fun _ _ => by kernel_rfl, (opLogic [u, v] p b off c fb w hS h.fl).mono fun _ _ ⟨he, hb⟩ => ⟨OpOut.of (x := uFlag) (c := u.f = true ∧ v.f = true) rfl (by cases hu : u.f <;> cases hv : v.f <;> simp [hu, hv]) he, hb⟩⟩
  case inr.inr.inr.inr.inr.inr.inr.inr.inr.inr.inr.inr.inl =>
    obtain ⟨u, rfl⟩ : ∃ u, us = [u] := by
      match us, hl with
      | [u], _ => exact ⟨u, rfl⟩
      | [], h => simp [arity] at h
      | _ :: _ :: _, h => simp [arity] at h; omega
    exact ⟨75, #[.pointer (some ⟨fb, 0, none⟩)], by rfl, fun _ _ => by kernel_rfl, (opLogic [u] p b off c fb w hS h.fl).mono fun _ _ ⟨he, hb⟩ => ⟨OpOut.of (x := uFlag) (c := (15 : Int) = 15 ∧ u.f = true) rfl (by cases hu : u.f <;> simp [hu]) he, hb⟩⟩
  case inr.inr.inr.inr.inr.inr.inr.inr.inr.inr.inr.inr.inr.inl =>
    obtain ⟨u, v, x, rfl⟩ : ∃ u v x, us = [u, v, x] := by
      match us, hl with
      | [u, v, x], _ => exact ⟨u, v, x, rfl⟩
      | [], h => simp [arity] at h
      | [_], h => simp [arity] at h
      | [_, _], h => simp [arity] at h
      | _ :: _ :: _ :: _ :: _, h => simp [arity] at h; omega
    have hq := hS.ptr (by simp)
    subst hq
    have h0 := (hS.at_ 0 _ rfl).2
    have h1 := (hS.at_ 1 _ rfl).2
    have h2 := (hS.at_ 2 _ rfl).2
    simp only [Nat.zero_mul, Nat.add_zero, Nat.one_mul] at h0 h1 h2
    have g1 : U2 w b off u v := ⟨h0 0 _ rfl, h0 1 _ rfl, h0 2 _ rfl, h0 3 _ rfl, h1 0 _ rfl, h1 1 _ rfl, h1 2 _ rfl, h1 3 _ rfl⟩
    have g2 : U2 w b (off + 4) v x := ⟨h1 0 _ rfl, h1 1 _ rfl, h1 2 _ rfl, h1 3 _ rfl, h2 0 _ rfl, h2 1 _ rfl, h2 2 _ rfl, h2 3 _ rfl⟩
    exact ⟨77, #[], by rfl, fun _ _ => by kernel_rfl, (opChoice u v x b off c w g1 g2).mono fun _ _ ⟨he, hb⟩ => ⟨OpOut.of (x := v) (c := (16 : Int) = 16 ∧ u.f = true ∧ v = x) rfl (by cases hu : u.f <;> simp) he, hb⟩⟩
  case inr.inr.inr.inr.inr.inr.inr.inr.inr.inr.inr.inr.inr.inr =>
    obtain rfl : us = [] := by
      match us, hl with
      | [], _ => rfl
      | _ :: _, h => simp [arity] at h; omega
    exact ⟨75, #[.pointer (some ⟨fb, 0, none⟩)], by rfl, fun _ _ => by kernel_rfl, (opLogic [] p b off c fb w hS h.fl).mono fun _ _ ⟨he, hb⟩ => ⟨OpOut.of (x := uFlag) (c := (17 : Int) = 17) rfl (by simp) he, hb⟩⟩
end Go.Proofs.Ytjifiijgghpniaa
/-
  Errors of the call's own in memory; maps within walks.
-/
namespace Go.Proofs.Ytjifiijgghpniaa
open Go.RowKit Un MapKept

theorem info_G : (Try.prog.info? 66).map (fun i => (i.zero.map (·.cells.size), i.size, decide (i.bytes ≤ 1000))) = some (some 2, 2, true) := by kernel_rfl
/-- An error's two cells. -/
def gC (e : Int × Int) : List Value := [.int .i64 e.1, .int .i64 e.2]
theorem own_heap {w w' : World} {base E size n : Nat} {v : Value} {xs : List Value} (h : w.ownsRow base E size v n xs) (hb : ∀ j, v.ownBlock = some j → j < w.heap.size → w'.heap[j]? = w.heap[j]?) : w'.ownsRow base E size v n xs := by
  refine ⟨h.1, ?_⟩
  rcases h.2 with h0 | ⟨g, cap, cur, rfl, h1, h2, h3⟩
  · exact .inl h0
  · refine .inr ⟨g, cap, cur, rfl, h1, ?_, h3⟩
    rw [hb g rfl (Array.getElem?_eq_some_iff.1 h2).1]; exact h2
/-- A slice of errors that only this call knows. -/
structure DgO (w : World) (base : Nat) (v : Value) (l : List (Int × Int)) : Prop where
  own : w.ownsRow base 66 2 v l.length (l.flatMap gC)
  bs : base ≤ w.heap.size
theorem DgO.nil (w : World) (base : Nat) (hb : base ≤ w.heap.size) : DgO w base (.slice none 0 0) [] := ⟨⟨rfl, .inl ⟨rfl, rfl⟩⟩, hb⟩
theorem DgO.keep {w w' : World} {base : Nat} {v : Value} {l : List (Int × Int)} (h : DgO w base v l) (hs : w.heap.size ≤ w'.heap.size) (hb : ∀ j, v.ownBlock = some j → j < w.heap.size → w'.heap[j]? = w.heap[j]?) : DgO w' base v l := ⟨own_heap h.own hb, Nat.le_trans h.bs hs⟩
theorem DgO.bel {w w' : World} {base : Nat} {v : Value} {l : List (Int × Int)} (h : DgO w base v l) (hB : RowKit.Below w.heap.size w w') : DgO w' base v l := h.keep hB.size (fun j _ hj => hB.block j hj)
theorem DgO.lt {w : World} {base : Nat} {v : Value} {l : List (Int × Int)} (h : DgO w base v l) (j : Nat) (hj : v.ownBlock = some j) : base ≤ j ∧ j < w.heap.size := h.own.lt j hj
/-- One error is appended. -/
theorem DgO.app {w : World} {base : Nat} {q : Option Addr} {cap : Nat} {l : List (Int × Int)} (h : DgO w base (.slice q l.length cap) l) (hl : l.length ≤ 1000000) (pl e : Int) (ty : TypeId) :
    ∃ q' cap' W2, (Builtin.append_ #[41, 41] ty #[.slice q l.length cap, .slice (some ⟨w.heap.size, 0, none⟩) 1 1]).run Try.prog (w.alloc (.cells #[.int .i64 pl, .int .i64 e] 66)) = .ok (.slice q' (l ++ [(pl, e)]).length cap') W2 ∧ DgO W2 base (.slice q' (l ++ [(pl, e)]).length cap') (l ++ [(pl, e)]) ∧ w.heap.size ≤ W2.heap.size ∧ W2.os = w.os ∧ W2.tape = w.tape ∧ W2.output = w.output ∧ ∀ j, j < w.heap.size → (Value.slice q l.length cap).ownBlock ≠ some j → W2.heap[j]? = w.heap[j]? := by
  have b1 := (Below.refl w.heap.size w).alloc (Nat.le_refl _) (.cells #[.int .i64 pl, .int .i64 e] 66)
  have a1 := At2.new w (.int .i64 pl) (.int .i64 e) 66
  have h1 := h.bel b1
  obtain ⟨v', W2, hr, hown, hgr, hob⟩ := run_app1 41 66 2 Try.underlying41 info_G (by decide) _ base ty _ _ _ h1.own w.heap.size (gC (pl, e)) rfl
    (fun j u hu => by
      match j, hu with
      | 0, hu => simp [gC] at hu; subst hu; exact a1.c0
      | 1, hu => simp [gC] at hu; subst hu; exact a1.c1
      | j + 2, hu => simp [gC] at hu) (by simp [gC, Value.oneCell']) hl h1.bs
  obtain ⟨q', cap', rfl⟩ := own_slice hown
  have hs : w.heap.size ≤ W2.heap.size := Nat.le_trans b1.size hgr.size
  refine ⟨q', cap', W2, by rw [hr]; simp, ⟨by simpa using hown, Nat.le_trans h.bs hs⟩, hs, hgr.os.trans b1.os, hgr.tape.trans b1.tape, hgr.output.trans b1.output, fun j hj hn => ?_⟩
  exact (hgr.block j (by simp; omega) (fun e => hn e.symm)).trans (b1.block j hj)
theorem DgO.slice {w : World} {base : Nat} {v : Value} {l : List (Int × Int)} (h : DgO w base v l) : ∃ q cap, v = .slice q l.length cap := own_slice h.own
section
variable {P : Program} {ops : Array Oper} {rest : List Oper} {o : Oper} {a : Act} {w w' : World} {Q : Exit → Act → World → Prop} {T : TypeId} {v vm vk : Value}
theorem wl_lookup (m k : Operand) (ok : Bool) (hgd : o.guard = none) (ho : o.op = .lookup T m k ok) (hm : a.eval m = vm) (hk : a.eval k = vk) (hr : (Instr.lookup T vm vk ok).run P w = .ok v w) (h : wpList P ops Q rest (a.put o.dst v) w) : wpList P ops Q (o :: rest) a w := wpList_plain hgd fun _ hK => by
  unfold Oper.wp execOp
  simp only [ho, Sem.run_bind, Sem.run_pure, hm, hk, hr]
  exact hK _ _ h
theorem wl_mapset (m k x : Operand) (hgd : o.guard = none) (ho : o.op = .mapUpdate T m k x) (hm : a.eval m = vm) (hk : a.eval k = vk) (hx : a.eval x = v) (hr : (Instr.mapUpdate T vm vk v).run P w = .ok () w') (h : wpList P ops Q rest (a.put o.dst undef) w') : wpList P ops Q (o :: rest) a w := wpList_plain hgd fun _ hK => by
  unfold Oper.wp execOp
  simp only [ho, Sem.run_bind, Sem.run_pure, hm, hk, hx, hr]
  exact hK _ _ h
end
theorem und_str : Try.prog.underlying 9 = some .string := by kernel_rfl
theorem und_nms : Try.prog.underlying 92 = some (.map 9 4) := by kernel_rfl
theorem und_fts : Try.prog.underlying 69 = some (.map 9 29) := by kernel_rfl
theorem zero_bool (w : World) : (zeroValue 4).run Try.prog w = .ok (.bool false) w := by kernel_rfl
theorem zero_unit (w : World) : (zeroValue 29).run Try.prog w = .ok (uV uNum) w := by kernel_rfl
end Go.Proofs.Ytjifiijgghpniaa
/-
  Contract of units: factErrors.
-/
namespace Go.Proofs.Ytjifiijgghpniaa
open Go.RowKit Un MapKept

/-- The names that were there. -/
def nmF (l : List Dc) : List UInt8 → Option Value := fun s => if l.any (fun e => e.nm == s) then some (.bool true) else none
theorem nmF_snoc (l : List Dc) (d : Dc) : updF (nmF l) d.nm (.bool true) = nmF (l ++ [d]) := by
  funext s
  simp only [updF, nmF, List.any_append, List.any_cons, List.any_nil, Bool.or_false]
  by_cases h : s = d.nm
  · subst h; simp
  · rw [if_neg h]
    have : (d.nm == s) = false := by simpa using Ne.symm h
    rw [this, Bool.or_false]
theorem prodC_snoc (l : List Dc) (d : Dc) : prodC (l ++ [d]) = cases1 (prodC l) d := by simp [prodC]
theorem cases1_rng {c : Int} {d : Dc} (h : 1 ≤ c ∧ c ≤ 4097) : 1 ≤ cases1 c d ∧ cases1 c d ≤ 4097 := by
  unfold cases1 bounded
  split
  · rename_i hb
    simp only [Bool.and_eq_true, decide_eq_true_eq] at hb
    have h1 : 1 ≤ d.hi - d.lo + 1 := by omega
    have h2 : 1 ≤ c * (d.hi - d.lo + 1) := Int.mul_pos (by omega) h1
    omega
  · exact h
theorem prodC_rng (l : List Dc) : 1 ≤ prodC l ∧ prodC l ≤ 4097 := by
  suffices ∀ (l : List Dc) (c : Int), 1 ≤ c ∧ c ≤ 4097 → 1 ≤ l.foldl cases1 c ∧ l.foldl cases1 c ≤ 4097 from this l 1 (by omega)
  intro l
  induction l with
  | nil => intro c h; exact h
  | cons d l ih => intro c h; exact ih _ (cases1_rng h)
/-- How things stand within factErrors. -/
structure FeS (w0 w : World) (pre : List Dc) (v : Value) (es : List (Int × Int)) : Prop where
  dg : DgO w (w0.heap.size + 1) v es
  mp : MapF kS .string w w0.heap.size (nmF pre)
  be : RowKit.Below w0.heap.size w0 w
theorem FeS.bel {w0 w w1 : World} {pre : List Dc} {v : Value} {es : List (Int × Int)} (h : FeS w0 w pre v es) (hB : RowKit.Below w.heap.size w w1) : FeS w0 w1 pre v es := ⟨h.dg.bel hB, h.mp.bel hB, h.be.trans (hB.mono h.be.size)⟩
theorem FeS.app {w0 w w1 : World} {pre : List Dc} {v v' : Value} {es es' : List (Int × Int)} (h : FeS w0 w pre v es) (hd : DgO w1 (w0.heap.size + 1) v' es') (hs : w.heap.size ≤ w1.heap.size) (h1 : w1.os = w.os) (h2 : w1.tape = w.tape) (h3 : w1.output = w.output) (hk : ∀ j, j < w.heap.size → v.ownBlock ≠ some j → w1.heap[j]? = w.heap[j]?) : FeS w0 w1 pre v' es' := by
  have hm : ∀ j, j ≤ w0.heap.size → v.ownBlock ≠ some j := fun j hj e => by have := (h.dg.lt j e).1; omega
  exact ⟨hd, h.mp.of (hk _ h.mp.lt (hm _ (Nat.le_refl _))), ⟨h1.trans h.be.os, h2.trans h.be.tape, h3.trans h.be.output, Nat.le_trans h.be.size hs, fun k hk2 => (hk k (Nat.lt_of_lt_of_le hk2 h.be.size) (hm k (by omega))).trans (h.be.block k hk2)⟩⟩
theorem FeS.set {w0 w : World} {pre : List Dc} {v : Value} {es : List (Int × Int)} (h : FeS w0 w pre v es) (d : Dc) : ∃ o, (Instr.mapUpdate 92 (.map (some w0.heap.size)) (.string (bs d.nm)) (.bool true)).run Try.prog w = .ok () { w with heap := w.heap.setIfInBounds w0.heap.size o } ∧ FeS w0 { w with heap := w.heap.setIfInBounds w0.heap.size o } (pre ++ [d]) v es := by
  obtain ⟨o, h1, h2⟩ := h.mp.update und_nms und_str d.nm (by trivial) (fun x hx => kS_inj _ _ hx) (.bool true)
  rw [nmF_snoc] at h2
  refine ⟨o, h1, h.dg.keep (by simp) (fun j hj _ => ?_), h2, below_set h.be (Nat.le_refl _) o⟩
  have := (h.dg.lt j hj).1
  simp [show w0.heap.size ≠ j by omega]
theorem FeS.ask {w0 w : World} {pre : List Dc} {v : Value} {es : List (Int × Int)} (h : FeS w0 w pre v es) (s : List UInt8) : (Instr.lookup 92 (.map (some w0.heap.size)) (.string (bs s)) false).run Try.prog w = .ok (.bool (pre.any fun e => e.nm == s)) w := by
  have := h.mp.ask und_nms und_str s (by trivial) false (.bool false) (zero_bool w)
  unfold kS nmF at this
  rw [this]
  cases pre.any (fun e => e.nm == s) <;> rfl
theorem BoxL.app {w w1 : World} {b : Nat} {l : List Value} {v : Value} (h : BoxL w b l) (hb : b < w.heap.size) (hn : v.ownBlock ≠ some b) (hk : ∀ j, j < w.heap.size → v.ownBlock ≠ some j → w1.heap[j]? = w.heap[j]?) : BoxL w1 b l := h.of (hk b hb hn)
set_option maxRecDepth 100000 in
set_option maxHeartbeats 12000000 in
theorem ufactErrors_any (L : List Dc) (hl : L.length ≤ 1000000) (p : Option Addr) (b off c : Nat) (w : World) (hS : SlR w p b off L.length 8 (L.map dC)) :
    Calls Try.prog 41 #[.slice p L.length c] w fun e w' => ∃ v, e = .returned v ∧ DgO w' w.heap.size v (errsD [] L) ∧ RowKit.Below w.heap.size w w' := by
  have hmm := @run_makeMap Try.prog
  have KB := Lib.hid uisBounded_any
  have HS := Lib.hid hS
  have hmax := hS.max
  obtain ⟨R, hR⟩ : ∃ R, R = errsD [] L := ⟨_, rfl⟩
  rw [← hR]
  have HR := Lib.hid hR
  clear hR hS
  have H0 : Hid (FeS w (w.alloc (.map #[] 0)) [] (.slice none 0 0) []) := by
    refine ⟨DgO.nil _ _ (by simp), ?_, (Below.refl _ _).alloc (Nat.le_refl _) _⟩
    have := MapF.new kS .string w
    have e : nmF [] = fun _ => none := by funext s; rfl
    rw [e]; exact this
  go_enter Try.func41, Try.ntmps41
  go_wp2_with fail
  generalize w.alloc (.map #[] 0) = W0 at *
  go_loopg [3, 5, 11] L.length (fun g v3 v5 v11 wr => ∃ (i : Nat) (q : Option Addr) (cap : Nat) (es : List (Int × Int)) (cc : Int), i ≤ L.length ∧ L.length - i ≤ g ∧ v11 = .int .i64 i ∧ v5 = .int .i64 cc ∧ v3 = .slice q es.length cap ∧ Hid (cc = prodC (L.take i)) ∧ es.length ≤ i ∧ Hid (errsD [] L = es ++ errsD (L.take i) (L.drop i)) ∧ Hid (FeS w wr (L.take i) (.slice q es.length cap) es))
  case atStart => exact ⟨0, none, 0, [], 1, Nat.zero_le _, by omega, by simp, rfl, rfl, rfl, Nat.le_refl _, by show _ = _; simp, H0⟩
  case round =>
    obtain ⟨i, q, cap, es, cc, hi, hg, rfl, rfl, rfl, hcc, hes, HM, HF⟩ := hrel
    have hws := HF.out.be.size
    by_cases hlt : i < L.length
    · have hz : (i : Int) < (L.length : Int) := by omega
      have hq := HS.out.ptr (by omega)
      subst hq
      have hr := (HS.out.bel HF.out.be).at_ i (dC L[i]) (by rw [List.getElem?_map, List.getElem?_eq_getElem hlt]; rfl)
      have htk : L.take (i + 1) = L.take i ++ [L[i]] := by rw [List.take_succ_eq_append_getElem hlt]
      have E3 : Hid (errsD [] L = es ++ ((if errD (L.take i) (prodC (L.take i)) L[i] = 0 then [] else [(L[i].pl, errD (L.take i) (prodC (L.take i)) L[i])]) ++ errsD (L.take (i + 1)) (L.drop (i + 1)))) := by
        show _ = _
        rw [HM.out, List.drop_eq_getElem_cons hlt, htk]
        rfl
      have E4 : Hid (∀ x, x = cases1 cc L[i] → x = prodC (L.take (i + 1))) := fun x hx => by rw [hx, htk, prodC_snoc, ← hcc.out]
      have hrg := prodC_rng (L.take i)
      rw [← hcc.out] at hrg
      have E5 : Hid (prodC (L.take i) = cc) := hcc.out.symm
      rw [E5.out] at E3
      have HTK := Lib.hid htk
      clear HM hcc htk E5
      generalize hd : L[i] = d at *
      clear hd
      have E6 : Hid (errD (L.take i) cc d = if (L.take i).any (fun e => e.nm == d.nm) then 5 else if !bounded d then 3 else if 4096 < cases1 cc d then 2 else 0) := rfl
      have E7 : Hid (cases1 cc d = if bounded d then min (cc * (d.hi - d.lo + 1)) 4097 else cc) := rfl
      have KQ := Lib.hid (fun w => KB.out (bs d.nm) d.u d.lo d.hi d.pl w)
      have KQ2 : Hid (bounded d = true → 1 ≤ d.hi - d.lo + 1 ∧ d.hi - d.lo + 1 ≤ 1000001 ∧ 0 ≤ d.lo ∧ d.hi ≤ 1000000) := fun h => by
        simp only [bounded, Bool.and_eq_true, decide_eq_true_eq] at h
        omega
      have KSET := Lib.hid (fun (V : World) (q : Option Addr) (n c : Nat) (es : List (Int × Int)) (h : FeS w V (L.take i) (.slice q n c) es) => h.set d)
      rw [← HTK.out] at KSET
      have KASK := Lib.hid (fun (V : World) (q : Option Addr) (n c : Nat) (es : List (Int × Int)) (h : FeS w V (L.take i) (.slice q n c) es) => h.ask d.nm)
      generalize ht : (L.take i).any (fun e => e.nm == d.nm) = tw at *
      clear ht
      have KQ3 : Hid (∀ w, Calls Try.prog 60 #[.agg (dC d).toArray] w fun e w' => e = .returned (.bool (bounded d)) ∧ RowKit.Below w.heap.size w w') := fun w => KQ.out w
      have BX := Lib.hid (BoxL.new wr (dC d) 47)
      have F1 := Lib.hid (HF.out.bel ((Below.refl wr.heap.size wr).alloc (Nat.le_refl _) (.cells (dC d).toArray 47)))
      have hwr : wr.heap.size < (wr.alloc (.cells (dC d).toArray 47)).heap.size := by simp
      have hnb : (Value.slice q es.length cap).ownBlock ≠ some wr.heap.size := fun e => by have := (HF.out.dg.lt _ e).2; omega
      clear HF KQ
      obtain ⟨nm, ⟨uf, um, ua, ud⟩, lo, hi', pl⟩ := d
      generalize bounded ⟨nm, ⟨uf, um, ua, ud⟩, lo, hi', pl⟩ = bd at *
      generalize hc1 : cases1 cc ⟨nm, ⟨uf, um, ua, ud⟩, lo, hi', pl⟩ = c1 at *
      generalize he1 : errD (L.take i) cc ⟨nm, ⟨uf, um, ua, ud⟩, lo, hi', pl⟩ = e1 at *
      have E4' : Hid (c1 = prodC (L.take (i + 1))) := E4.out c1 rfl
      clear E4 hc1 he1 KB
      simp only [dC] at hr BX F1 hwr KQ3 KASK KSET E3
      simp only at KQ2 E7
      have hc := hr.2
      have z0 := hc 0 _ rfl
      have z1 := hc 1 _ rfl
      have z2 := hc 2 _ rfl
      have z3 := hc 3 _ rfl
      have z4 := hc 4 _ rfl
      have z5 := hc 5 _ rfl
      have z6 := hc 6 _ rfl
      have z7 := hc 7 _ rfl
      rw [Nat.add_zero] at z0
      have e2 : IntKind.i64.wrap ((i : Int) + 1) = ((i + 1 : Nat) : Int) := by rw [IntWalk.i64_in _ (by omega)]; rfl
      clear hc hr
      generalize bs nm = s at *
      go_wp2_with fail
      clear z0 z1 z2 z3 z4 z5 z6 z7
      generalize (wr.alloc (.cells #[.string s, .bool uf, .int .i64 um, .int .i64 ua, .int .i64 ud, .int .i64 lo, .int .i64 hi', .int .i64 pl] 47)) = W1 at *
      generalize wr.heap.size = bx at *
      refine (KQ3.out _).mono ?_
      rintro _ V1 ⟨rfl, hb⟩
      have F2 := Lib.hid (F1.out.bel hb)
      have B2 := Lib.hid (BX.out.bel (by simp) hb)
      have hb2 : bx < V1.heap.size := Nat.lt_of_lt_of_le hwr hb.size
      clear hb F1 BX hwr
      cases bd with
      | true =>
        obtain ⟨k1, k2, k3, k4⟩ := KQ2.out rfl
        have ew1 : IntKind.i64.wrap (hi' - lo) = hi' - lo := IntWalk.i64_in _ (by omega)
        have ew2 : IntKind.i64.wrap (hi' - lo + 1) = hi' - lo + 1 := IntWalk.i64_in _ (by omega)
        have hpr : 0 ≤ cc * (hi' - lo + 1) ∧ cc * (hi' - lo + 1) ≤ 4097 * 1000001 := ⟨Int.mul_nonneg (by omega) (by omega), Int.mul_le_mul hrg.2 k2 (by omega) (by omega)⟩
        obtain ⟨x, hx⟩ : ∃ x, x = cc * (hi' - lo + 1) := ⟨_, rfl⟩
        have ew3 : IntKind.i64.wrap (cc * (hi' - lo + 1)) = x := by rw [← hx] at hpr ⊢; exact IntWalk.i64_in _ (by omega)
        have E8 : c1 = min x 4097 := by rw [E7.out, hx]; rfl
        clear k1 k2 k3 k4 hpr hx
        by_cases hm : x ≤ 4097
        · have E9 : c1 = x := by omega
          subst E9
          clear E8
          cases tw with
          | true =>
            obtain ⟨x0, -⟩ := B2.out 0 _ rfl
            obtain ⟨x1, -⟩ := B2.out 1 _ rfl
            obtain ⟨x2, -⟩ := B2.out 2 _ rfl
            obtain ⟨x3, -⟩ := B2.out 3 _ rfl
            obtain ⟨x4, -⟩ := B2.out 4 _ rfl
            obtain ⟨x5, -⟩ := B2.out 5 _ rfl
            obtain ⟨x6, -⟩ := B2.out 6 _ rfl
            obtain ⟨x7, -⟩ := B2.out 7 _ rfl
            have hlk := KASK.out V1 _ _ _ _ F2.out
            have HER : Hid (((if e1 = 0 then [] else [(pl, e1)]) : List (Int × Int)) = [(pl, 5)]) := by show _ = _; rw [E6.out]; rfl
            obtain ⟨q', cap', W2, hra, hd, hs, g1, g2, g3, hk⟩ := F2.out.dg.app (by omega) pl 5 41
            have F9 := Lib.hid (F2.out.app hd hs g1 g2 g3 hk)
            have B9 := Lib.hid (B2.out.app hb2 hnb hk)
            clear hd hs g1 g2 g3 hk
            obtain ⟨y0, -⟩ := B9.out 0 _ rfl
            obtain ⟨ob, hrs, hF⟩ := KSET.out _ _ _ _ _ F9.out
            have FF := Lib.hid hF
            clear hF
            go_wp2_with (first | ((with_reducible show wpList _ _ _ ({ dst := some 30, op := _, type := _, pos := _, after := _, guard := _ } :: _) _ _); refine wl_lookup _ _ _ rfl rfl rfl rfl hlk ?_) | ((with_reducible show wpList _ _ _ ({ dst := some 36, op := _, type := _, pos := _, after := _, guard := _ } :: _) _ _); refine wl_app (.tmp 31) (.tmp 35) rfl rfl rfl rfl hra ?_) | ((with_reducible show wpList _ _ _ ({ dst := none, op := _, type := _, pos := _, after := _, guard := _ } :: _) _ _); refine wl_mapset _ _ _ rfl rfl rfl rfl rfl hrs ?_))
            go_roundg (L.length - (i + 1))
            case measure => omega
            case rel => exact ⟨i + 1, q', cap', es ++ [(pl, 5)], _, by omega, Nat.le_refl _, by simp, rfl, by simp, E4', by first | omega | (simp; omega), by show _ = _; rw [E3.out, HER.out]; first | rfl | simp, FF⟩
          | false =>
            obtain ⟨x0, -⟩ := B2.out 0 _ rfl
            obtain ⟨x1, -⟩ := B2.out 1 _ rfl
            obtain ⟨x2, -⟩ := B2.out 2 _ rfl
            obtain ⟨x3, -⟩ := B2.out 3 _ rfl
            obtain ⟨x4, -⟩ := B2.out 4 _ rfl
            obtain ⟨x5, -⟩ := B2.out 5 _ rfl
            obtain ⟨x6, -⟩ := B2.out 6 _ rfl
            obtain ⟨x7, -⟩ := B2.out 7 _ rfl
            have hlk := KASK.out V1 _ _ _ _ F2.out
            go_wp2_with (first | ((with_reducible show wpList _ _ _ ({ dst := some 30, op := _, type := _, pos := _, after := _, guard := _ } :: _) _ _); refine wl_lookup _ _ _ rfl rfl rfl rfl hlk ?_))
            clear x0 x1 x2 x3 x4 x5 x6 x7 hlk
            refine (KQ3.out _).mono ?_
            rintro _ V2 ⟨rfl, hb⟩
            have F3 := Lib.hid (F2.out.bel hb)
            have B3 := Lib.hid (B2.out.bel (by simp) hb)
            have hb3 : bx < V2.heap.size := Nat.lt_of_lt_of_le hb2 hb.size
            clear hb F2 B2 hb2
            obtain ⟨x7, -⟩ := B3.out 7 _ rfl
            by_cases h4 : 4096 < c1
            · have HER : Hid (((if e1 = 0 then [] else [(pl, e1)]) : List (Int × Int)) = [(pl, 2)]) := by show _ = _; rw [E6.out, if_pos h4]; rfl
              obtain ⟨q', cap', W2, hra, hd, hs, g1, g2, g3, hk⟩ := F3.out.dg.app (by omega) pl 2 41
              have F9 := Lib.hid (F3.out.app hd hs g1 g2 g3 hk)
              have B9 := Lib.hid (B3.out.app hb3 hnb hk)
              clear hd hs g1 g2 g3 hk
              obtain ⟨y0, -⟩ := B9.out 0 _ rfl
              obtain ⟨ob, hrs, hF⟩ := KSET.out _ _ _ _ _ F9.out
              have FF := Lib.hid hF
              clear hF
              go_wp2_with (first | ((with_reducible show wpList _ _ _ ({ dst := some 55, op := _, type := _, pos := _, after := _, guard := _ } :: _) _ _); refine wl_app (.tmp 50) (.tmp 54) rfl rfl rfl rfl hra ?_) | ((with_reducible show wpList _ _ _ ({ dst := none, op := _, type := _, pos := _, after := _, guard := _ } :: _) _ _); refine wl_mapset _ _ _ rfl rfl rfl rfl rfl hrs ?_))
              go_roundg (L.length - (i + 1))
              case measure => omega
              case rel => exact ⟨i + 1, q', cap', es ++ [(pl, 2)], _, by omega, Nat.le_refl _, by simp, rfl, by simp, E4', by first | omega | (simp; omega), by show _ = _; rw [E3.out, HER.out]; first | rfl | simp, FF⟩
            · have HER : Hid (((if e1 = 0 then [] else [(pl, e1)]) : List (Int × Int)) = []) := by show _ = _; rw [E6.out, if_neg h4]; rfl
              obtain ⟨x0, -⟩ := B3.out 0 _ rfl
              obtain ⟨ob, hrs, hF⟩ := KSET.out _ _ _ _ _ F3.out
              have FF := Lib.hid hF
              clear hF
              go_wp2_with (first | ((with_reducible show wpList _ _ _ ({ dst := none, op := _, type := _, pos := _, after := _, guard := _ } :: _) _ _); refine wl_mapset _ _ _ rfl rfl rfl rfl rfl hrs ?_))
              go_roundg (L.length - (i + 1))
              case measure => omega
              case rel => exact ⟨i + 1, q, cap, es, _, by omega, Nat.le_refl _, by simp, rfl, by simp, E4', by first | omega | (simp; omega), by show _ = _; rw [E3.out, HER.out]; first | rfl | simp, FF⟩
        · have E9 : c1 = 4097 := by omega
          subst E9
          clear E8
          cases tw with
          | true =>
            obtain ⟨x0, -⟩ := B2.out 0 _ rfl
            obtain ⟨x1, -⟩ := B2.out 1 _ rfl
            obtain ⟨x2, -⟩ := B2.out 2 _ rfl
            obtain ⟨x3, -⟩ := B2.out 3 _ rfl
            obtain ⟨x4, -⟩ := B2.out 4 _ rfl
            obtain ⟨x5, -⟩ := B2.out 5 _ rfl
            obtain ⟨x6, -⟩ := B2.out 6 _ rfl
            obtain ⟨x7, -⟩ := B2.out 7 _ rfl
            have hlk := KASK.out V1 _ _ _ _ F2.out
            have HER : Hid (((if e1 = 0 then [] else [(pl, e1)]) : List (Int × Int)) = [(pl, 5)]) := by show _ = _; rw [E6.out]; rfl
            obtain ⟨q', cap', W2, hra, hd, hs, g1, g2, g3, hk⟩ := F2.out.dg.app (by omega) pl 5 41
            have F9 := Lib.hid (F2.out.app hd hs g1 g2 g3 hk)
            have B9 := Lib.hid (B2.out.app hb2 hnb hk)
            clear hd hs g1 g2 g3 hk
            obtain ⟨y0, -⟩ := B9.out 0 _ rfl
            obtain ⟨ob, hrs, hF⟩ := KSET.out _ _ _ _ _ F9.out
            have FF := Lib.hid hF
            clear hF
            go_wp2_with (first | ((with_reducible show wpList _ _ _ ({ dst := some 30, op := _, type := _, pos := _, after := _, guard := _ } :: _) _ _); refine wl_lookup _ _ _ rfl rfl rfl rfl hlk ?_) | ((with_reducible show wpList _ _ _ ({ dst := some 36, op := _, type := _, pos := _, after := _, guard := _ } :: _) _ _); refine wl_app (.tmp 31) (.tmp 35) rfl rfl rfl rfl hra ?_) | ((with_reducible show wpList _ _ _ ({ dst := none, op := _, type := _, pos := _, after := _, guard := _ } :: _) _ _); refine wl_mapset _ _ _ rfl rfl rfl rfl rfl hrs ?_))
            go_roundg (L.length - (i + 1))
            case measure => omega
            case rel => exact ⟨i + 1, q', cap', es ++ [(pl, 5)], _, by omega, Nat.le_refl _, by simp, rfl, by simp, E4', by first | omega | (simp; omega), by show _ = _; rw [E3.out, HER.out]; first | rfl | simp, FF⟩
          | false =>
            obtain ⟨x0, -⟩ := B2.out 0 _ rfl
            obtain ⟨x1, -⟩ := B2.out 1 _ rfl
            obtain ⟨x2, -⟩ := B2.out 2 _ rfl
            obtain ⟨x3, -⟩ := B2.out 3 _ rfl
            obtain ⟨x4, -⟩ := B2.out 4 _ rfl
            obtain ⟨x5, -⟩ := B2.out 5 _ rfl
            obtain ⟨x6, -⟩ := B2.out 6 _ rfl
            obtain ⟨x7, -⟩ := B2.out 7 _ rfl
            have hlk := KASK.out V1 _ _ _ _ F2.out
            go_wp2_with (first | ((with_reducible show wpList _ _ _ ({ dst := some 30, op := _, type := _, pos := _, after := _, guard := _ } :: _) _ _); refine wl_lookup _ _ _ rfl rfl rfl rfl hlk ?_))
            clear x0 x1 x2 x3 x4 x5 x6 x7 hlk
            refine (KQ3.out _).mono ?_
            rintro _ V2 ⟨rfl, hb⟩
            have F3 := Lib.hid (F2.out.bel hb)
            have B3 := Lib.hid (B2.out.bel (by simp) hb)
            have hb3 : bx < V2.heap.size := Nat.lt_of_lt_of_le hb2 hb.size
            clear hb F2 B2 hb2
            obtain ⟨x7, -⟩ := B3.out 7 _ rfl
            have h4 : (4096 : Int) < 4097 := by omega
            have HER : Hid (((if e1 = 0 then [] else [(pl, e1)]) : List (Int × Int)) = [(pl, 2)]) := by show _ = _; rw [E6.out, if_pos h4]; rfl
            obtain ⟨q', cap', W2, hra, hd, hs, g1, g2, g3, hk⟩ := F3.out.dg.app (by omega) pl 2 41
            have F9 := Lib.hid (F3.out.app hd hs g1 g2 g3 hk)
            have B9 := Lib.hid (B3.out.app hb3 hnb hk)
            clear hd hs g1 g2 g3 hk
            obtain ⟨y0, -⟩ := B9.out 0 _ rfl
            obtain ⟨ob, hrs, hF⟩ := KSET.out _ _ _ _ _ F9.out
            have FF := Lib.hid hF
            clear hF
            go_wp2_with (first | ((with_reducible show wpList _ _ _ ({ dst := some 55, op := _, type := _, pos := _, after := _, guard := _ } :: _) _ _); refine wl_app (.tmp 50) (.tmp 54) rfl rfl rfl rfl hra ?_) | ((with_reducible show wpList _ _ _ ({ dst := none, op := _, type := _, pos := _, after := _, guard := _ } :: _) _ _); refine wl_mapset _ _ _ rfl rfl rfl rfl rfl hrs ?_))
            go_roundg (L.length - (i + 1))
            case measure => omega
            case rel => exact ⟨i + 1, q', cap', es ++ [(pl, 2)], _, by omega, Nat.le_refl _, by simp, rfl, by simp, E4', by first | omega | (simp; omega), by show _ = _; rw [E3.out, HER.out]; first | rfl | simp, FF⟩
      | false =>
        have E8 : c1 = cc := by rw [E7.out]; rfl
        subst E8
        cases tw with
        | true =>
          obtain ⟨x0, -⟩ := B2.out 0 _ rfl
          obtain ⟨x1, -⟩ := B2.out 1 _ rfl
          obtain ⟨x2, -⟩ := B2.out 2 _ rfl
          obtain ⟨x3, -⟩ := B2.out 3 _ rfl
          obtain ⟨x4, -⟩ := B2.out 4 _ rfl
          obtain ⟨x5, -⟩ := B2.out 5 _ rfl
          obtain ⟨x6, -⟩ := B2.out 6 _ rfl
          obtain ⟨x7, -⟩ := B2.out 7 _ rfl
          have hlk := KASK.out V1 _ _ _ _ F2.out
          have HER : Hid (((if e1 = 0 then [] else [(pl, e1)]) : List (Int × Int)) = [(pl, 5)]) := by show _ = _; rw [E6.out]; rfl
          obtain ⟨q', cap', W2, hra, hd, hs, g1, g2, g3, hk⟩ := F2.out.dg.app (by omega) pl 5 41
          have F9 := Lib.hid (F2.out.app hd hs g1 g2 g3 hk)
          have B9 := Lib.hid (B2.out.app hb2 hnb hk)
          clear hd hs g1 g2 g3 hk
          obtain ⟨y0, -⟩ := B9.out 0 _ rfl
          obtain ⟨ob, hrs, hF⟩ := KSET.out _ _ _ _ _ F9.out
          have FF := Lib.hid hF
          clear hF
          go_wp2_with (first | ((with_reducible show wpList _ _ _ ({ dst := some 30, op := _, type := _, pos := _, after := _, guard := _ } :: _) _ _); refine wl_lookup _ _ _ rfl rfl rfl rfl hlk ?_) | ((with_reducible show wpList _ _ _ ({ dst := some 36, op := _, type := _, pos := _, after := _, guard := _ } :: _) _ _); refine wl_app (.tmp 31) (.tmp 35) rfl rfl rfl rfl hra ?_) | ((with_reducible show wpList _ _ _ ({ dst := none, op := _, type := _, pos := _, after := _, guard := _ } :: _) _ _); refine wl_mapset _ _ _ rfl rfl rfl rfl rfl hrs ?_))
          go_roundg (L.length - (i + 1))
          case measure => omega
          case rel => exact ⟨i + 1, q', cap', es ++ [(pl, 5)], _, by omega, Nat.le_refl _, by simp, rfl, by simp, E4', by first | omega | (simp; omega), by show _ = _; rw [E3.out, HER.out]; first | rfl | simp, FF⟩
        | false =>
          obtain ⟨x0, -⟩ := B2.out 0 _ rfl
          obtain ⟨x1, -⟩ := B2.out 1 _ rfl
          obtain ⟨x2, -⟩ := B2.out 2 _ rfl
          obtain ⟨x3, -⟩ := B2.out 3 _ rfl
          obtain ⟨x4, -⟩ := B2.out 4 _ rfl
          obtain ⟨x5, -⟩ := B2.out 5 _ rfl
          obtain ⟨x6, -⟩ := B2.out 6 _ rfl
          obtain ⟨x7, -⟩ := B2.out 7 _ rfl
          have hlk := KASK.out V1 _ _ _ _ F2.out
          go_wp2_with (first | ((with_reducible show wpList _ _ _ ({ dst := some 30, op := _, type := _, pos := _, after := _, guard := _ } :: _) _ _); refine wl_lookup _ _ _ rfl rfl rfl rfl hlk ?_))
          clear x0 x1 x2 x3 x4 x5 x6 x7 hlk
          refine (KQ3.out _).mono ?_
          rintro _ V2 ⟨rfl, hb⟩
          have F3 := Lib.hid (F2.out.bel hb)
          have B3 := Lib.hid (B2.out.bel (by simp) hb)
          have hb3 : bx < V2.heap.size := Nat.lt_of_lt_of_le hb2 hb.size
          clear hb F2 B2 hb2
          obtain ⟨x7, -⟩ := B3.out 7 _ rfl
          have HER : Hid (((if e1 = 0 then [] else [(pl, e1)]) : List (Int × Int)) = [(pl, 3)]) := by show _ = _; rw [E6.out]; rfl
          obtain ⟨q', cap', W2, hra, hd, hs, g1, g2, g3, hk⟩ := F3.out.dg.app (by omega) pl 3 41
          have F9 := Lib.hid (F3.out.app hd hs g1 g2 g3 hk)
          have B9 := Lib.hid (B3.out.app hb3 hnb hk)
          clear hd hs g1 g2 g3 hk
          obtain ⟨y0, -⟩ := B9.out 0 _ rfl
          obtain ⟨ob, hrs, hF⟩ := KSET.out _ _ _ _ _ F9.out
          have FF := Lib.hid hF
          clear hF
          go_wp2_with (first | ((with_reducible show wpList _ _ _ ({ dst := some 46, op := _, type := _, pos := _, after := _, guard := _ } :: _) _ _); refine wl_app (.tmp 41) (.tmp 45) rfl rfl rfl rfl hra ?_) | ((with_reducible show wpList _ _ _ ({ dst := none, op := _, type := _, pos := _, after := _, guard := _ } :: _) _ _); refine wl_mapset _ _ _ rfl rfl rfl rfl rfl hrs ?_))
          go_roundg (L.length - (i + 1))
          case measure => omega
          case rel => exact ⟨i + 1, q', cap', es ++ [(pl, 3)], _, by omega, Nat.le_refl _, by simp, rfl, by simp, E4', by first | omega | (simp; omega), by show _ = _; rw [E3.out, HER.out]; first | rfl | simp, FF⟩
    · have hz : ¬ (i : Int) < (L.length : Int) := by omega
      have hie : i = L.length := by omega
      subst hie
      have hmm2 := HM.out
      rw [List.drop_length] at hmm2
      simp only [errsD, List.append_nil] at hmm2
      go_wp2_with fail
      go_ret
      refine ⟨_, rfl, ?_, HF.out.be⟩
      rw [HR.out, hmm2]
      exact ⟨HF.out.dg.own.mono (by omega), HF.out.be.size⟩
end Go.Proofs.Ytjifiijgghpniaa
/-
  Contracts of units: newScope, and what gives up: errorOf.
-/
namespace Go.Proofs.Ytjifiijgghpniaa
open Go.RowKit Un MapKept

/-- The units of facts, by name. -/
def ftF (l : List Dc) : List UInt8 → Option Value := fun s => (Un.look (Un.facts l) s).map uV
theorem ftF_snoc (l : List Dc) (d : Dc) (h : l.any (fun e => e.nm == d.nm) = false) : updF (ftF l) d.nm (uV d.u) = ftF (l ++ [d]) := by
  funext s
  simp only [updF, ftF, Un.look, Un.facts, List.map_append, List.map_cons, List.map_nil, List.find?_append, List.find?_cons, List.find?_nil]
  by_cases hs : s = d.nm
  · subst hs
    have : (l.map fun d => (d.nm, d.u)).find? (fun e => e.1 == d.nm) = none := by
      rw [List.find?_eq_none]
      intro x hx
      obtain ⟨y, hy, rfl⟩ := List.mem_map.1 hx
      have := List.any_eq_false.1 h y hy
      simpa using this
    rw [if_pos rfl, this]
    simp
  · rw [if_neg hs]
    have : (d.nm == s) = false := by simpa using Ne.symm hs
    rw [this]
    simp
theorem errsD_once : ∀ (l pre : List Dc), errsD pre l = [] → ∀ i (h : i < l.length), (pre ++ l.take i).any (fun e => e.nm == l[i].nm) = false
  | [], _, _, i, h => absurd h (Nat.not_lt_zero _)
  | d :: l, pre, he, i, h => by
    simp only [errsD, List.append_eq_nil_iff] at he
    cases i with
    | zero =>
      have h1 := he.1
      simp only [List.take_zero, List.append_nil, List.getElem_cons_zero]
      split at h1
      · rename_i h2
        unfold errD at h2
        split at h2
        · cases h2
        · rename_i h3; simpa using h3
      · cases h1
    | succ i =>
      have := errsD_once l (pre ++ [d]) he.2 i (by simpa using h)
      simpa [List.any_append, Bool.or_assoc] using this
/-- A scope in memory. -/
structure ScR (w : World) (l : List Dc) (m1 m2 fb p1 p2 : Nat) : Prop where
  mp : MapF kS .string w m1 (ftF l)
  op : OpsR w m2 fb p1 p2
theorem ScR.bel {w w1 : World} {l : List Dc} {m1 m2 fb p1 p2 : Nat} (h : ScR w l m1 m2 fb p1 p2) (hB : RowKit.Below w.heap.size w w1) : ScR w1 l m1 m2 fb p1 p2 := ⟨h.mp.bel hB, h.op.bel hB⟩
theorem ScR.setn {w : World} {l : List Dc} {m1 m2 fb p1 p2 r : Nat} (h : ScR w l m1 m2 fb p1 p2) (n1 : m1 ≠ r) (n2 : m2 ≠ r) (n3 : fb ≠ r) (n4 : p1 ≠ r) (n5 : p2 ≠ r) (o : Nat) (y : Value) : ScR (w.setCell ⟨r, o, none⟩ y) l m1 m2 fb p1 p2 :=
  ⟨h.mp.of (Below.heap_setCell _ _ _ _ n1), ⟨h.op.mp.of (Below.heap_setCell _ _ _ _ n2), h.op.fl.other n3 o y, cell_otn h.op.c1 n4 o y, cell_otn h.op.c2 n5 o y⟩⟩
set_option maxRecDepth 100000 in
set_option maxHeartbeats 8000000 in
theorem unewScope_any (L : List Dc) (hl : errsD [] L = []) (p : Option Addr) (b off c : Nat) (w : World) (hS : SlR w p b off L.length 8 (L.map dC)) :
    Calls Try.prog 37 #[.slice p L.length c] w fun e w' => ∃ m1 m2 fb p1 p2, e = .returned (.agg #[.map (some m1), .map (some m2)]) ∧ ScR w' L m1 m2 fb p1 p2 ∧ RowKit.Below w.heap.size w w' := by
  have hmm := @run_makeMap Try.prog
  have HS := Lib.hid hS
  have hmax := hS.max
  have HL := Lib.hid (errsD_once L [] hl)
  have KO := Lib.hid uoperators_any
  obtain ⟨W1, hW1⟩ : ∃ W1, W1 = w.alloc (.cells #[.map none, .map none] 72) := ⟨_, rfl⟩
  have B1 := Lib.hid ((Below.refl w.heap.size w).alloc (Nat.le_refl _) (.cells #[.map none, .map none] 72))
  have X1 := Lib.hid (BoxL.new w [.map none, .map none] 72)
  rw [← hW1] at B1
  have X1' : Hid (BoxL W1 w.heap.size [.map none, .map none]) := by rw [hW1]; exact X1.out
  have hs1 : W1.heap.size = w.heap.size + 1 := by rw [hW1]; simp
  have A2 := (Below.refl W1.heap.size W1).alloc (Nat.le_refl _) (.map #[] 0)
  have B2 := Lib.hid (B1.out.trans (A2.mono (by omega)))
  have X2 := Lib.hid (X1'.out.bel (by simp) A2)
  have M2 : Hid (MapF kS .string (W1.alloc (.map #[] 0)) (w.heap.size + 1) (ftF [])) := by
    have := MapF.new kS .string W1
    rw [hs1] at this
    have e : ftF [] = fun _ => none := by funext s; rfl
    rw [e]
    exact this
  clear X1 hS hl A2 X1' B1
  go_enter Try.func37, Try.ntmps37
  go_wp2_with fail
  rw [← hW1]
  clear hW1
  generalize W1.alloc (.map #[] 0) = W2 at *
  go_loopg [9] L.length (fun g v9 wr => ∃ i : Nat, i ≤ L.length ∧ L.length - i ≤ g ∧ v9 = .int .i64 i ∧ Hid (BoxL wr w.heap.size [.map none, .map none]) ∧ Hid (MapF kS .string wr (w.heap.size + 1) (ftF (L.take i))) ∧ Hid (RowKit.Below w.heap.size w wr))
  case atStart => exact ⟨0, Nat.zero_le _, by omega, by simp, X2, M2, B2⟩
  case round =>
    obtain ⟨i, hi, hg, rfl, HX, HM, HW⟩ := hrel
    have hws := HW.out.size
    by_cases hlt : i < L.length
    · have hz : (i : Int) < (L.length : Int) := by omega
      have hq := HS.out.ptr (by omega)
      subst hq
      have hr := (HS.out.bel HW.out).at_ i (dC L[i]) (by rw [List.getElem?_map, List.getElem?_eq_getElem hlt]; rfl)
      have htk : L.take (i + 1) = L.take i ++ [L[i]] := by rw [List.take_succ_eq_append_getElem hlt]
      have hon := HL.out i hlt
      rw [List.nil_append] at hon
      have A3 := (Below.refl wr.heap.size wr).alloc (Nat.le_refl _) (.cells (dC L[i]).toArray 47)
      obtain ⟨ob, hrs, hM⟩ := (HM.out.bel A3).update und_fts und_str L[i].nm (by trivial) (fun x hx => kS_inj _ _ hx) (uV L[i].u)
      rw [ftF_snoc _ _ hon, ← htk] at hM
      have M3 := Lib.hid hM
      have B3 : Hid (RowKit.Below w.heap.size w { (wr.alloc (.cells (dC L[i]).toArray 47)) with heap := (wr.alloc (.cells (dC L[i]).toArray 47)).heap.setIfInBounds (w.heap.size + 1) ob }) := below_set (HW.out.trans (A3.mono (by omega))) (by omega) ob
      have X3 : Hid (BoxL { (wr.alloc (.cells (dC L[i]).toArray 47)) with heap := (wr.alloc (.cells (dC L[i]).toArray 47)).heap.setIfInBounds (w.heap.size + 1) ob } w.heap.size [.map none, .map none]) := (HX.out.bel (by simp) A3).of (by simp)
      clear hM htk hon A3
      generalize L[i] = d at *
      obtain ⟨nm, ⟨uf, um, ua, ud⟩, lo, hi', pl⟩ := d
      simp only [dC, uV, uC, kS] at hr hrs M3 B3 X3
      have hc := hr.2
      have z0 := hc 0 _ rfl
      have z1 := hc 1 _ rfl
      have z2 := hc 2 _ rfl
      have z3 := hc 3 _ rfl
      have z4 := hc 4 _ rfl
      have z5 := hc 5 _ rfl
      have z6 := hc 6 _ rfl
      have z7 := hc 7 _ rfl
      rw [Nat.add_zero] at z0
      have e2 : IntKind.i64.wrap ((i : Int) + 1) = ((i + 1 : Nat) : Int) := by rw [IntWalk.i64_in _ (by omega)]; rfl
      clear hc hr
      generalize bs nm = s at *
      go_wp2_with ((with_reducible show wpList _ _ _ ({ dst := none, op := .mapUpdate _ _ _ _, type := _, pos := _, after := _, guard := _ } :: _) _ _); refine wl_mapset _ _ _ rfl rfl rfl rfl rfl hrs ?_)
      go_roundg (L.length - (i + 1))
      case measure => omega
      case rel => exact ⟨i + 1, by omega, Nat.le_refl _, by simp, X3, M3, B3⟩
    · have hz : ¬ (i : Int) < (L.length : Int) := by omega
      have hie : i = L.length := by omega
      subst hie
      rw [List.take_length] at HM
      go_wp2_with fail
      refine (KO.out _).mono ?_
      rintro _ V ⟨m2, fb, p1, p2, rfl, hop, hb⟩
      have X4 := Lib.hid (HX.out.bel (by simp) hb)
      have R4 : Hid (ScR V L (w.heap.size + 1) m2 fb p1 p2) := ⟨HM.out.bel hb, hop⟩
      have hnf : ∀ j, (j = w.heap.size + 1 ∨ j = m2 ∨ j = fb ∨ j = p1 ∨ j = p2) → j ≠ w.heap.size := by
        obtain ⟨x0, -⟩ := X4.out 0 _ rfl
        rintro j (rfl | rfl | rfl | rfl | rfl) e
        · omega
        · obtain ⟨es, cl, h, -⟩ := R4.out.op.mp
          rw [e] at h
          simp [World.cell?, h] at x0
        · have := R4.out.op.fl.f0
          rw [e, x0] at this
          cases this
        · have := R4.out.op.c1
          rw [e, x0] at this
          cases this
        · have := R4.out.op.c2
          rw [e, x0] at this
          cases this
      have B4 := Lib.hid (HW.out.trans (hb.mono HW.out.size))
      clear hop hb HX HM HW
      obtain ⟨x0, f0⟩ := X4.out 0 _ rfl
      obtain ⟨x1, f1⟩ := X4.out 1 _ rfl
      have R5 := Lib.hid ((R4.out.setn (hnf _ (.inl rfl)) (hnf _ (.inr (.inl rfl))) (hnf _ (.inr (.inr (.inl rfl)))) (hnf _ (.inr (.inr (.inr (.inl rfl))))) (hnf _ (.inr (.inr (.inr (.inr rfl))))) 0 (.map (some (w.heap.size + 1)))).setn (hnf _ (.inl rfl)) (hnf _ (.inr (.inl rfl))) (hnf _ (.inr (.inr (.inl rfl)))) (hnf _ (.inr (.inr (.inr (.inl rfl))))) (hnf _ (.inr (.inr (.inr (.inr rfl))))) 1 (.map (some m2)))
      clear hnf R4
      go_wp2_with fail
      exact bodyPost_ret (v := .agg #[.map (some (w.heap.size + 1)), .map (some m2)]) (by simp [results, Try.results37, go_sem, x0, x1]) rfl ⟨_, _, _, _, _, rfl, R5.out, (by repeat' (first | (with_reducible exact B4.out) | (with_reducible refine Below.setCell ?_ ?_ _) | (with_reducible refine Below.alloc ?_ ?_ _) | (with_reducible refine Below.drew ?_) | (with_reducible refine below_drewN ?_ _) | (with_reducible exact Below.refl _ _) | omega | (simp; done) | (simp; omega)))⟩
end Go.Proofs.Ytjifiijgghpniaa
/-
  Contract of units: errorOf, which recovers what a check panics.
-/
namespace Go.Proofs.Ytjifiijgghpniaa
open Go.RowKit Un

theorem At2.put {w : World} {b : Nat} {x0 x1 : Value} (h : At2 w b x0 x1) (y0 y1 : Value) : At2 ((w.setCell ⟨b, 0, none⟩ y0).setCell ⟨b, 1, none⟩ y1) b y0 y1 := by
  obtain ⟨c0, c1, f0, f1⟩ := h
  exact ⟨by simp [go_sem, c0], by simp [go_sem, c1], by simp [World.frozen?_setCell, f0], by simp [World.frozen?_setCell, f1]⟩
set_option maxRecDepth 100000 in
set_option maxHeartbeats 2000000 in
theorem wp_act {P : Program} {c : Code} {Q : Exit → Act → World → Prop} {a a' : Act} {w : World} (h : a = a') (k : c.wp P Q a' w) : c.wp P Q a w := h ▸ k
theorem passert_nil (w : World) : (Instr.typeAssert .nilIface 20 83 true).run Try.prog w = .ok (.tuple #[.agg #[.int .i64 0, .int .i64 0], .bool false]) w := by kernel_rfl
theorem passert_fail (a E : Int) (w : World) : (Instr.typeAssert (.iface 83 (.agg #[.int .i64 a, .int .i64 E])) 20 83 true).run Try.prog w = .ok (.tuple #[.agg #[.int .i64 a, .int .i64 E], .bool true]) w := by kernel_rfl
set_option maxRecDepth 10000 in
theorem pcatch_idle (p1 : Value) (w : World) :
    CallsD Try.prog 53 #[p1] .returning w fun e u' w' => e = .returned (.tuple #[]) ∧ u' = .returning ∧ RowKit.Below w.heap.size w w' := by
  refine callsD_of_wpS Try.func53 rfl fun c₀ cs hu => ?_
  apply wpS_seq
  apply wpS_region
  simp [wpOpsS, go_sem, recoverD, hu, Try.ntmps53, Exit.thenS, passert_nil]
  apply wpS_seq
  apply wpS_region
  simp [wpOpsS, go_sem, Exit.thenS]
  refine wpS_cond (t := false) (by simp [Act.eval, Array.replicate]) ?_
  simp only [Bool.false_eq_true, if_false]
  refine wpS_of_wp (wp_skip ?_)
  cases c₀
  simp_all [bodyPostS, results, Try.results53]
  exact (Below.refl _ _).alloc (Nat.le_refl _) _
set_option maxRecDepth 100000 in
set_option maxHeartbeats 1000000 in
theorem pcatch (b0 : Nat) (a E : Int) (x0 x1 : Value) (w : World) (h : At2 w b0 x0 x1) :
    CallsD Try.prog 53 #[.pointer (some ⟨b0, 0, none⟩)] (.panicking (failU E a)) w fun e u' w' =>
      e = .returned (.tuple #[]) ∧ u' = .panicking [{ v := .iface 83 (.agg #[.int .i64 a, .int .i64 E]), recovered := true }] ∧
      At2 w' b0 (.int .i64 a) (.int .i64 E) ∧ Kept b0 w w' := by
  have hlt : b0 < w.heap.size := h.lt
  refine callsD_of_wpS Try.func53 rfl fun c₀ cs hu => ?_
  unfold failU at hu
  apply wpS_seq
  apply wpS_region
  simp [wpOpsS, go_sem, recoverD, hu, Try.ntmps53, Exit.thenS, passert_fail]
  apply wpS_seq
  apply wpS_region
  simp [wpOpsS, go_sem, Exit.thenS]
  refine wpS_cond (t := true) (by simp [Act.eval, Array.replicate]) ?_
  simp only [if_true]
  refine wpS_of_wp ?_
  refine wp_act (a' := { tmps := #[.pointer (some ⟨b0, 0, none⟩), .pointer (some ⟨w.heap.size, 0, none⟩), .bool true, .tuple #[.agg #[.int .i64 a, .int .i64 E], .bool true], .iface 83 (.agg #[.int .i64 a, .int .i64 E]), .tuple #[.agg #[.int .i64 a, .int .i64 E], .bool true], .agg #[.int .i64 a, .int .i64 E], .bool true, .bool true, undef], defers := [] }) (by kernel_rfl) ?_
  have hB : RowKit.Below w.heap.size w (w.alloc (.cells #[.int .i64 a, .int .i64 E] 83)) := (Below.refl _ _).alloc (Nat.le_refl _) _
  have e0 : (w.alloc (.cells #[.int .i64 a, .int .i64 E] 83)).cell? ⟨w.heap.size, 0, none⟩ = some (.int .i64 a) := by simp
  have e1 : (w.alloc (.cells #[.int .i64 a, .int .i64 E] 83)).cell? ⟨w.heap.size, 1, none⟩ = some (.int .i64 E) := by simp
  have H := Lib.hid (h.bel hB)
  obtain ⟨h0, h1, f0, f1⟩ := H.out
  have HB := Lib.hid hB
  have n0 : ¬ w.heap.size = b0 := by omega
  clear hB h
  generalize hg : w.heap.size = g at *
  generalize w.alloc (.cells #[.int .i64 a, .int .i64 E] 83) = W at *
  go_wp2_with fail
  refine ⟨rfl, _, rfl, .tuple #[], by simp [results, Try.results53], rfl, rfl, ?_, ?_⟩
  · exact ⟨by simp [go_sem, h0], by simp [go_sem, h1], by simp [World.frozen?_setCell, f0], by simp [World.frozen?_setCell, f1]⟩
  · exact ((Kept.of (by rw [hg]; exact HB.out)).setCell 0 none _).setCell 1 none _
theorem setCell_self {w : World} {b o : Nat} {v : Value} (h : w.cell? ⟨b, o, none⟩ = some v) : (w.setCell ⟨b, o, none⟩ v).heap[b]? = w.heap[b]? := by
  unfold World.cell? at h
  simp only [World.setCell, Array.getElem?_modify, if_true]
  simp only at h
  cases hb : w.heap[b]? with
  | none => rfl
  | some x =>
    rw [hb] at h
    cases x with
    | cells c e f =>
      replace h : c[o]? = some v := by simpa using h
      rw [Option.map_some]
      congr 1
      show Obj.cells (if (none : Option Nat).isSome then c else c.setIfInBounds o v) e f = _
      rw [if_neg (by simp)]
      congr 1
      obtain ⟨ho, hv⟩ := Array.getElem?_eq_some_iff.1 h
      subst hv
      apply Array.ext_getElem?
      intro i
      rw [Array.getElem?_setIfInBounds]
      split
      · rename_i e; subst e; exact h.symm
      · rfl
    | _ => simp at h
theorem At2.same {w : World} {b : Nat} {x y : Value} (h : At2 w b x y) : RowKit.Below w.heap.size w ((w.setCell ⟨b, 0, none⟩ x).setCell ⟨b, 1, none⟩ y) := by
  refine ⟨rfl, rfl, rfl, by simp [World.setCell], fun k hk => ?_⟩
  by_cases e : k = b
  · subst e
    refine (setCell_self ?_).trans (setCell_self h.c0)
    rw [World.cell?_setCell_other _ _ _ _ (by intro e; injection e with _ e2 _; cases e2)]
    exact h.c1
  · exact (Below.heap_setCell _ _ _ _ e).trans (Below.heap_setCell _ _ _ _ e)
set_option maxRecDepth 100000 in
set_option maxHeartbeats 2000000 in
theorem uerrorOf_okB (F : FuncId) (caps : Array Value) (hE : ∀ (args : Array Value) (w : World), (callFunc F args).run Try.prog w = .ok (.enter F args) w) (Q : World → Prop) (w : World)
    (HR : Calls Try.prog F caps (w.alloc (.cells #[.int .i64 0, .int .i64 0] 66)) fun e w' => e = .returned (.tuple #[]) ∧ At2 w' w.heap.size (.int .i64 0) (.int .i64 0) ∧ Q w') :
    Calls Try.prog 35 #[.func (.func F) #[] caps] w fun e w' => e = .returned (.agg #[.int .i64 0, .int .i64 0]) ∧ ∃ w2, Q w2 ∧ RowKit.Below w2.heap.size w2 w' := by
  have hmf : ∀ (fn : Fn) (first cap : Array Value) (w : World), (Instr.makeFunc fn first cap).run Try.prog w = .ok (.func fn first cap) w := fun _ _ _ _ => rfl
  have KR := Lib.hid HR
  clear HR
  go_enter_defers Try.func35, Try.ntmps35
  go_wp2_with fail
  refine KR.out.mono ?_
  rintro _ w2 ⟨rfl, hA, hQ⟩
  have HQ := Lib.hid hQ
  have HA := Lib.hid hA
  obtain ⟨c0, c1, f0, f1⟩ := hA
  clear hQ KR
  go_wp2_with fail
  refine leaves_cons (f := 53) (args := #[.pointer (some ⟨w.heap.size, 0, none⟩)]) (by simp) (by simp [go_sem]) ?_
  refine (pcatch_idle _ _).mono ?_
  rintro e u' w3 ⟨rfl, rfl, hB⟩
  obtain ⟨d0, d1, -, -⟩ := (HA.out.put (.int .i64 0) (.int .i64 0)).bel hB
  simp [Leaves, settle, results, Try.results35, go_sem, d0, d1]
  exact ⟨w2, HQ.out, HA.out.same.trans (hB.mono HA.out.same.size)⟩
theorem uerrorOf_ok (F : FuncId) (caps : Array Value) (hE : ∀ (args : Array Value) (w : World), (callFunc F args).run Try.prog w = .ok (.enter F args) w) (Q : World → Prop) (w : World)
    (HR : Calls Try.prog F caps (w.alloc (.cells #[.int .i64 0, .int .i64 0] 66)) fun e w' => e = .returned (.tuple #[]) ∧ At2 w' w.heap.size (.int .i64 0) (.int .i64 0) ∧ Q w') :
    Calls Try.prog 35 #[.func (.func F) #[] caps] w fun e w' => e = .returned (.agg #[.int .i64 0, .int .i64 0]) ∧ ∃ w2, Q w2 ∧ Kept w.heap.size w2 w' :=
  (uerrorOf_okB F caps hE Q w HR).mono fun _ _ h => ⟨h.1, h.2.imp fun _ h => ⟨h.1, Kept.of h.2⟩⟩
set_option maxRecDepth 100000 in
set_option maxHeartbeats 2000000 in
theorem uerrorOf_er (F : FuncId) (caps : Array Value) (hE : ∀ (args : Array Value) (w : World), (callFunc F args).run Try.prog w = .ok (.enter F args) w) (E a : Int) (Q : World → Prop) (w : World)
    (HR : Calls Try.prog F caps (w.alloc (.cells #[.int .i64 0, .int .i64 0] 66)) fun e w' => e = .panicked (failU E a) ∧ At2 w' w.heap.size (.int .i64 0) (.int .i64 0) ∧ Q w') :
    Calls Try.prog 35 #[.func (.func F) #[] caps] w fun e w' => e = .returned (.agg #[.int .i64 a, .int .i64 E]) ∧ ∃ w2, Q w2 ∧ Kept w.heap.size w2 w' := by
  have hmf : ∀ (fn : Fn) (first cap : Array Value) (w : World), (Instr.makeFunc fn first cap).run Try.prog w = .ok (.func fn first cap) w := fun _ _ _ _ => rfl
  have KR := Lib.hid HR
  clear HR
  go_enter_defers Try.func35, Try.ntmps35
  go_wp2_with fail
  refine KR.out.mono ?_
  rintro _ w2 ⟨rfl, hA, hQ⟩
  have HQ := Lib.hid hQ
  have HA := Lib.hid hA
  clear hQ hA KR
  go_wp2_with fail
  refine leaves_cons (f := 53) (args := #[.pointer (some ⟨w.heap.size, 0, none⟩)]) (by simp) (by simp [go_sem]) ?_
  refine (pcatch w.heap.size a E _ _ _ HA.out).mono ?_
  rintro e u' w3 ⟨rfl, rfl, ⟨d0, d1, -, -⟩, hB⟩
  simp [Leaves, settle, results, Try.results35, go_sem, d0, d1]
  exact ⟨w2, HQ.out, hB⟩
end Go.Proofs.Ytjifiijgghpniaa
/-
  Contract of units: the unit of an expression in a scope.
-/
namespace Go.Proofs.Ytjifiijgghpniaa
open Go.RowKit Un MapKept

def zs (n : Nat) : List Value := (List.replicate n [Value.bool false, .int .i64 0, .int .i64 0, .int .i64 0]).flatten
theorem zs_succ (n : Nat) : zs (n + 1) = .bool false :: .int .i64 0 :: .int .i64 0 :: .int .i64 0 :: zs n := by simp [zs, List.replicate_succ]
theorem info_U : (Try.prog.info? 29).map (fun i => (i.zero.map (fun z => z.cells.toList.length), i.size, decide (i.bytes ≤ 1000), decide (i.size = 4))) = some (some 4, 4, true, true) := by kernel_rfl
theorem run_mkU (n : Nat) (hn : n ≤ 3) (w : World) : (Instr.makeSlice 88 (.int .i64 (n : Nat)) (.int .i64 (n : Nat))).run Try.prog w = .ok (.slice (some ⟨w.heap.size, 0, none⟩) n n) (w.alloc (.cells (zs n).toArray 29)) := by
  obtain rfl | rfl | rfl | rfl : n = 0 ∨ n = 1 ∨ n = 2 ∨ n = 3 := by omega
  all_goals (clear hn; kernel_rfl)
theorem wl_mk {P : Program} {ops : Array Oper} {rest : List Oper} {o : Oper} {a : Act} {w w' : World} {Q : Exit → Act → World → Prop} {T : TypeId} {v vl vc : Value} (l c : Operand) (hgd : o.guard = none) (ho : o.op = .makeSlice T l c) (hl : a.eval l = vl) (hc : a.eval c = vc) (hr : (Instr.makeSlice T vl vc).run P w = .ok v w') (h : wpList P ops Q rest (a.put o.dst v) w') : wpList P ops Q (o :: rest) a w := wpList_plain hgd fun _ hK => by
  unfold Oper.wp execOp
  simp only [ho, Sem.run_bind, Sem.run_pure, hl, hc, hr]
  exact hK _ _ h
theorem zero_fn (w : World) : (zeroValue 90).run Try.prog w = .ok .nilFunc w := by kernel_rfl
def flat4 (us : List U) : List Value := (us.map uC).flatten
theorem flat4_len (us : List U) : (flat4 us).length = us.length * 4 := by
  induction us with
  | nil => rfl
  | cons u us ih =>
    have : flat4 (u :: us) = uC u ++ flat4 us := rfl
    rw [this, List.length_append, ih]; simp [uC]; omega
theorem flat4_snoc (us : List U) (u : U) : flat4 (us ++ [u]) = flat4 us ++ uC u := by simp [flat4]
theorem flat4_get (us : List U) (R : List Value) : ∀ (i : Nat) (h : i < us.length) (j : Nat), j < 4 → (flat4 us ++ R)[i * 4 + j]? = (uC us[i])[j]? := by
  induction us with
  | nil => intro i h; exact absurd h (Nat.not_lt_zero _)
  | cons u us ih =>
    intro i h j hj
    have e : flat4 (u :: us) ++ R = uC u ++ (flat4 us ++ R) := by show (uC u ++ flat4 us) ++ R = _; rw [List.append_assoc]
    rw [e]
    cases i with
    | zero =>
      rw [List.getElem?_append_left (by simp [uC]; omega)]
      simp
    | succ i =>
      rw [List.getElem?_append_right (by simp [uC]; omega)]
      have : (i + 1) * 4 + j - (uC u).length = i * 4 + j := by simp [uC]; omega
      rw [this, ih i (by simpa using h) j hj]
      simp
theorem set4 (A R : List Value) (x0 x1 x2 x3 y0 y1 y2 y3 : Value) (a : Nat) (h : A.length = a) : ((((A ++ x0 :: x1 :: x2 :: x3 :: R).set a y0).set (a + 1) y1).set (a + 2) y2).set (a + 3) y3 = A ++ y0 :: y1 :: y2 :: y3 :: R := by
  subst h
  simp
theorem flat_slr {w : World} {ob : Nat} {us : List U} {n : Nat} (h : BoxL w ob (flat4 us)) (hn : us.length = n) (hl : n ≤ 3) (ho : ob < w.heap.size) : SlR w (some ⟨ob, 0, none⟩) ob 0 us.length 4 (us.map uC) := by
  subst hn
  refine ⟨by simp, fun _ => rfl, fun i r hr => ?_, fun _ => ho, by omega⟩
  rw [List.getElem?_map] at hr
  obtain ⟨u, hu, rfl⟩ := Option.map_eq_some_iff.1 hr
  obtain ⟨hi, rfl⟩ := List.getElem?_eq_some_iff.1 hu
  refine ⟨rfl, fun j v hv => ?_⟩
  rw [Nat.zero_add]
  have hj : j < 4 := by have := (List.getElem?_eq_some_iff.1 hv).1; simpa [uC] using this
  have := flat4_get us [] i hi j hj
  rw [List.append_nil] at this
  exact (h _ v (by rw [this]; exact hv)).1
/-- What the unit of an expression comes out as. -/
def GotE (g : Got) (e : Ending) : Prop := match g with | .ok u => e = .returned (uV u) | .er E p => e = .panicked (failU E p)
end Go.Proofs.Ytjifiijgghpniaa
/-
  Contract of units: the unit of a number and of a fact.
-/
namespace Go.Proofs.Ytjifiijgghpniaa
open Go.RowKit Un MapKept

theorem box_new {w : World} {n : Nat} (l : List Value) (T : TypeId) (h : w.heap.size = n) : BoxL (w.alloc (.cells l.toArray T)) n l := h ▸ BoxL.new w l T
theorem box10 {w : World} {b : Nat} {x0 x1 x2 x3 x4 x5 x6 x7 x8 x9 : Value} (h : BoxL w b [x0, x1, x2, x3, x4, x5, x6, x7, x8, x9]) : w.cell? ⟨b, 0, none⟩ = some x0 ∧ w.cell? ⟨b, 1, none⟩ = some x1 ∧ w.cell? ⟨b, 2, none⟩ = some x2 ∧ w.cell? ⟨b, 3, none⟩ = some x3 ∧ w.cell? ⟨b, 4, none⟩ = some x4 ∧ w.cell? ⟨b, 5, none⟩ = some x5 ∧ w.cell? ⟨b, 6, none⟩ = some x6 ∧ w.cell? ⟨b, 7, none⟩ = some x7 ∧ w.cell? ⟨b, 8, none⟩ = some x8 ∧ w.cell? ⟨b, 9, none⟩ = some x9 := ⟨(h 0 _ rfl).1, (h 1 _ rfl).1, (h 2 _ rfl).1, (h 3 _ rfl).1, (h 4 _ rfl).1, (h 5 _ rfl).1, (h 6 _ rfl).1, (h 7 _ rfl).1, (h 8 _ rfl).1, (h 9 _ rfl).1⟩
set_option maxRecDepth 100000 in
set_option maxHeartbeats 8000000 in
theorem uunit_num (pl : Int) (nm : ByteArray) (n0 d0 : Int) (u : U) (xq : Option Addr) (kl xc : Nat) (m1 m2 : Nat) (w : World) :
    Calls Try.prog 38 #[.agg #[.map (some m1), .map (some m2)], .agg #[.int .i64 1, .int .i64 pl, .string nm, .int .i64 n0, .int .i64 d0, .bool u.f, .int .i64 u.m, .int .i64 u.a, .int .i64 u.d, .slice xq kl xc]] w fun e w' => GotE (if u.f = true ∨ (u.m ≠ 0 ∧ d0 ≠ 1) then .er 12 pl else .ok u) e ∧ RowKit.Below w.heap.size w w' := by
  have KA := Lib.hid (fun w => uisAmount_any 1 pl nm n0 d0 u xq kl xc w)
  have HE : Hid ((!u.f && (u.m == 0 || d0 == 1)) = true ↔ ¬ (u.f = true ∨ (u.m ≠ 0 ∧ d0 ≠ 1))) := by
    show _ ↔ _
    rw [Bool.and_eq_true, Bool.or_eq_true, Bool.not_eq_true', beq_iff_eq, beq_iff_eq]
    cases u.f <;> simp <;> omega
  obtain ⟨G, hG⟩ : ∃ G, G = if u.f = true ∨ (u.m ≠ 0 ∧ d0 ≠ 1) then Got.er 12 pl else .ok u := ⟨_, rfl⟩
  rw [← hG]
  have HG := Lib.hid hG
  clear hG
  obtain ⟨uf, um, ua, ud⟩ := u
  simp only at KA HE HG
  generalize (!uf && (um == 0 || d0 == 1)) = R at *
  obtain ⟨W1, hW1⟩ : ∃ W1, W1 = w.alloc (.cells #[.map (some m1), .map (some m2)] 72) := ⟨_, rfl⟩
  have a1 := (Below.refl w.heap.size w).alloc (Nat.le_refl _) (.cells #[.map (some m1), .map (some m2)] 72)
  rw [← hW1] at a1
  have s1 : W1.heap.size = w.heap.size + 1 := by rw [hW1]; simp
  obtain ⟨W2, hW2⟩ : ∃ W2, W2 = W1.alloc (.cells #[.int .i64 1, .int .i64 pl, .string nm, .int .i64 n0, .int .i64 d0, .bool uf, .int .i64 um, .int .i64 ua, .int .i64 ud, .slice xq kl xc] 32) := ⟨_, rfl⟩
  have a2 := (Below.refl W1.heap.size W1).alloc (Nat.le_refl _) (.cells #[.int .i64 1, .int .i64 pl, .string nm, .int .i64 n0, .int .i64 d0, .bool uf, .int .i64 um, .int .i64 ua, .int .i64 ud, .slice xq kl xc] 32)
  rw [← hW2] at a2
  have x2 : BoxL W2 (w.heap.size + 1) [.int .i64 1, .int .i64 pl, .string nm, .int .i64 n0, .int .i64 d0, .bool uf, .int .i64 um, .int .i64 ua, .int .i64 ud, .slice xq kl xc] := by rw [hW2]; exact box_new _ _ s1
  have s2 : W2.heap.size = w.heap.size + 2 := by rw [hW2]; simp; omega
  obtain ⟨W3, hW3⟩ : ∃ W3, W3 = W2.alloc (.cells #[.bool false, .int .i64 0, .int .i64 0, .int .i64 0] 29) := ⟨_, rfl⟩
  have a3 := (Below.refl W2.heap.size W2).alloc (Nat.le_refl _) (.cells #[.bool false, .int .i64 0, .int .i64 0, .int .i64 0] 29)
  rw [← hW3] at a3
  have x3 : BoxL W3 (w.heap.size + 2) [.bool false, .int .i64 0, .int .i64 0, .int .i64 0] := by rw [hW3]; exact box_new _ _ s2
  have X2 := Lib.hid (x2.bel (by simp) a3)
  have X3 := Lib.hid x3
  have B3 := Lib.hid ((a1.trans (a2.mono (by omega))).trans (a3.mono (by omega)))
  clear x2 x3 a1 a2 a3 s1 s2
  obtain ⟨c0, c1, c2, c3, c4, c5, c6, c7, c8, c9⟩ := box10 X2.out
  go_enter Try.func38, Try.ntmps38
  go_wp2_with fail
  rw [← hW1, ← hW2, ← hW3]
  clear hW1 hW2 hW3
  have hS : W3.drew.cell? ⟨w.heap.size + 1, 0, none⟩ = some (.int .i64 1) ∧ W3.drew.cell? ⟨w.heap.size + 1, 1, none⟩ = some (.int .i64 pl) ∧ W3.drew.cell? ⟨w.heap.size + 1, 2, none⟩ = some (.string nm) ∧ W3.drew.cell? ⟨w.heap.size + 1, 3, none⟩ = some (.int .i64 n0) ∧ W3.drew.cell? ⟨w.heap.size + 1, 4, none⟩ = some (.int .i64 d0) ∧ W3.drew.cell? ⟨w.heap.size + 1, 5, none⟩ = some (.bool uf) ∧ W3.drew.cell? ⟨w.heap.size + 1, 6, none⟩ = some (.int .i64 um) ∧ W3.drew.cell? ⟨w.heap.size + 1, 7, none⟩ = some (.int .i64 ua) ∧ W3.drew.cell? ⟨w.heap.size + 1, 8, none⟩ = some (.int .i64 ud) ∧ W3.drew.cell? ⟨w.heap.size + 1, 9, none⟩ = some (.slice xq kl xc) := ⟨c0, c1, c2, c3, c4, c5, c6, c7, c8, c9⟩
  refine wp_region_held (S := fun w' : World => w'.cell? ⟨w.heap.size + 1, 0, none⟩ = some (.int .i64 1) ∧ w'.cell? ⟨w.heap.size + 1, 1, none⟩ = some (.int .i64 pl) ∧ w'.cell? ⟨w.heap.size + 1, 2, none⟩ = some (.string nm) ∧ w'.cell? ⟨w.heap.size + 1, 3, none⟩ = some (.int .i64 n0) ∧ w'.cell? ⟨w.heap.size + 1, 4, none⟩ = some (.int .i64 d0) ∧ w'.cell? ⟨w.heap.size + 1, 5, none⟩ = some (.bool uf) ∧ w'.cell? ⟨w.heap.size + 1, 6, none⟩ = some (.int .i64 um) ∧ w'.cell? ⟨w.heap.size + 1, 7, none⟩ = some (.int .i64 ua) ∧ w'.cell? ⟨w.heap.size + 1, 8, none⟩ = some (.int .i64 ud) ∧ w'.cell? ⟨w.heap.size + 1, 9, none⟩ = some (.slice xq kl xc)) mixed ?_
  change wpAnyH _ _ _ _ _ _ _ _ W3.drew
  refine tk0 (v := ?_) (by kernel_rfl) (by kernel_rfl) (by kernel_rfl) (fun _ _ _ h => h) (Or.inl ⟨by rfl, ?_⟩) hS ?_
  rotate_left
  · (intro w hSw; (try dsimp only at hSw); go_simp; try with_reducible rfl)
  simp only [Act.put, List.setIfInBounds_toArray, List.set_cons_zero, List.set_cons_succ]
  refine tk2 (v := ?_) (by kernel_rfl) (by kernel_rfl) (by kernel_rfl) (fun _ _ _ h => h) (Or.inl ⟨by rfl, ?_⟩) hS ?_
  rotate_left
  · (intro w hSw; (try dsimp only at hSw); go_simp; try with_reducible rfl)
  simp only [Act.put, List.setIfInBounds_toArray, List.set_cons_zero, List.set_cons_succ]
  refine tk3 (v := ?_) (by kernel_rfl) (by kernel_rfl) (by kernel_rfl) (fun _ _ _ h => h) (Or.inl ⟨by rfl, ?_⟩) hS ?_
  rotate_left
  · (intro w hSw; (try dsimp only at hSw); go_simp; try with_reducible rfl)
  simp only [Act.put, List.setIfInBounds_toArray, List.set_cons_zero, List.set_cons_succ]
  refine wpAnyH_ready (rs := [1]) (by kernel_rfl) (by simp) (st1 (fun K hK => ?_) AllReadyH.nil)
  go_simp
  refine (KA.out _).mono ?_
  rintro _ v ⟨rfl, hb⟩
  have hb := (Below.refl W3.heap.size W3).drew.trans hb
  have X4 := Lib.hid (X2.out.bel (by simp) hb)
  have Y4 := Lib.hid (X3.out.bel (by simp) hb)
  have B4 := Lib.hid (B3.out.trans (hb.mono B3.out.size))
  clear hb X2 X3 B3 KA hS c0 c1 c2 c3 c4 c5 c6 c7 c8 c9
  obtain ⟨c0, c1, c2, c3, c4, c5, c6, c7, c8, c9⟩ := box10 X4.out
  obtain ⟨r0, r1, r2, r3, g0, g1, g2, g3⟩ := box4 Y4.out
  go_wp2_with fail
  refine hK.out _ _ ?_ (fun hHeld => ?_)
  · exact ⟨c0, c1, c2, c3, c4, c5, c6, c7, c8, c9⟩
  clear hK K
  try simp only [Act.put, List.setIfInBounds_toArray, List.set_cons_zero, List.set_cons_succ]
  refine wpAnyH_ready (rs := [4]) (by kernel_rfl) (by simp) (st4 (fun K hK => ?_) AllReadyH.nil)
  by_cases hc : uf = true ∨ (um ≠ 0 ∧ d0 ≠ 1)
  · have hR : R = false := by
      cases R with
      | false => rfl
      | true => exact absurd hc (HE.out.1 rfl)
    subst hR
    have HG2 : Hid (G = .er 12 pl) := by show _ = _; rw [HG.out, if_pos hc]
    go_simp
    refine (uneed_er 12 pl _).mono ?_
    rintro _ v2 ⟨rfl, rfl⟩
    go_wp2_with fail
    exact bodyPost_panic rfl ⟨by rw [HG2.out]; rfl, B4.out⟩
  · have hR : R = true := HE.out.2 hc
    subst hR
    have HG2 : Hid (G = .ok ⟨uf, um, ua, ud⟩) := by show _ = _; rw [HG.out, if_neg hc]
    go_simp
    refine (uneed_ok 12 pl _).mono ?_
    rintro _ v2 ⟨rfl, rfl⟩
    go_wp2_with fail
    refine hK.out _ _ ?_ (fun hHeld => ?_)
    · exact ⟨c0, c1, c2, c3, c4, c5, c6, c7, c8, c9⟩
    clear hK K
    try simp only [Act.put, List.setIfInBounds_toArray, List.set_cons_zero, List.set_cons_succ]
    refine wpAnyH_done (by kernel_rfl) ?_ _
    go_wp2_with fail
    exact bodyPost_ret (v := .agg #[.bool uf, .int .i64 um, .int .i64 ua, .int .i64 ud]) (by simp [results, Try.results38, go_sem, r0, r1, r2, r3]) rfl ⟨by rw [HG2.out]; rfl, (by repeat' (first | (with_reducible exact B4.out) | (with_reducible refine Below.setCell ?_ ?_ _) | (with_reducible refine Below.alloc ?_ ?_ _) | (with_reducible refine Below.drew ?_) | (with_reducible refine below_drewN ?_ _) | (with_reducible exact Below.refl _ _) | omega | (simp; done) | (simp; omega)))⟩
end Go.Proofs.Ytjifiijgghpniaa
