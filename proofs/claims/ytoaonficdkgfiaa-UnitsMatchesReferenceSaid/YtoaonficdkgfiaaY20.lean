/- Texts on units: RBas -/
import Derived.Test.YtoaonficdkgfiaaY16
namespace Go.Proofs.Ytoaonficdkgfiaa
open Go.RowKit Un MapKept

theorem eq_cmpT {rr vf : Bool} {vm va vd a b c : Int} (h : rr = (vf && (vm == a && (va == b && vd == c)))) (w : World) : (if vf = true then if vm = a then if va = b then if vd = c then Result.ok (Next.value (Value.bool true)) w else Result.ok (Next.value (Value.bool false)) w else Result.ok (Next.value (Value.bool false)) w else Result.ok (Next.value (Value.bool false)) w else Result.ok (Next.value (Value.bool false)) w) = Result.ok (Next.value (Value.bool rr)) w := by
 subst h
 cases vf <;> by_cases h1 : vm = a <;> by_cases h2 : va = b <;> by_cases h3 : vd = c <;> simp [h1, h2, h3]
theorem eqU5 (u : U) (f : Bool) (m a d : Int) : (u == (⟨f, m, a, d⟩ : U)) = (u.f == f && (u.m == m && (u.a == a && u.d == d))) := by
 obtain ⟨x, y, z, t⟩ := u
 rw [Bool.eq_iff_iff, beq_iff_eq]
 simp
set_option maxRecDepth 100000 in
set_option maxHeartbeats 12000000 in
theorem rbasic_any (u : U) (w : World) : Calls Try.prog 67 #[.agg #[.bool u.f, .int .i64 u.m, .int .i64 u.a, .int .i64 u.d]] w fun e w' => e = .returned (.bool (basic u)) ∧ RowKit.Below w.heap.size w w' := by
 have K1 := Lib.hid rFlag_any
 have K2 := Lib.hid rNumber_any
 have K3 := Lib.hid rMoney_any
 have K4 := Lib.hid rDays_any
 have HR : Hid (basic u = (u == uFlag || u == uNum || u == uMoney || u == uArea || u == uDays)) := rfl
 rw [HR.out]
 clear HR
 have H1 : Hid ((u == uFlag) = (u.f && (u.m == 0 && (u.a == 0 && u.d == 0)))) := by show _ = _; unfold uFlag; rw [eqU5]; simp
 have H2 : Hid ((u == uNum) = (!u.f && (u.m == 0 && (u.a == 0 && u.d == 0)))) := by show _ = _; unfold uNum; rw [eqU5]; simp
 have H3 : Hid ((u == uMoney) = (!u.f && (u.m == 1 && (u.a == 0 && u.d == 0)))) := by show _ = _; unfold uMoney; rw [eqU5]; simp
 have H4 : Hid ((u == uDays) = (!u.f && (u.m == 0 && (u.a == 0 && u.d == 1)))) := by show _ = _; unfold uDays; rw [eqU5]; simp
 have H5 : Hid ((u == uArea) = (!u.f && (u.m == 0 && (u.a == 1 && u.d == 0)))) := by show _ = _; unfold uArea; rw [eqU5]; simp
 generalize (u == uFlag) = r1 at *
 generalize (u == uNum) = r2 at *
 generalize (u == uMoney) = r3 at *
 generalize (u == uDays) = r4 at *
 generalize (u == uArea) = r5 at *
 obtain ⟨uf, um, ua, ud⟩ := u
 simp only at H1 H2 H3 H4 H5 ⊢
 have A1 := (Below.refl w.heap.size w).alloc (Nat.le_refl _) (.cells #[.bool uf, .int .i64 um, .int .i64 ua, .int .i64 ud] 29)
 have X1 := Lib.hid (BoxL.new w [.bool uf, .int .i64 um, .int .i64 ua, .int .i64 ud] 29)
 have HB := Lib.hid A1
 clear A1
 generalize hW1 : w.alloc (.cells #[.bool uf, .int .i64 um, .int .i64 ua, .int .i64 ud] 29) = W1 at *
 obtain ⟨c0, c1, c2, c3, -⟩ := box4 X1.out
 cases r1 with
 | true =>
  go_enter Try.func67, Try.ntmps67
  go_wp2_with fail
  clear hW1
  have hS : W1.drew.cell? ⟨w.heap.size, 0, none⟩ = some (.bool uf) ∧ W1.drew.cell? ⟨w.heap.size, 1, none⟩ = some (.int .i64 um) ∧ W1.drew.cell? ⟨w.heap.size, 2, none⟩ = some (.int .i64 ua) ∧ W1.drew.cell? ⟨w.heap.size, 3, none⟩ = some (.int .i64 ud) := ⟨c0, c1, c2, c3⟩
  refine wp_region_held (S := fun w' : World => w'.cell? ⟨w.heap.size, 0, none⟩ = some (.bool uf) ∧ w'.cell? ⟨w.heap.size, 1, none⟩ = some (.int .i64 um) ∧ w'.cell? ⟨w.heap.size, 2, none⟩ = some (.int .i64 ua) ∧ w'.cell? ⟨w.heap.size, 3, none⟩ = some (.int .i64 ud)) mixed ?_
  change wpAnyH _ _ _ _ _ _ _ _ W1.drew
  have HB0 := Lib.hid HB.out.drew
  clear c0 c1 c2 c3
  refine tk0 (v := ?_) (by kernel_rfl) (by kernel_rfl) (by kernel_rfl) (fun _ _ _ h => h) (Or.inl ⟨by rfl, ?_⟩) hS ?_
  rotate_left
  ·(intro w hSw; (try dsimp only at hSw); go_simp; try with_reducible rfl)
  simp only [Act.put, zA, zB, zC]
  refine wpAnyH_ready (rs := [1]) (by kernel_rfl) (by simp) (st1 (fun K hK => ?_) AllReadyH.nil)
  go_simp
  refine (K1.out _).mono ?_
  rintro _ V1 ⟨rfl, hb⟩
  have S1 := Lib.hid (show V1.cell? ⟨w.heap.size, 0, none⟩ = some (.bool uf) ∧ V1.cell? ⟨w.heap.size, 1, none⟩ = some (.int .i64 um) ∧ V1.cell? ⟨w.heap.size, 2, none⟩ = some (.int .i64 ua) ∧ V1.cell? ⟨w.heap.size, 3, none⟩ = some (.int .i64 ud) from ⟨(hb.cell (World.block_lt_of_cell? _ _ hS.1)).trans hS.1, (hb.cell (World.block_lt_of_cell? _ _ hS.2.1)).trans hS.2.1, (hb.cell (World.block_lt_of_cell? _ _ hS.2.2.1)).trans hS.2.2.1, (hb.cell (World.block_lt_of_cell? _ _ hS.2.2.2)).trans hS.2.2.2⟩)
  have HB1 := Lib.hid (HB0.out.trans (hb.mono HB0.out.size))
  clear hb hS
  go_wp2_with fail
  refine hK.out _ _ ?_ (fun hHeld => ?_)
  ·exact S1.out
  clear hK K
  try simp only [Act.put, zA, zB, zC]
  refine tk2 (v := .bool true) (by kernel_rfl) (by kernel_rfl) (by kernel_rfl) (fun _ _ _ h => h) (Or.inl ⟨by rfl, (by intro w hSw; (try dsimp only at hSw); go_simp; first | exact eq_cmpT H1.out w | (have hh := H1.out; clear H1 H2 H3 H4 H5; revert hh; cases uf <;> simp <;> intros <;> first | omega | (simp_all; done) | (trace_state; omega)))⟩) hHeld ?_
  simp only [Act.put, zA, zB, zC]
  refine tk3 (v := ?_) (by kernel_rfl) (by kernel_rfl) (by kernel_rfl) (fun _ _ _ h => h) (Or.inl ⟨by rfl, ?_⟩) hHeld ?_
  rotate_left
  ·(intro w hSw; (try dsimp only at hSw); go_simp; try with_reducible rfl)
  simp only [Act.put, zA, zB, zC]
  refine tk4 (v := undef) (by kernel_rfl) (by kernel_rfl) (by kernel_rfl) (fun _ _ _ h => h) (Or.inr ⟨by rfl, rfl⟩) hHeld ?_
  simp only [Act.put, zA, zB, zC]
  refine wpAnyH_ready (rs := [5]) (by kernel_rfl) (by simp) (st5 (fun K hK => ?_) AllReadyH.nil)
  go_simp
  have hT := hHeld
  refine hK.out _ _ ?_ (fun hHeld => ?_)
  ·exact hT
  clear hK K
  try simp only [Act.put, zA, zB, zC]
  clear hT
  refine tk6 (v := undef) (by kernel_rfl) (by kernel_rfl) (by kernel_rfl) (fun _ _ _ h => h) (Or.inr ⟨by rfl, rfl⟩) hHeld ?_
  simp only [Act.put, zA, zB, zC]
  refine tk7 (v := ?_) (by kernel_rfl) (by kernel_rfl) (by kernel_rfl) (fun _ _ _ h => h) (Or.inl ⟨by rfl, ?_⟩) hHeld ?_
  rotate_left
  ·(intro w hSw; (try dsimp only at hSw); go_simp; try with_reducible rfl)
  simp only [Act.put, zA, zB, zC]
  refine tk8 (v := ?_) (by kernel_rfl) (by kernel_rfl) (by kernel_rfl) (fun _ _ _ h => h) (Or.inl ⟨by rfl, ?_⟩) hHeld ?_
  rotate_left
  ·(intro w hSw; (try dsimp only at hSw); go_simp; try with_reducible rfl)
  simp only [Act.put, zA, zB, zC]
  refine tk9 (v := undef) (by kernel_rfl) (by kernel_rfl) (by kernel_rfl) (fun _ _ _ h => h) (Or.inr ⟨by rfl, rfl⟩) hHeld ?_
  simp only [Act.put, zA, zB, zC]
  refine wpAnyH_ready (rs := [10]) (by kernel_rfl) (by simp) (st10 (fun K hK => ?_) AllReadyH.nil)
  go_simp
  have hT := hHeld
  refine hK.out _ _ ?_ (fun hHeld => ?_)
  ·exact hT
  clear hK K
  try simp only [Act.put, zA, zB, zC]
  clear hT
  refine tk11 (v := undef) (by kernel_rfl) (by kernel_rfl) (by kernel_rfl) (fun _ _ _ h => h) (Or.inr ⟨by rfl, rfl⟩) hHeld ?_
  simp only [Act.put, zA, zB, zC]
  refine tk12 (v := ?_) (by kernel_rfl) (by kernel_rfl) (by kernel_rfl) (fun _ _ _ h => h) (Or.inl ⟨by rfl, ?_⟩) hHeld ?_
  rotate_left
  ·(intro w hSw; (try dsimp only at hSw); go_simp; try with_reducible rfl)
  simp only [Act.put, zA, zB, zC]
  refine tk13 (v := ?_) (by kernel_rfl) (by kernel_rfl) (by kernel_rfl) (fun _ _ _ h => h) (Or.inl ⟨by rfl, ?_⟩) hHeld ?_
  rotate_left
  ·(intro w hSw; (try dsimp only at hSw); go_simp; try with_reducible rfl)
  simp only [Act.put, zA, zB, zC]
  refine tk14 (v := undef) (by kernel_rfl) (by kernel_rfl) (by kernel_rfl) (fun _ _ _ h => h) (Or.inr ⟨by rfl, rfl⟩) hHeld ?_
  simp only [Act.put, zA, zB, zC]
  refine wpAnyH_ready (rs := [15]) (by kernel_rfl) (by simp) (st15 (fun K hK => ?_) AllReadyH.nil)
  go_simp
  have hT := hHeld
  refine hK.out _ _ ?_ (fun hHeld => ?_)
  ·exact hT
  clear hK K
  try simp only [Act.put, zA, zB, zC]
  clear hT
  refine tk16 (v := undef) (by kernel_rfl) (by kernel_rfl) (by kernel_rfl) (fun _ _ _ h => h) (Or.inr ⟨by rfl, rfl⟩) hHeld ?_
  simp only [Act.put, zA, zB, zC]
  refine tk17 (v := ?_) (by kernel_rfl) (by kernel_rfl) (by kernel_rfl) (fun _ _ _ h => h) (Or.inl ⟨by rfl, ?_⟩) hHeld ?_
  rotate_left
  ·(intro w hSw; (try dsimp only at hSw); go_simp; try with_reducible rfl)
  simp only [Act.put, zA, zB, zC]
  refine tk18 (v := ?_) (by kernel_rfl) (by kernel_rfl) (by kernel_rfl) (fun _ _ _ h => h) (Or.inl ⟨by rfl, ?_⟩) hHeld ?_
  rotate_left
  ·(intro w hSw; (try dsimp only at hSw); go_simp; try with_reducible rfl)
  simp only [Act.put, zA, zB, zC]
  refine tk19 (v := undef) (by kernel_rfl) (by kernel_rfl) (by kernel_rfl) (fun _ _ _ h => h) (Or.inr ⟨by rfl, rfl⟩) hHeld ?_
  simp only [Act.put, zA, zB, zC]
  refine tk20 (v := undef) (by kernel_rfl) (by kernel_rfl) (by kernel_rfl) (fun _ _ _ h => h) (Or.inr ⟨by rfl, rfl⟩) hHeld ?_
  simp only [Act.put, zA, zB, zC]
  refine tk21 (v := undef) (by kernel_rfl) (by kernel_rfl) (by kernel_rfl) (fun _ _ _ h => h) (Or.inr ⟨by rfl, rfl⟩) hHeld ?_
  simp only [Act.put, zA, zB, zC]
  refine tk22 (v := ?_) (by kernel_rfl) (by kernel_rfl) (by kernel_rfl) (fun _ _ _ h => h) (Or.inl ⟨by rfl, ?_⟩) hHeld ?_
  rotate_left
  ·(intro w hSw; (try dsimp only at hSw); go_simp; try with_reducible rfl)
  simp only [Act.put, zA, zB, zC]
  refine tk23 (v := ?_) (by kernel_rfl) (by kernel_rfl) (by kernel_rfl) (fun _ _ _ h => h) (Or.inl ⟨by rfl, ?_⟩) hHeld ?_
  rotate_left
  ·(intro w hSw; (try dsimp only at hSw); go_simp; try with_reducible rfl)
  simp only [Act.put, zA, zB, zC]
  refine wpAnyH_done (by kernel_rfl) ?_ _
  go_wp2_with fail
  go_ret
  exact ⟨by simp, HB1.out⟩
 | false =>
  cases r2 with
  | true =>
   go_enter Try.func67, Try.ntmps67
   go_wp2_with fail
   clear hW1
   have hS : W1.drew.cell? ⟨w.heap.size, 0, none⟩ = some (.bool uf) ∧ W1.drew.cell? ⟨w.heap.size, 1, none⟩ = some (.int .i64 um) ∧ W1.drew.cell? ⟨w.heap.size, 2, none⟩ = some (.int .i64 ua) ∧ W1.drew.cell? ⟨w.heap.size, 3, none⟩ = some (.int .i64 ud) := ⟨c0, c1, c2, c3⟩
   refine wp_region_held (S := fun w' : World => w'.cell? ⟨w.heap.size, 0, none⟩ = some (.bool uf) ∧ w'.cell? ⟨w.heap.size, 1, none⟩ = some (.int .i64 um) ∧ w'.cell? ⟨w.heap.size, 2, none⟩ = some (.int .i64 ua) ∧ w'.cell? ⟨w.heap.size, 3, none⟩ = some (.int .i64 ud)) mixed ?_
   change wpAnyH _ _ _ _ _ _ _ _ W1.drew
   have HB0 := Lib.hid HB.out.drew
   clear c0 c1 c2 c3
   refine tk0 (v := ?_) (by kernel_rfl) (by kernel_rfl) (by kernel_rfl) (fun _ _ _ h => h) (Or.inl ⟨by rfl, ?_⟩) hS ?_
   rotate_left
   ·(intro w hSw; (try dsimp only at hSw); go_simp; try with_reducible rfl)
   simp only [Act.put, zA, zB, zC]
   refine wpAnyH_ready (rs := [1]) (by kernel_rfl) (by simp) (st1 (fun K hK => ?_) AllReadyH.nil)
   go_simp
   refine (K1.out _).mono ?_
   rintro _ V1 ⟨rfl, hb⟩
   have S1 := Lib.hid (show V1.cell? ⟨w.heap.size, 0, none⟩ = some (.bool uf) ∧ V1.cell? ⟨w.heap.size, 1, none⟩ = some (.int .i64 um) ∧ V1.cell? ⟨w.heap.size, 2, none⟩ = some (.int .i64 ua) ∧ V1.cell? ⟨w.heap.size, 3, none⟩ = some (.int .i64 ud) from ⟨(hb.cell (World.block_lt_of_cell? _ _ hS.1)).trans hS.1, (hb.cell (World.block_lt_of_cell? _ _ hS.2.1)).trans hS.2.1, (hb.cell (World.block_lt_of_cell? _ _ hS.2.2.1)).trans hS.2.2.1, (hb.cell (World.block_lt_of_cell? _ _ hS.2.2.2)).trans hS.2.2.2⟩)
   have HB1 := Lib.hid (HB0.out.trans (hb.mono HB0.out.size))
   clear hb hS
   go_wp2_with fail
   refine hK.out _ _ ?_ (fun hHeld => ?_)
   ·exact S1.out
   clear hK K
   try simp only [Act.put, zA, zB, zC]
   refine tk2 (v := .bool false) (by kernel_rfl) (by kernel_rfl) (by kernel_rfl) (fun _ _ _ h => h) (Or.inl ⟨by rfl, (by intro w hSw; (try dsimp only at hSw); go_simp; first | exact eq_cmpT H1.out w | (have hh := H1.out; clear H1 H2 H3 H4 H5; revert hh; cases uf <;> simp <;> intros <;> first | omega | (simp_all; done) | (trace_state; omega)))⟩) hHeld ?_
   simp only [Act.put, zA, zB, zC]
   refine tk3 (v := ?_) (by kernel_rfl) (by kernel_rfl) (by kernel_rfl) (fun _ _ _ h => h) (Or.inl ⟨by rfl, ?_⟩) hHeld ?_
   rotate_left
   ·(intro w hSw; (try dsimp only at hSw); go_simp; try with_reducible rfl)
   simp only [Act.put, zA, zB, zC]
   refine tk4 (v := ?_) (by kernel_rfl) (by kernel_rfl) (by kernel_rfl) (fun _ _ _ h => h) (Or.inl ⟨by rfl, ?_⟩) hHeld ?_
   rotate_left
   ·(intro w hSw; (try dsimp only at hSw); go_simp; try with_reducible rfl)
   simp only [Act.put, zA, zB, zC]
   refine wpAnyH_ready (rs := [5]) (by kernel_rfl) (by simp) (st5 (fun K hK => ?_) AllReadyH.nil)
   go_simp
   refine (K2.out _).mono ?_
   rintro _ V2 ⟨rfl, hb⟩
   have S2 := Lib.hid (show V2.cell? ⟨w.heap.size, 0, none⟩ = some (.bool uf) ∧ V2.cell? ⟨w.heap.size, 1, none⟩ = some (.int .i64 um) ∧ V2.cell? ⟨w.heap.size, 2, none⟩ = some (.int .i64 ua) ∧ V2.cell? ⟨w.heap.size, 3, none⟩ = some (.int .i64 ud) from ⟨(hb.cell (World.block_lt_of_cell? _ _ hHeld.1)).trans hHeld.1, (hb.cell (World.block_lt_of_cell? _ _ hHeld.2.1)).trans hHeld.2.1, (hb.cell (World.block_lt_of_cell? _ _ hHeld.2.2.1)).trans hHeld.2.2.1, (hb.cell (World.block_lt_of_cell? _ _ hHeld.2.2.2)).trans hHeld.2.2.2⟩)
   have HB2 := Lib.hid (HB1.out.trans (hb.mono HB1.out.size))
   clear hb hHeld
   go_wp2_with fail
   refine hK.out _ _ ?_ (fun hHeld => ?_)
   ·exact S2.out
   clear hK K
   try simp only [Act.put, zA, zB, zC]
   refine tk6 (v := .bool true) (by kernel_rfl) (by kernel_rfl) (by kernel_rfl) (fun _ _ _ h => h) (Or.inl ⟨by rfl, (by intro w hSw; (try dsimp only at hSw); go_simp; first | exact eq_cmp H2.out w | (have hh := H2.out; clear H1 H2 H3 H4 H5; revert hh; cases uf <;> simp <;> intros <;> first | omega | (simp_all; done) | (trace_state; omega)))⟩) hHeld ?_
   simp only [Act.put, zA, zB, zC]
   refine tk7 (v := ?_) (by kernel_rfl) (by kernel_rfl) (by kernel_rfl) (fun _ _ _ h => h) (Or.inl ⟨by rfl, ?_⟩) hHeld ?_
   rotate_left
   ·(intro w hSw; (try dsimp only at hSw); go_simp; try with_reducible rfl)
   simp only [Act.put, zA, zB, zC]
   refine tk8 (v := ?_) (by kernel_rfl) (by kernel_rfl) (by kernel_rfl) (fun _ _ _ h => h) (Or.inl ⟨by rfl, ?_⟩) hHeld ?_
   rotate_left
   ·(intro w hSw; (try dsimp only at hSw); go_simp; try with_reducible rfl)
   simp only [Act.put, zA, zB, zC]
   refine tk9 (v := undef) (by kernel_rfl) (by kernel_rfl) (by kernel_rfl) (fun _ _ _ h => h) (Or.inr ⟨by rfl, rfl⟩) hHeld ?_
   simp only [Act.put, zA, zB, zC]
   refine wpAnyH_ready (rs := [10]) (by kernel_rfl) (by simp) (st10 (fun K hK => ?_) AllReadyH.nil)
   go_simp
   have hT := hHeld
   refine hK.out _ _ ?_ (fun hHeld => ?_)
   ·exact hT
   clear hK K
   try simp only [Act.put, zA, zB, zC]
   clear hT
   refine tk11 (v := undef) (by kernel_rfl) (by kernel_rfl) (by kernel_rfl) (fun _ _ _ h => h) (Or.inr ⟨by rfl, rfl⟩) hHeld ?_
   simp only [Act.put, zA, zB, zC]
   refine tk12 (v := ?_) (by kernel_rfl) (by kernel_rfl) (by kernel_rfl) (fun _ _ _ h => h) (Or.inl ⟨by rfl, ?_⟩) hHeld ?_
   rotate_left
   ·(intro w hSw; (try dsimp only at hSw); go_simp; try with_reducible rfl)
   simp only [Act.put, zA, zB, zC]
   refine tk13 (v := ?_) (by kernel_rfl) (by kernel_rfl) (by kernel_rfl) (fun _ _ _ h => h) (Or.inl ⟨by rfl, ?_⟩) hHeld ?_
   rotate_left
   ·(intro w hSw; (try dsimp only at hSw); go_simp; try with_reducible rfl)
   simp only [Act.put, zA, zB, zC]
   refine tk14 (v := undef) (by kernel_rfl) (by kernel_rfl) (by kernel_rfl) (fun _ _ _ h => h) (Or.inr ⟨by rfl, rfl⟩) hHeld ?_
   simp only [Act.put, zA, zB, zC]
   refine wpAnyH_ready (rs := [15]) (by kernel_rfl) (by simp) (st15 (fun K hK => ?_) AllReadyH.nil)
   go_simp
   have hT := hHeld
   refine hK.out _ _ ?_ (fun hHeld => ?_)
   ·exact hT
   clear hK K
   try simp only [Act.put, zA, zB, zC]
   clear hT
   refine tk16 (v := undef) (by kernel_rfl) (by kernel_rfl) (by kernel_rfl) (fun _ _ _ h => h) (Or.inr ⟨by rfl, rfl⟩) hHeld ?_
   simp only [Act.put, zA, zB, zC]
   refine tk17 (v := ?_) (by kernel_rfl) (by kernel_rfl) (by kernel_rfl) (fun _ _ _ h => h) (Or.inl ⟨by rfl, ?_⟩) hHeld ?_
   rotate_left
   ·(intro w hSw; (try dsimp only at hSw); go_simp; try with_reducible rfl)
   simp only [Act.put, zA, zB, zC]
   refine tk18 (v := ?_) (by kernel_rfl) (by kernel_rfl) (by kernel_rfl) (fun _ _ _ h => h) (Or.inl ⟨by rfl, ?_⟩) hHeld ?_
   rotate_left
   ·(intro w hSw; (try dsimp only at hSw); go_simp; try with_reducible rfl)
   simp only [Act.put, zA, zB, zC]
   refine tk19 (v := undef) (by kernel_rfl) (by kernel_rfl) (by kernel_rfl) (fun _ _ _ h => h) (Or.inr ⟨by rfl, rfl⟩) hHeld ?_
   simp only [Act.put, zA, zB, zC]
   refine tk20 (v := undef) (by kernel_rfl) (by kernel_rfl) (by kernel_rfl) (fun _ _ _ h => h) (Or.inr ⟨by rfl, rfl⟩) hHeld ?_
   simp only [Act.put, zA, zB, zC]
   refine tk21 (v := undef) (by kernel_rfl) (by kernel_rfl) (by kernel_rfl) (fun _ _ _ h => h) (Or.inr ⟨by rfl, rfl⟩) hHeld ?_
   simp only [Act.put, zA, zB, zC]
   refine tk22 (v := ?_) (by kernel_rfl) (by kernel_rfl) (by kernel_rfl) (fun _ _ _ h => h) (Or.inl ⟨by rfl, ?_⟩) hHeld ?_
   rotate_left
   ·(intro w hSw; (try dsimp only at hSw); go_simp; try with_reducible rfl)
   simp only [Act.put, zA, zB, zC]
   refine tk23 (v := ?_) (by kernel_rfl) (by kernel_rfl) (by kernel_rfl) (fun _ _ _ h => h) (Or.inl ⟨by rfl, ?_⟩) hHeld ?_
   rotate_left
   ·(intro w hSw; (try dsimp only at hSw); go_simp; try with_reducible rfl)
   simp only [Act.put, zA, zB, zC]
   refine wpAnyH_done (by kernel_rfl) ?_ _
   go_wp2_with fail
   go_ret
   exact ⟨by simp, HB2.out⟩
  | false =>
   cases r3 with
   | true =>
    go_enter Try.func67, Try.ntmps67
    go_wp2_with fail
    clear hW1
    have hS : W1.drew.cell? ⟨w.heap.size, 0, none⟩ = some (.bool uf) ∧ W1.drew.cell? ⟨w.heap.size, 1, none⟩ = some (.int .i64 um) ∧ W1.drew.cell? ⟨w.heap.size, 2, none⟩ = some (.int .i64 ua) ∧ W1.drew.cell? ⟨w.heap.size, 3, none⟩ = some (.int .i64 ud) := ⟨c0, c1, c2, c3⟩
    refine wp_region_held (S := fun w' : World => w'.cell? ⟨w.heap.size, 0, none⟩ = some (.bool uf) ∧ w'.cell? ⟨w.heap.size, 1, none⟩ = some (.int .i64 um) ∧ w'.cell? ⟨w.heap.size, 2, none⟩ = some (.int .i64 ua) ∧ w'.cell? ⟨w.heap.size, 3, none⟩ = some (.int .i64 ud)) mixed ?_
    change wpAnyH _ _ _ _ _ _ _ _ W1.drew
    have HB0 := Lib.hid HB.out.drew
    clear c0 c1 c2 c3
    refine tk0 (v := ?_) (by kernel_rfl) (by kernel_rfl) (by kernel_rfl) (fun _ _ _ h => h) (Or.inl ⟨by rfl, ?_⟩) hS ?_
    rotate_left
    ·(intro w hSw; (try dsimp only at hSw); go_simp; try with_reducible rfl)
    simp only [Act.put, zA, zB, zC]
    refine wpAnyH_ready (rs := [1]) (by kernel_rfl) (by simp) (st1 (fun K hK => ?_) AllReadyH.nil)
    go_simp
    refine (K1.out _).mono ?_
    rintro _ V1 ⟨rfl, hb⟩
    have S1 := Lib.hid (show V1.cell? ⟨w.heap.size, 0, none⟩ = some (.bool uf) ∧ V1.cell? ⟨w.heap.size, 1, none⟩ = some (.int .i64 um) ∧ V1.cell? ⟨w.heap.size, 2, none⟩ = some (.int .i64 ua) ∧ V1.cell? ⟨w.heap.size, 3, none⟩ = some (.int .i64 ud) from ⟨(hb.cell (World.block_lt_of_cell? _ _ hS.1)).trans hS.1, (hb.cell (World.block_lt_of_cell? _ _ hS.2.1)).trans hS.2.1, (hb.cell (World.block_lt_of_cell? _ _ hS.2.2.1)).trans hS.2.2.1, (hb.cell (World.block_lt_of_cell? _ _ hS.2.2.2)).trans hS.2.2.2⟩)
    have HB1 := Lib.hid (HB0.out.trans (hb.mono HB0.out.size))
    clear hb hS
    go_wp2_with fail
    refine hK.out _ _ ?_ (fun hHeld => ?_)
    ·exact S1.out
    clear hK K
    try simp only [Act.put, zA, zB, zC]
    refine tk2 (v := .bool false) (by kernel_rfl) (by kernel_rfl) (by kernel_rfl) (fun _ _ _ h => h) (Or.inl ⟨by rfl, (by intro w hSw; (try dsimp only at hSw); go_simp; first | exact eq_cmpT H1.out w | (have hh := H1.out; clear H1 H2 H3 H4 H5; revert hh; cases uf <;> simp <;> intros <;> first | omega | (simp_all; done) | (trace_state; omega)))⟩) hHeld ?_
    simp only [Act.put, zA, zB, zC]
    refine tk3 (v := ?_) (by kernel_rfl) (by kernel_rfl) (by kernel_rfl) (fun _ _ _ h => h) (Or.inl ⟨by rfl, ?_⟩) hHeld ?_
    rotate_left
    ·(intro w hSw; (try dsimp only at hSw); go_simp; try with_reducible rfl)
    simp only [Act.put, zA, zB, zC]
    refine tk4 (v := ?_) (by kernel_rfl) (by kernel_rfl) (by kernel_rfl) (fun _ _ _ h => h) (Or.inl ⟨by rfl, ?_⟩) hHeld ?_
    rotate_left
    ·(intro w hSw; (try dsimp only at hSw); go_simp; try with_reducible rfl)
    simp only [Act.put, zA, zB, zC]
    refine wpAnyH_ready (rs := [5]) (by kernel_rfl) (by simp) (st5 (fun K hK => ?_) AllReadyH.nil)
    go_simp
    refine (K2.out _).mono ?_
    rintro _ V2 ⟨rfl, hb⟩
    have S2 := Lib.hid (show V2.cell? ⟨w.heap.size, 0, none⟩ = some (.bool uf) ∧ V2.cell? ⟨w.heap.size, 1, none⟩ = some (.int .i64 um) ∧ V2.cell? ⟨w.heap.size, 2, none⟩ = some (.int .i64 ua) ∧ V2.cell? ⟨w.heap.size, 3, none⟩ = some (.int .i64 ud) from ⟨(hb.cell (World.block_lt_of_cell? _ _ hHeld.1)).trans hHeld.1, (hb.cell (World.block_lt_of_cell? _ _ hHeld.2.1)).trans hHeld.2.1, (hb.cell (World.block_lt_of_cell? _ _ hHeld.2.2.1)).trans hHeld.2.2.1, (hb.cell (World.block_lt_of_cell? _ _ hHeld.2.2.2)).trans hHeld.2.2.2⟩)
    have HB2 := Lib.hid (HB1.out.trans (hb.mono HB1.out.size))
    clear hb hHeld
    go_wp2_with fail
    refine hK.out _ _ ?_ (fun hHeld => ?_)
    ·exact S2.out
    clear hK K
    try simp only [Act.put, zA, zB, zC]
    refine tk6 (v := .bool false) (by kernel_rfl) (by kernel_rfl) (by kernel_rfl) (fun _ _ _ h => h) (Or.inl ⟨by rfl, (by intro w hSw; (try dsimp only at hSw); go_simp; first | exact eq_cmp H2.out w | (have hh := H2.out; clear H1 H2 H3 H4 H5; revert hh; cases uf <;> simp <;> intros <;> first | omega | (simp_all; done) | (trace_state; omega)))⟩) hHeld ?_
    simp only [Act.put, zA, zB, zC]
    refine tk7 (v := ?_) (by kernel_rfl) (by kernel_rfl) (by kernel_rfl) (fun _ _ _ h => h) (Or.inl ⟨by rfl, ?_⟩) hHeld ?_
    rotate_left
    ·(intro w hSw; (try dsimp only at hSw); go_simp; try with_reducible rfl)
    simp only [Act.put, zA, zB, zC]
    refine tk8 (v := ?_) (by kernel_rfl) (by kernel_rfl) (by kernel_rfl) (fun _ _ _ h => h) (Or.inl ⟨by rfl, ?_⟩) hHeld ?_
    rotate_left
    ·(intro w hSw; (try dsimp only at hSw); go_simp; try with_reducible rfl)
    simp only [Act.put, zA, zB, zC]
    refine tk9 (v := ?_) (by kernel_rfl) (by kernel_rfl) (by kernel_rfl) (fun _ _ _ h => h) (Or.inl ⟨by rfl, ?_⟩) hHeld ?_
    rotate_left
    ·(intro w hSw; (try dsimp only at hSw); go_simp; try with_reducible rfl)
    simp only [Act.put, zA, zB, zC]
    refine wpAnyH_ready (rs := [10]) (by kernel_rfl) (by simp) (st10 (fun K hK => ?_) AllReadyH.nil)
    go_simp
    refine (K3.out _).mono ?_
    rintro _ V3 ⟨rfl, hb⟩
    have S3 := Lib.hid (show V3.cell? ⟨w.heap.size, 0, none⟩ = some (.bool uf) ∧ V3.cell? ⟨w.heap.size, 1, none⟩ = some (.int .i64 um) ∧ V3.cell? ⟨w.heap.size, 2, none⟩ = some (.int .i64 ua) ∧ V3.cell? ⟨w.heap.size, 3, none⟩ = some (.int .i64 ud) from ⟨(hb.cell (World.block_lt_of_cell? _ _ hHeld.1)).trans hHeld.1, (hb.cell (World.block_lt_of_cell? _ _ hHeld.2.1)).trans hHeld.2.1, (hb.cell (World.block_lt_of_cell? _ _ hHeld.2.2.1)).trans hHeld.2.2.1, (hb.cell (World.block_lt_of_cell? _ _ hHeld.2.2.2)).trans hHeld.2.2.2⟩)
    have HB3 := Lib.hid (HB2.out.trans (hb.mono HB2.out.size))
    clear hb hHeld
    go_wp2_with fail
    refine hK.out _ _ ?_ (fun hHeld => ?_)
    ·exact S3.out
    clear hK K
    try simp only [Act.put, zA, zB, zC]
    refine tk11 (v := .bool true) (by kernel_rfl) (by kernel_rfl) (by kernel_rfl) (fun _ _ _ h => h) (Or.inl ⟨by rfl, (by intro w hSw; (try dsimp only at hSw); go_simp; first | exact eq_cmp H3.out w | (have hh := H3.out; clear H1 H2 H3 H4 H5; revert hh; cases uf <;> simp <;> intros <;> first | omega | (simp_all; done) | (trace_state; omega)))⟩) hHeld ?_
    simp only [Act.put, zA, zB, zC]
    refine tk12 (v := ?_) (by kernel_rfl) (by kernel_rfl) (by kernel_rfl) (fun _ _ _ h => h) (Or.inl ⟨by rfl, ?_⟩) hHeld ?_
    rotate_left
    ·(intro w hSw; (try dsimp only at hSw); go_simp; try with_reducible rfl)
    simp only [Act.put, zA, zB, zC]
    refine tk13 (v := ?_) (by kernel_rfl) (by kernel_rfl) (by kernel_rfl) (fun _ _ _ h => h) (Or.inl ⟨by rfl, ?_⟩) hHeld ?_
    rotate_left
    ·(intro w hSw; (try dsimp only at hSw); go_simp; try with_reducible rfl)
    simp only [Act.put, zA, zB, zC]
    refine tk14 (v := undef) (by kernel_rfl) (by kernel_rfl) (by kernel_rfl) (fun _ _ _ h => h) (Or.inr ⟨by rfl, rfl⟩) hHeld ?_
    simp only [Act.put, zA, zB, zC]
    refine wpAnyH_ready (rs := [15]) (by kernel_rfl) (by simp) (st15 (fun K hK => ?_) AllReadyH.nil)
    go_simp
    have hT := hHeld
    refine hK.out _ _ ?_ (fun hHeld => ?_)
    ·exact hT
    clear hK K
    try simp only [Act.put, zA, zB, zC]
    clear hT
    refine tk16 (v := undef) (by kernel_rfl) (by kernel_rfl) (by kernel_rfl) (fun _ _ _ h => h) (Or.inr ⟨by rfl, rfl⟩) hHeld ?_
    simp only [Act.put, zA, zB, zC]
    refine tk17 (v := ?_) (by kernel_rfl) (by kernel_rfl) (by kernel_rfl) (fun _ _ _ h => h) (Or.inl ⟨by rfl, ?_⟩) hHeld ?_
    rotate_left
    ·(intro w hSw; (try dsimp only at hSw); go_simp; try with_reducible rfl)
    simp only [Act.put, zA, zB, zC]
    refine tk18 (v := ?_) (by kernel_rfl) (by kernel_rfl) (by kernel_rfl) (fun _ _ _ h => h) (Or.inl ⟨by rfl, ?_⟩) hHeld ?_
    rotate_left
    ·(intro w hSw; (try dsimp only at hSw); go_simp; try with_reducible rfl)
    simp only [Act.put, zA, zB, zC]
    refine tk19 (v := undef) (by kernel_rfl) (by kernel_rfl) (by kernel_rfl) (fun _ _ _ h => h) (Or.inr ⟨by rfl, rfl⟩) hHeld ?_
    simp only [Act.put, zA, zB, zC]
    refine tk20 (v := undef) (by kernel_rfl) (by kernel_rfl) (by kernel_rfl) (fun _ _ _ h => h) (Or.inr ⟨by rfl, rfl⟩) hHeld ?_
    simp only [Act.put, zA, zB, zC]
    refine tk21 (v := undef) (by kernel_rfl) (by kernel_rfl) (by kernel_rfl) (fun _ _ _ h => h) (Or.inr ⟨by rfl, rfl⟩) hHeld ?_
    simp only [Act.put, zA, zB, zC]
    refine tk22 (v := ?_) (by kernel_rfl) (by kernel_rfl) (by kernel_rfl) (fun _ _ _ h => h) (Or.inl ⟨by rfl, ?_⟩) hHeld ?_
    rotate_left
    ·(intro w hSw; (try dsimp only at hSw); go_simp; try with_reducible rfl)
    simp only [Act.put, zA, zB, zC]
    refine tk23 (v := ?_) (by kernel_rfl) (by kernel_rfl) (by kernel_rfl) (fun _ _ _ h => h) (Or.inl ⟨by rfl, ?_⟩) hHeld ?_
    rotate_left
    ·(intro w hSw; (try dsimp only at hSw); go_simp; try with_reducible rfl)
    simp only [Act.put, zA, zB, zC]
    refine wpAnyH_done (by kernel_rfl) ?_ _
    go_wp2_with fail
    go_ret
    exact ⟨by simp, HB3.out⟩
   | false =>
    cases r4 with
    | true =>
     go_enter Try.func67, Try.ntmps67
     go_wp2_with fail
     clear hW1
     have hS : W1.drew.cell? ⟨w.heap.size, 0, none⟩ = some (.bool uf) ∧ W1.drew.cell? ⟨w.heap.size, 1, none⟩ = some (.int .i64 um) ∧ W1.drew.cell? ⟨w.heap.size, 2, none⟩ = some (.int .i64 ua) ∧ W1.drew.cell? ⟨w.heap.size, 3, none⟩ = some (.int .i64 ud) := ⟨c0, c1, c2, c3⟩
     refine wp_region_held (S := fun w' : World => w'.cell? ⟨w.heap.size, 0, none⟩ = some (.bool uf) ∧ w'.cell? ⟨w.heap.size, 1, none⟩ = some (.int .i64 um) ∧ w'.cell? ⟨w.heap.size, 2, none⟩ = some (.int .i64 ua) ∧ w'.cell? ⟨w.heap.size, 3, none⟩ = some (.int .i64 ud)) mixed ?_
     change wpAnyH _ _ _ _ _ _ _ _ W1.drew
     have HB0 := Lib.hid HB.out.drew
     clear c0 c1 c2 c3
     refine tk0 (v := ?_) (by kernel_rfl) (by kernel_rfl) (by kernel_rfl) (fun _ _ _ h => h) (Or.inl ⟨by rfl, ?_⟩) hS ?_
     rotate_left
     ·(intro w hSw; (try dsimp only at hSw); go_simp; try with_reducible rfl)
     simp only [Act.put, zA, zB, zC]
     refine wpAnyH_ready (rs := [1]) (by kernel_rfl) (by simp) (st1 (fun K hK => ?_) AllReadyH.nil)
     go_simp
     refine (K1.out _).mono ?_
     rintro _ V1 ⟨rfl, hb⟩
     have S1 := Lib.hid (show V1.cell? ⟨w.heap.size, 0, none⟩ = some (.bool uf) ∧ V1.cell? ⟨w.heap.size, 1, none⟩ = some (.int .i64 um) ∧ V1.cell? ⟨w.heap.size, 2, none⟩ = some (.int .i64 ua) ∧ V1.cell? ⟨w.heap.size, 3, none⟩ = some (.int .i64 ud) from ⟨(hb.cell (World.block_lt_of_cell? _ _ hS.1)).trans hS.1, (hb.cell (World.block_lt_of_cell? _ _ hS.2.1)).trans hS.2.1, (hb.cell (World.block_lt_of_cell? _ _ hS.2.2.1)).trans hS.2.2.1, (hb.cell (World.block_lt_of_cell? _ _ hS.2.2.2)).trans hS.2.2.2⟩)
     have HB1 := Lib.hid (HB0.out.trans (hb.mono HB0.out.size))
     clear hb hS
     go_wp2_with fail
     refine hK.out _ _ ?_ (fun hHeld => ?_)
     ·exact S1.out
     clear hK K
     try simp only [Act.put, zA, zB, zC]
     refine tk2 (v := .bool false) (by kernel_rfl) (by kernel_rfl) (by kernel_rfl) (fun _ _ _ h => h) (Or.inl ⟨by rfl, (by intro w hSw; (try dsimp only at hSw); go_simp; first | exact eq_cmpT H1.out w | (have hh := H1.out; clear H1 H2 H3 H4 H5; revert hh; cases uf <;> simp <;> intros <;> first | omega | (simp_all; done) | (trace_state; omega)))⟩) hHeld ?_
     simp only [Act.put, zA, zB, zC]
     refine tk3 (v := ?_) (by kernel_rfl) (by kernel_rfl) (by kernel_rfl) (fun _ _ _ h => h) (Or.inl ⟨by rfl, ?_⟩) hHeld ?_
     rotate_left
     ·(intro w hSw; (try dsimp only at hSw); go_simp; try with_reducible rfl)
     simp only [Act.put, zA, zB, zC]
     refine tk4 (v := ?_) (by kernel_rfl) (by kernel_rfl) (by kernel_rfl) (fun _ _ _ h => h) (Or.inl ⟨by rfl, ?_⟩) hHeld ?_
     rotate_left
     ·(intro w hSw; (try dsimp only at hSw); go_simp; try with_reducible rfl)
     simp only [Act.put, zA, zB, zC]
     refine wpAnyH_ready (rs := [5]) (by kernel_rfl) (by simp) (st5 (fun K hK => ?_) AllReadyH.nil)
     go_simp
     refine (K2.out _).mono ?_
     rintro _ V2 ⟨rfl, hb⟩
     have S2 := Lib.hid (show V2.cell? ⟨w.heap.size, 0, none⟩ = some (.bool uf) ∧ V2.cell? ⟨w.heap.size, 1, none⟩ = some (.int .i64 um) ∧ V2.cell? ⟨w.heap.size, 2, none⟩ = some (.int .i64 ua) ∧ V2.cell? ⟨w.heap.size, 3, none⟩ = some (.int .i64 ud) from ⟨(hb.cell (World.block_lt_of_cell? _ _ hHeld.1)).trans hHeld.1, (hb.cell (World.block_lt_of_cell? _ _ hHeld.2.1)).trans hHeld.2.1, (hb.cell (World.block_lt_of_cell? _ _ hHeld.2.2.1)).trans hHeld.2.2.1, (hb.cell (World.block_lt_of_cell? _ _ hHeld.2.2.2)).trans hHeld.2.2.2⟩)
     have HB2 := Lib.hid (HB1.out.trans (hb.mono HB1.out.size))
     clear hb hHeld
     go_wp2_with fail
     refine hK.out _ _ ?_ (fun hHeld => ?_)
     ·exact S2.out
     clear hK K
     try simp only [Act.put, zA, zB, zC]
     refine tk6 (v := .bool false) (by kernel_rfl) (by kernel_rfl) (by kernel_rfl) (fun _ _ _ h => h) (Or.inl ⟨by rfl, (by intro w hSw; (try dsimp only at hSw); go_simp; first | exact eq_cmp H2.out w | (have hh := H2.out; clear H1 H2 H3 H4 H5; revert hh; cases uf <;> simp <;> intros <;> first | omega | (simp_all; done) | (trace_state; omega)))⟩) hHeld ?_
     simp only [Act.put, zA, zB, zC]
     refine tk7 (v := ?_) (by kernel_rfl) (by kernel_rfl) (by kernel_rfl) (fun _ _ _ h => h) (Or.inl ⟨by rfl, ?_⟩) hHeld ?_
     rotate_left
     ·(intro w hSw; (try dsimp only at hSw); go_simp; try with_reducible rfl)
     simp only [Act.put, zA, zB, zC]
     refine tk8 (v := ?_) (by kernel_rfl) (by kernel_rfl) (by kernel_rfl) (fun _ _ _ h => h) (Or.inl ⟨by rfl, ?_⟩) hHeld ?_
     rotate_left
     ·(intro w hSw; (try dsimp only at hSw); go_simp; try with_reducible rfl)
     simp only [Act.put, zA, zB, zC]
     refine tk9 (v := ?_) (by kernel_rfl) (by kernel_rfl) (by kernel_rfl) (fun _ _ _ h => h) (Or.inl ⟨by rfl, ?_⟩) hHeld ?_
     rotate_left
     ·(intro w hSw; (try dsimp only at hSw); go_simp; try with_reducible rfl)
     simp only [Act.put, zA, zB, zC]
     refine wpAnyH_ready (rs := [10]) (by kernel_rfl) (by simp) (st10 (fun K hK => ?_) AllReadyH.nil)
     go_simp
     refine (K3.out _).mono ?_
     rintro _ V3 ⟨rfl, hb⟩
     have S3 := Lib.hid (show V3.cell? ⟨w.heap.size, 0, none⟩ = some (.bool uf) ∧ V3.cell? ⟨w.heap.size, 1, none⟩ = some (.int .i64 um) ∧ V3.cell? ⟨w.heap.size, 2, none⟩ = some (.int .i64 ua) ∧ V3.cell? ⟨w.heap.size, 3, none⟩ = some (.int .i64 ud) from ⟨(hb.cell (World.block_lt_of_cell? _ _ hHeld.1)).trans hHeld.1, (hb.cell (World.block_lt_of_cell? _ _ hHeld.2.1)).trans hHeld.2.1, (hb.cell (World.block_lt_of_cell? _ _ hHeld.2.2.1)).trans hHeld.2.2.1, (hb.cell (World.block_lt_of_cell? _ _ hHeld.2.2.2)).trans hHeld.2.2.2⟩)
     have HB3 := Lib.hid (HB2.out.trans (hb.mono HB2.out.size))
     clear hb hHeld
     go_wp2_with fail
     refine hK.out _ _ ?_ (fun hHeld => ?_)
     ·exact S3.out
     clear hK K
     try simp only [Act.put, zA, zB, zC]
     refine tk11 (v := .bool false) (by kernel_rfl) (by kernel_rfl) (by kernel_rfl) (fun _ _ _ h => h) (Or.inl ⟨by rfl, (by intro w hSw; (try dsimp only at hSw); go_simp; first | exact eq_cmp H3.out w | (have hh := H3.out; clear H1 H2 H3 H4 H5; revert hh; cases uf <;> simp <;> intros <;> first | omega | (simp_all; done) | (trace_state; omega)))⟩) hHeld ?_
     simp only [Act.put, zA, zB, zC]
     refine tk12 (v := ?_) (by kernel_rfl) (by kernel_rfl) (by kernel_rfl) (fun _ _ _ h => h) (Or.inl ⟨by rfl, ?_⟩) hHeld ?_
     rotate_left
     ·(intro w hSw; (try dsimp only at hSw); go_simp; try with_reducible rfl)
     simp only [Act.put, zA, zB, zC]
     refine tk13 (v := ?_) (by kernel_rfl) (by kernel_rfl) (by kernel_rfl) (fun _ _ _ h => h) (Or.inl ⟨by rfl, ?_⟩) hHeld ?_
     rotate_left
     ·(intro w hSw; (try dsimp only at hSw); go_simp; try with_reducible rfl)
     simp only [Act.put, zA, zB, zC]
     refine tk14 (v := ?_) (by kernel_rfl) (by kernel_rfl) (by kernel_rfl) (fun _ _ _ h => h) (Or.inl ⟨by rfl, ?_⟩) hHeld ?_
     rotate_left
     ·(intro w hSw; (try dsimp only at hSw); go_simp; try with_reducible rfl)
     simp only [Act.put, zA, zB, zC]
     refine wpAnyH_ready (rs := [15]) (by kernel_rfl) (by simp) (st15 (fun K hK => ?_) AllReadyH.nil)
     go_simp
     refine (K4.out _).mono ?_
     rintro _ V4 ⟨rfl, hb⟩
     have S4 := Lib.hid (show V4.cell? ⟨w.heap.size, 0, none⟩ = some (.bool uf) ∧ V4.cell? ⟨w.heap.size, 1, none⟩ = some (.int .i64 um) ∧ V4.cell? ⟨w.heap.size, 2, none⟩ = some (.int .i64 ua) ∧ V4.cell? ⟨w.heap.size, 3, none⟩ = some (.int .i64 ud) from ⟨(hb.cell (World.block_lt_of_cell? _ _ hHeld.1)).trans hHeld.1, (hb.cell (World.block_lt_of_cell? _ _ hHeld.2.1)).trans hHeld.2.1, (hb.cell (World.block_lt_of_cell? _ _ hHeld.2.2.1)).trans hHeld.2.2.1, (hb.cell (World.block_lt_of_cell? _ _ hHeld.2.2.2)).trans hHeld.2.2.2⟩)
     have HB4 := Lib.hid (HB3.out.trans (hb.mono HB3.out.size))
     clear hb hHeld
     go_wp2_with fail
     refine hK.out _ _ ?_ (fun hHeld => ?_)
     ·exact S4.out
     clear hK K
     try simp only [Act.put, zA, zB, zC]
     refine tk16 (v := .bool true) (by kernel_rfl) (by kernel_rfl) (by kernel_rfl) (fun _ _ _ h => h) (Or.inl ⟨by rfl, (by intro w hSw; (try dsimp only at hSw); go_simp; first | exact eq_cmp H4.out w | (have hh := H4.out; clear H1 H2 H3 H4 H5; revert hh; cases uf <;> simp <;> intros <;> first | omega | (simp_all; done) | (trace_state; omega)))⟩) hHeld ?_
     simp only [Act.put, zA, zB, zC]
     refine tk17 (v := ?_) (by kernel_rfl) (by kernel_rfl) (by kernel_rfl) (fun _ _ _ h => h) (Or.inl ⟨by rfl, ?_⟩) hHeld ?_
     rotate_left
     ·(intro w hSw; (try dsimp only at hSw); go_simp; try with_reducible rfl)
     simp only [Act.put, zA, zB, zC]
     refine tk18 (v := ?_) (by kernel_rfl) (by kernel_rfl) (by kernel_rfl) (fun _ _ _ h => h) (Or.inl ⟨by rfl, ?_⟩) hHeld ?_
     rotate_left
     ·(intro w hSw; (try dsimp only at hSw); go_simp; try with_reducible rfl)
     simp only [Act.put, zA, zB, zC]
     refine tk19 (v := undef) (by kernel_rfl) (by kernel_rfl) (by kernel_rfl) (fun _ _ _ h => h) (Or.inr ⟨by rfl, rfl⟩) hHeld ?_
     simp only [Act.put, zA, zB, zC]
     refine tk20 (v := undef) (by kernel_rfl) (by kernel_rfl) (by kernel_rfl) (fun _ _ _ h => h) (Or.inr ⟨by rfl, rfl⟩) hHeld ?_
     simp only [Act.put, zA, zB, zC]
     refine tk21 (v := undef) (by kernel_rfl) (by kernel_rfl) (by kernel_rfl) (fun _ _ _ h => h) (Or.inr ⟨by rfl, rfl⟩) hHeld ?_
     simp only [Act.put, zA, zB, zC]
     refine tk22 (v := ?_) (by kernel_rfl) (by kernel_rfl) (by kernel_rfl) (fun _ _ _ h => h) (Or.inl ⟨by rfl, ?_⟩) hHeld ?_
     rotate_left
     ·(intro w hSw; (try dsimp only at hSw); go_simp; try with_reducible rfl)
     simp only [Act.put, zA, zB, zC]
     refine tk23 (v := ?_) (by kernel_rfl) (by kernel_rfl) (by kernel_rfl) (fun _ _ _ h => h) (Or.inl ⟨by rfl, ?_⟩) hHeld ?_
     rotate_left
     ·(intro w hSw; (try dsimp only at hSw); go_simp; try with_reducible rfl)
     simp only [Act.put, zA, zB, zC]
     refine wpAnyH_done (by kernel_rfl) ?_ _
     go_wp2_with fail
     go_ret
     exact ⟨by simp, HB4.out⟩
    | false =>
     cases r5 with
     | true =>
      go_enter Try.func67, Try.ntmps67
      go_wp2_with fail
      clear hW1
      have hS : W1.drew.cell? ⟨w.heap.size, 0, none⟩ = some (.bool uf) ∧ W1.drew.cell? ⟨w.heap.size, 1, none⟩ = some (.int .i64 um) ∧ W1.drew.cell? ⟨w.heap.size, 2, none⟩ = some (.int .i64 ua) ∧ W1.drew.cell? ⟨w.heap.size, 3, none⟩ = some (.int .i64 ud) := ⟨c0, c1, c2, c3⟩
      refine wp_region_held (S := fun w' : World => w'.cell? ⟨w.heap.size, 0, none⟩ = some (.bool uf) ∧ w'.cell? ⟨w.heap.size, 1, none⟩ = some (.int .i64 um) ∧ w'.cell? ⟨w.heap.size, 2, none⟩ = some (.int .i64 ua) ∧ w'.cell? ⟨w.heap.size, 3, none⟩ = some (.int .i64 ud)) mixed ?_
      change wpAnyH _ _ _ _ _ _ _ _ W1.drew
      have HB0 := Lib.hid HB.out.drew
      clear c0 c1 c2 c3
      refine tk0 (v := ?_) (by kernel_rfl) (by kernel_rfl) (by kernel_rfl) (fun _ _ _ h => h) (Or.inl ⟨by rfl, ?_⟩) hS ?_
      rotate_left
      ·(intro w hSw; (try dsimp only at hSw); go_simp; try with_reducible rfl)
      simp only [Act.put, zA, zB, zC]
      refine wpAnyH_ready (rs := [1]) (by kernel_rfl) (by simp) (st1 (fun K hK => ?_) AllReadyH.nil)
      go_simp
      refine (K1.out _).mono ?_
      rintro _ V1 ⟨rfl, hb⟩
      have S1 := Lib.hid (show V1.cell? ⟨w.heap.size, 0, none⟩ = some (.bool uf) ∧ V1.cell? ⟨w.heap.size, 1, none⟩ = some (.int .i64 um) ∧ V1.cell? ⟨w.heap.size, 2, none⟩ = some (.int .i64 ua) ∧ V1.cell? ⟨w.heap.size, 3, none⟩ = some (.int .i64 ud) from ⟨(hb.cell (World.block_lt_of_cell? _ _ hS.1)).trans hS.1, (hb.cell (World.block_lt_of_cell? _ _ hS.2.1)).trans hS.2.1, (hb.cell (World.block_lt_of_cell? _ _ hS.2.2.1)).trans hS.2.2.1, (hb.cell (World.block_lt_of_cell? _ _ hS.2.2.2)).trans hS.2.2.2⟩)
      have HB1 := Lib.hid (HB0.out.trans (hb.mono HB0.out.size))
      clear hb hS
      go_wp2_with fail
      refine hK.out _ _ ?_ (fun hHeld => ?_)
      ·exact S1.out
      clear hK K
      try simp only [Act.put, zA, zB, zC]
      refine tk2 (v := .bool false) (by kernel_rfl) (by kernel_rfl) (by kernel_rfl) (fun _ _ _ h => h) (Or.inl ⟨by rfl, (by intro w hSw; (try dsimp only at hSw); go_simp; first | exact eq_cmpT H1.out w | (have hh := H1.out; clear H1 H2 H3 H4 H5; revert hh; cases uf <;> simp <;> intros <;> first | omega | (simp_all; done) | (trace_state; omega)))⟩) hHeld ?_
      simp only [Act.put, zA, zB, zC]
      refine tk3 (v := ?_) (by kernel_rfl) (by kernel_rfl) (by kernel_rfl) (fun _ _ _ h => h) (Or.inl ⟨by rfl, ?_⟩) hHeld ?_
      rotate_left
      ·(intro w hSw; (try dsimp only at hSw); go_simp; try with_reducible rfl)
      simp only [Act.put, zA, zB, zC]
      refine tk4 (v := ?_) (by kernel_rfl) (by kernel_rfl) (by kernel_rfl) (fun _ _ _ h => h) (Or.inl ⟨by rfl, ?_⟩) hHeld ?_
      rotate_left
      ·(intro w hSw; (try dsimp only at hSw); go_simp; try with_reducible rfl)
      simp only [Act.put, zA, zB, zC]
      refine wpAnyH_ready (rs := [5]) (by kernel_rfl) (by simp) (st5 (fun K hK => ?_) AllReadyH.nil)
      go_simp
      refine (K2.out _).mono ?_
      rintro _ V2 ⟨rfl, hb⟩
      have S2 := Lib.hid (show V2.cell? ⟨w.heap.size, 0, none⟩ = some (.bool uf) ∧ V2.cell? ⟨w.heap.size, 1, none⟩ = some (.int .i64 um) ∧ V2.cell? ⟨w.heap.size, 2, none⟩ = some (.int .i64 ua) ∧ V2.cell? ⟨w.heap.size, 3, none⟩ = some (.int .i64 ud) from ⟨(hb.cell (World.block_lt_of_cell? _ _ hHeld.1)).trans hHeld.1, (hb.cell (World.block_lt_of_cell? _ _ hHeld.2.1)).trans hHeld.2.1, (hb.cell (World.block_lt_of_cell? _ _ hHeld.2.2.1)).trans hHeld.2.2.1, (hb.cell (World.block_lt_of_cell? _ _ hHeld.2.2.2)).trans hHeld.2.2.2⟩)
      have HB2 := Lib.hid (HB1.out.trans (hb.mono HB1.out.size))
      clear hb hHeld
      go_wp2_with fail
      refine hK.out _ _ ?_ (fun hHeld => ?_)
      ·exact S2.out
      clear hK K
      try simp only [Act.put, zA, zB, zC]
      refine tk6 (v := .bool false) (by kernel_rfl) (by kernel_rfl) (by kernel_rfl) (fun _ _ _ h => h) (Or.inl ⟨by rfl, (by intro w hSw; (try dsimp only at hSw); go_simp; first | exact eq_cmp H2.out w | (have hh := H2.out; clear H1 H2 H3 H4 H5; revert hh; cases uf <;> simp <;> intros <;> first | omega | (simp_all; done) | (trace_state; omega)))⟩) hHeld ?_
      simp only [Act.put, zA, zB, zC]
      refine tk7 (v := ?_) (by kernel_rfl) (by kernel_rfl) (by kernel_rfl) (fun _ _ _ h => h) (Or.inl ⟨by rfl, ?_⟩) hHeld ?_
      rotate_left
      ·(intro w hSw; (try dsimp only at hSw); go_simp; try with_reducible rfl)
      simp only [Act.put, zA, zB, zC]
      refine tk8 (v := ?_) (by kernel_rfl) (by kernel_rfl) (by kernel_rfl) (fun _ _ _ h => h) (Or.inl ⟨by rfl, ?_⟩) hHeld ?_
      rotate_left
      ·(intro w hSw; (try dsimp only at hSw); go_simp; try with_reducible rfl)
      simp only [Act.put, zA, zB, zC]
      refine tk9 (v := ?_) (by kernel_rfl) (by kernel_rfl) (by kernel_rfl) (fun _ _ _ h => h) (Or.inl ⟨by rfl, ?_⟩) hHeld ?_
      rotate_left
      ·(intro w hSw; (try dsimp only at hSw); go_simp; try with_reducible rfl)
      simp only [Act.put, zA, zB, zC]
      refine wpAnyH_ready (rs := [10]) (by kernel_rfl) (by simp) (st10 (fun K hK => ?_) AllReadyH.nil)
      go_simp
      refine (K3.out _).mono ?_
      rintro _ V3 ⟨rfl, hb⟩
      have S3 := Lib.hid (show V3.cell? ⟨w.heap.size, 0, none⟩ = some (.bool uf) ∧ V3.cell? ⟨w.heap.size, 1, none⟩ = some (.int .i64 um) ∧ V3.cell? ⟨w.heap.size, 2, none⟩ = some (.int .i64 ua) ∧ V3.cell? ⟨w.heap.size, 3, none⟩ = some (.int .i64 ud) from ⟨(hb.cell (World.block_lt_of_cell? _ _ hHeld.1)).trans hHeld.1, (hb.cell (World.block_lt_of_cell? _ _ hHeld.2.1)).trans hHeld.2.1, (hb.cell (World.block_lt_of_cell? _ _ hHeld.2.2.1)).trans hHeld.2.2.1, (hb.cell (World.block_lt_of_cell? _ _ hHeld.2.2.2)).trans hHeld.2.2.2⟩)
      have HB3 := Lib.hid (HB2.out.trans (hb.mono HB2.out.size))
      clear hb hHeld
      go_wp2_with fail
      refine hK.out _ _ ?_ (fun hHeld => ?_)
      ·exact S3.out
      clear hK K
      try simp only [Act.put, zA, zB, zC]
      refine tk11 (v := .bool false) (by kernel_rfl) (by kernel_rfl) (by kernel_rfl) (fun _ _ _ h => h) (Or.inl ⟨by rfl, (by intro w hSw; (try dsimp only at hSw); go_simp; first | exact eq_cmp H3.out w | (have hh := H3.out; clear H1 H2 H3 H4 H5; revert hh; cases uf <;> simp <;> intros <;> first | omega | (simp_all; done) | (trace_state; omega)))⟩) hHeld ?_
      simp only [Act.put, zA, zB, zC]
      refine tk12 (v := ?_) (by kernel_rfl) (by kernel_rfl) (by kernel_rfl) (fun _ _ _ h => h) (Or.inl ⟨by rfl, ?_⟩) hHeld ?_
      rotate_left
      ·(intro w hSw; (try dsimp only at hSw); go_simp; try with_reducible rfl)
      simp only [Act.put, zA, zB, zC]
      refine tk13 (v := ?_) (by kernel_rfl) (by kernel_rfl) (by kernel_rfl) (fun _ _ _ h => h) (Or.inl ⟨by rfl, ?_⟩) hHeld ?_
      rotate_left
      ·(intro w hSw; (try dsimp only at hSw); go_simp; try with_reducible rfl)
      simp only [Act.put, zA, zB, zC]
      refine tk14 (v := ?_) (by kernel_rfl) (by kernel_rfl) (by kernel_rfl) (fun _ _ _ h => h) (Or.inl ⟨by rfl, ?_⟩) hHeld ?_
      rotate_left
      ·(intro w hSw; (try dsimp only at hSw); go_simp; try with_reducible rfl)
      simp only [Act.put, zA, zB, zC]
      refine wpAnyH_ready (rs := [15]) (by kernel_rfl) (by simp) (st15 (fun K hK => ?_) AllReadyH.nil)
      go_simp
      refine (K4.out _).mono ?_
      rintro _ V4 ⟨rfl, hb⟩
      have S4 := Lib.hid (show V4.cell? ⟨w.heap.size, 0, none⟩ = some (.bool uf) ∧ V4.cell? ⟨w.heap.size, 1, none⟩ = some (.int .i64 um) ∧ V4.cell? ⟨w.heap.size, 2, none⟩ = some (.int .i64 ua) ∧ V4.cell? ⟨w.heap.size, 3, none⟩ = some (.int .i64 ud) from ⟨(hb.cell (World.block_lt_of_cell? _ _ hHeld.1)).trans hHeld.1, (hb.cell (World.block_lt_of_cell? _ _ hHeld.2.1)).trans hHeld.2.1, (hb.cell (World.block_lt_of_cell? _ _ hHeld.2.2.1)).trans hHeld.2.2.1, (hb.cell (World.block_lt_of_cell? _ _ hHeld.2.2.2)).trans hHeld.2.2.2⟩)
      have HB4 := Lib.hid (HB3.out.trans (hb.mono HB3.out.size))
      clear hb hHeld
      go_wp2_with fail
      refine hK.out _ _ ?_ (fun hHeld => ?_)
      ·exact S4.out
      clear hK K
      try simp only [Act.put, zA, zB, zC]
      refine tk16 (v := .bool false) (by kernel_rfl) (by kernel_rfl) (by kernel_rfl) (fun _ _ _ h => h) (Or.inl ⟨by rfl, (by intro w hSw; (try dsimp only at hSw); go_simp; first | exact eq_cmp H4.out w | (have hh := H4.out; clear H1 H2 H3 H4 H5; revert hh; cases uf <;> simp <;> intros <;> first | omega | (simp_all; done) | (trace_state; omega)))⟩) hHeld ?_
      simp only [Act.put, zA, zB, zC]
      refine tk17 (v := ?_) (by kernel_rfl) (by kernel_rfl) (by kernel_rfl) (fun _ _ _ h => h) (Or.inl ⟨by rfl, ?_⟩) hHeld ?_
      rotate_left
      ·(intro w hSw; (try dsimp only at hSw); go_simp; try with_reducible rfl)
      simp only [Act.put, zA, zB, zC]
      refine tk18 (v := ?_) (by kernel_rfl) (by kernel_rfl) (by kernel_rfl) (fun _ _ _ h => h) (Or.inl ⟨by rfl, ?_⟩) hHeld ?_
      rotate_left
      ·(intro w hSw; (try dsimp only at hSw); go_simp; try with_reducible rfl)
      simp only [Act.put, zA, zB, zC]
      refine tk19 (v := ?_) (by kernel_rfl) (by kernel_rfl) (by kernel_rfl) (fun _ _ _ h => h) (Or.inl ⟨by rfl, ?_⟩) hHeld ?_
      rotate_left
      ·(intro w hSw; (try dsimp only at hSw); go_simp; try with_reducible rfl)
      simp only [Act.put, zA, zB, zC]
      refine tk20 (v := ?_) (by kernel_rfl) (by kernel_rfl) (by kernel_rfl) (fun _ _ _ h => h) (Or.inl ⟨by rfl, ?_⟩) hHeld ?_
      rotate_left
      ·(intro w hSw; (try dsimp only at hSw); go_simp; try with_reducible rfl)
      simp only [Act.put, zA, zB, zC]
      refine tk21 (v := .bool true) (by kernel_rfl) (by kernel_rfl) (by kernel_rfl) (fun _ _ _ h => h) (Or.inl ⟨by rfl, (by intro w hSw; (try dsimp only at hSw); go_simp; first | exact eq_cmp H5.out w | (have hh := H5.out; clear H1 H2 H3 H4 H5; revert hh; cases uf <;> simp <;> intros <;> first | omega | (simp_all; done) | (trace_state; omega)))⟩) hHeld ?_
      simp only [Act.put, zA, zB, zC]
      refine tk22 (v := ?_) (by kernel_rfl) (by kernel_rfl) (by kernel_rfl) (fun _ _ _ h => h) (Or.inl ⟨by rfl, ?_⟩) hHeld ?_
      rotate_left
      ·(intro w hSw; (try dsimp only at hSw); go_simp; try with_reducible rfl)
      simp only [Act.put, zA, zB, zC]
      refine tk23 (v := ?_) (by kernel_rfl) (by kernel_rfl) (by kernel_rfl) (fun _ _ _ h => h) (Or.inl ⟨by rfl, ?_⟩) hHeld ?_
      rotate_left
      ·(intro w hSw; (try dsimp only at hSw); go_simp; try with_reducible rfl)
      simp only [Act.put, zA, zB, zC]
      refine wpAnyH_done (by kernel_rfl) ?_ _
      go_wp2_with fail
      go_ret
      exact ⟨by simp, HB4.out⟩
     | false =>
      go_enter Try.func67, Try.ntmps67
      go_wp2_with fail
      clear hW1
      have hS : W1.drew.cell? ⟨w.heap.size, 0, none⟩ = some (.bool uf) ∧ W1.drew.cell? ⟨w.heap.size, 1, none⟩ = some (.int .i64 um) ∧ W1.drew.cell? ⟨w.heap.size, 2, none⟩ = some (.int .i64 ua) ∧ W1.drew.cell? ⟨w.heap.size, 3, none⟩ = some (.int .i64 ud) := ⟨c0, c1, c2, c3⟩
      refine wp_region_held (S := fun w' : World => w'.cell? ⟨w.heap.size, 0, none⟩ = some (.bool uf) ∧ w'.cell? ⟨w.heap.size, 1, none⟩ = some (.int .i64 um) ∧ w'.cell? ⟨w.heap.size, 2, none⟩ = some (.int .i64 ua) ∧ w'.cell? ⟨w.heap.size, 3, none⟩ = some (.int .i64 ud)) mixed ?_
      change wpAnyH _ _ _ _ _ _ _ _ W1.drew
      have HB0 := Lib.hid HB.out.drew
      clear c0 c1 c2 c3
      refine tk0 (v := ?_) (by kernel_rfl) (by kernel_rfl) (by kernel_rfl) (fun _ _ _ h => h) (Or.inl ⟨by rfl, ?_⟩) hS ?_
      rotate_left
      ·(intro w hSw; (try dsimp only at hSw); go_simp; try with_reducible rfl)
      simp only [Act.put, zA, zB, zC]
      refine wpAnyH_ready (rs := [1]) (by kernel_rfl) (by simp) (st1 (fun K hK => ?_) AllReadyH.nil)
      go_simp
      refine (K1.out _).mono ?_
      rintro _ V1 ⟨rfl, hb⟩
      have S1 := Lib.hid (show V1.cell? ⟨w.heap.size, 0, none⟩ = some (.bool uf) ∧ V1.cell? ⟨w.heap.size, 1, none⟩ = some (.int .i64 um) ∧ V1.cell? ⟨w.heap.size, 2, none⟩ = some (.int .i64 ua) ∧ V1.cell? ⟨w.heap.size, 3, none⟩ = some (.int .i64 ud) from ⟨(hb.cell (World.block_lt_of_cell? _ _ hS.1)).trans hS.1, (hb.cell (World.block_lt_of_cell? _ _ hS.2.1)).trans hS.2.1, (hb.cell (World.block_lt_of_cell? _ _ hS.2.2.1)).trans hS.2.2.1, (hb.cell (World.block_lt_of_cell? _ _ hS.2.2.2)).trans hS.2.2.2⟩)
      have HB1 := Lib.hid (HB0.out.trans (hb.mono HB0.out.size))
      clear hb hS
      go_wp2_with fail
      refine hK.out _ _ ?_ (fun hHeld => ?_)
      ·exact S1.out
      clear hK K
      try simp only [Act.put, zA, zB, zC]
      refine tk2 (v := .bool false) (by kernel_rfl) (by kernel_rfl) (by kernel_rfl) (fun _ _ _ h => h) (Or.inl ⟨by rfl, (by intro w hSw; (try dsimp only at hSw); go_simp; first | exact eq_cmpT H1.out w | (have hh := H1.out; clear H1 H2 H3 H4 H5; revert hh; cases uf <;> simp <;> intros <;> first | omega | (simp_all; done) | (trace_state; omega)))⟩) hHeld ?_
      simp only [Act.put, zA, zB, zC]
      refine tk3 (v := ?_) (by kernel_rfl) (by kernel_rfl) (by kernel_rfl) (fun _ _ _ h => h) (Or.inl ⟨by rfl, ?_⟩) hHeld ?_
      rotate_left
      ·(intro w hSw; (try dsimp only at hSw); go_simp; try with_reducible rfl)
      simp only [Act.put, zA, zB, zC]
      refine tk4 (v := ?_) (by kernel_rfl) (by kernel_rfl) (by kernel_rfl) (fun _ _ _ h => h) (Or.inl ⟨by rfl, ?_⟩) hHeld ?_
      rotate_left
      ·(intro w hSw; (try dsimp only at hSw); go_simp; try with_reducible rfl)
      simp only [Act.put, zA, zB, zC]
      refine wpAnyH_ready (rs := [5]) (by kernel_rfl) (by simp) (st5 (fun K hK => ?_) AllReadyH.nil)
      go_simp
      refine (K2.out _).mono ?_
      rintro _ V2 ⟨rfl, hb⟩
      have S2 := Lib.hid (show V2.cell? ⟨w.heap.size, 0, none⟩ = some (.bool uf) ∧ V2.cell? ⟨w.heap.size, 1, none⟩ = some (.int .i64 um) ∧ V2.cell? ⟨w.heap.size, 2, none⟩ = some (.int .i64 ua) ∧ V2.cell? ⟨w.heap.size, 3, none⟩ = some (.int .i64 ud) from ⟨(hb.cell (World.block_lt_of_cell? _ _ hHeld.1)).trans hHeld.1, (hb.cell (World.block_lt_of_cell? _ _ hHeld.2.1)).trans hHeld.2.1, (hb.cell (World.block_lt_of_cell? _ _ hHeld.2.2.1)).trans hHeld.2.2.1, (hb.cell (World.block_lt_of_cell? _ _ hHeld.2.2.2)).trans hHeld.2.2.2⟩)
      have HB2 := Lib.hid (HB1.out.trans (hb.mono HB1.out.size))
      clear hb hHeld
      go_wp2_with fail
      refine hK.out _ _ ?_ (fun hHeld => ?_)
      ·exact S2.out
      clear hK K
      try simp only [Act.put, zA, zB, zC]
      refine tk6 (v := .bool false) (by kernel_rfl) (by kernel_rfl) (by kernel_rfl) (fun _ _ _ h => h) (Or.inl ⟨by rfl, (by intro w hSw; (try dsimp only at hSw); go_simp; first | exact eq_cmp H2.out w | (have hh := H2.out; clear H1 H2 H3 H4 H5; revert hh; cases uf <;> simp <;> intros <;> first | omega | (simp_all; done) | (trace_state; omega)))⟩) hHeld ?_
      simp only [Act.put, zA, zB, zC]
      refine tk7 (v := ?_) (by kernel_rfl) (by kernel_rfl) (by kernel_rfl) (fun _ _ _ h => h) (Or.inl ⟨by rfl, ?_⟩) hHeld ?_
      rotate_left
      ·(intro w hSw; (try dsimp only at hSw); go_simp; try with_reducible rfl)
      simp only [Act.put, zA, zB, zC]
      refine tk8 (v := ?_) (by kernel_rfl) (by kernel_rfl) (by kernel_rfl) (fun _ _ _ h => h) (Or.inl ⟨by rfl, ?_⟩) hHeld ?_
      rotate_left
      ·(intro w hSw; (try dsimp only at hSw); go_simp; try with_reducible rfl)
      simp only [Act.put, zA, zB, zC]
      refine tk9 (v := ?_) (by kernel_rfl) (by kernel_rfl) (by kernel_rfl) (fun _ _ _ h => h) (Or.inl ⟨by rfl, ?_⟩) hHeld ?_
      rotate_left
      ·(intro w hSw; (try dsimp only at hSw); go_simp; try with_reducible rfl)
      simp only [Act.put, zA, zB, zC]
      refine wpAnyH_ready (rs := [10]) (by kernel_rfl) (by simp) (st10 (fun K hK => ?_) AllReadyH.nil)
      go_simp
      refine (K3.out _).mono ?_
      rintro _ V3 ⟨rfl, hb⟩
      have S3 := Lib.hid (show V3.cell? ⟨w.heap.size, 0, none⟩ = some (.bool uf) ∧ V3.cell? ⟨w.heap.size, 1, none⟩ = some (.int .i64 um) ∧ V3.cell? ⟨w.heap.size, 2, none⟩ = some (.int .i64 ua) ∧ V3.cell? ⟨w.heap.size, 3, none⟩ = some (.int .i64 ud) from ⟨(hb.cell (World.block_lt_of_cell? _ _ hHeld.1)).trans hHeld.1, (hb.cell (World.block_lt_of_cell? _ _ hHeld.2.1)).trans hHeld.2.1, (hb.cell (World.block_lt_of_cell? _ _ hHeld.2.2.1)).trans hHeld.2.2.1, (hb.cell (World.block_lt_of_cell? _ _ hHeld.2.2.2)).trans hHeld.2.2.2⟩)
      have HB3 := Lib.hid (HB2.out.trans (hb.mono HB2.out.size))
      clear hb hHeld
      go_wp2_with fail
      refine hK.out _ _ ?_ (fun hHeld => ?_)
      ·exact S3.out
      clear hK K
      try simp only [Act.put, zA, zB, zC]
      refine tk11 (v := .bool false) (by kernel_rfl) (by kernel_rfl) (by kernel_rfl) (fun _ _ _ h => h) (Or.inl ⟨by rfl, (by intro w hSw; (try dsimp only at hSw); go_simp; first | exact eq_cmp H3.out w | (have hh := H3.out; clear H1 H2 H3 H4 H5; revert hh; cases uf <;> simp <;> intros <;> first | omega | (simp_all; done) | (trace_state; omega)))⟩) hHeld ?_
      simp only [Act.put, zA, zB, zC]
      refine tk12 (v := ?_) (by kernel_rfl) (by kernel_rfl) (by kernel_rfl) (fun _ _ _ h => h) (Or.inl ⟨by rfl, ?_⟩) hHeld ?_
      rotate_left
      ·(intro w hSw; (try dsimp only at hSw); go_simp; try with_reducible rfl)
      simp only [Act.put, zA, zB, zC]
      refine tk13 (v := ?_) (by kernel_rfl) (by kernel_rfl) (by kernel_rfl) (fun _ _ _ h => h) (Or.inl ⟨by rfl, ?_⟩) hHeld ?_
      rotate_left
      ·(intro w hSw; (try dsimp only at hSw); go_simp; try with_reducible rfl)
      simp only [Act.put, zA, zB, zC]
      refine tk14 (v := ?_) (by kernel_rfl) (by kernel_rfl) (by kernel_rfl) (fun _ _ _ h => h) (Or.inl ⟨by rfl, ?_⟩) hHeld ?_
      rotate_left
      ·(intro w hSw; (try dsimp only at hSw); go_simp; try with_reducible rfl)
      simp only [Act.put, zA, zB, zC]
      refine wpAnyH_ready (rs := [15]) (by kernel_rfl) (by simp) (st15 (fun K hK => ?_) AllReadyH.nil)
      go_simp
      refine (K4.out _).mono ?_
      rintro _ V4 ⟨rfl, hb⟩
      have S4 := Lib.hid (show V4.cell? ⟨w.heap.size, 0, none⟩ = some (.bool uf) ∧ V4.cell? ⟨w.heap.size, 1, none⟩ = some (.int .i64 um) ∧ V4.cell? ⟨w.heap.size, 2, none⟩ = some (.int .i64 ua) ∧ V4.cell? ⟨w.heap.size, 3, none⟩ = some (.int .i64 ud) from ⟨(hb.cell (World.block_lt_of_cell? _ _ hHeld.1)).trans hHeld.1, (hb.cell (World.block_lt_of_cell? _ _ hHeld.2.1)).trans hHeld.2.1, (hb.cell (World.block_lt_of_cell? _ _ hHeld.2.2.1)).trans hHeld.2.2.1, (hb.cell (World.block_lt_of_cell? _ _ hHeld.2.2.2)).trans hHeld.2.2.2⟩)
      have HB4 := Lib.hid (HB3.out.trans (hb.mono HB3.out.size))
      clear hb hHeld
      go_wp2_with fail
      refine hK.out _ _ ?_ (fun hHeld => ?_)
      ·exact S4.out
      clear hK K
      try simp only [Act.put, zA, zB, zC]
      refine tk16 (v := .bool false) (by kernel_rfl) (by kernel_rfl) (by kernel_rfl) (fun _ _ _ h => h) (Or.inl ⟨by rfl, (by intro w hSw; (try dsimp only at hSw); go_simp; first | exact eq_cmp H4.out w | (have hh := H4.out; clear H1 H2 H3 H4 H5; revert hh; cases uf <;> simp <;> intros <;> first | omega | (simp_all; done) | (trace_state; omega)))⟩) hHeld ?_
      simp only [Act.put, zA, zB, zC]
      refine tk17 (v := ?_) (by kernel_rfl) (by kernel_rfl) (by kernel_rfl) (fun _ _ _ h => h) (Or.inl ⟨by rfl, ?_⟩) hHeld ?_
      rotate_left
      ·(intro w hSw; (try dsimp only at hSw); go_simp; try with_reducible rfl)
      simp only [Act.put, zA, zB, zC]
      refine tk18 (v := ?_) (by kernel_rfl) (by kernel_rfl) (by kernel_rfl) (fun _ _ _ h => h) (Or.inl ⟨by rfl, ?_⟩) hHeld ?_
      rotate_left
      ·(intro w hSw; (try dsimp only at hSw); go_simp; try with_reducible rfl)
      simp only [Act.put, zA, zB, zC]
      refine tk19 (v := ?_) (by kernel_rfl) (by kernel_rfl) (by kernel_rfl) (fun _ _ _ h => h) (Or.inl ⟨by rfl, ?_⟩) hHeld ?_
      rotate_left
      ·(intro w hSw; (try dsimp only at hSw); go_simp; try with_reducible rfl)
      simp only [Act.put, zA, zB, zC]
      refine tk20 (v := ?_) (by kernel_rfl) (by kernel_rfl) (by kernel_rfl) (fun _ _ _ h => h) (Or.inl ⟨by rfl, ?_⟩) hHeld ?_
      rotate_left
      ·(intro w hSw; (try dsimp only at hSw); go_simp; try with_reducible rfl)
      simp only [Act.put, zA, zB, zC]
      refine tk21 (v := .bool false) (by kernel_rfl) (by kernel_rfl) (by kernel_rfl) (fun _ _ _ h => h) (Or.inl ⟨by rfl, (by intro w hSw; (try dsimp only at hSw); go_simp; first | exact eq_cmp H5.out w | (have hh := H5.out; clear H1 H2 H3 H4 H5; revert hh; cases uf <;> simp <;> intros <;> first | omega | (simp_all; done) | (trace_state; omega)))⟩) hHeld ?_
      simp only [Act.put, zA, zB, zC]
      refine tk22 (v := ?_) (by kernel_rfl) (by kernel_rfl) (by kernel_rfl) (fun _ _ _ h => h) (Or.inl ⟨by rfl, ?_⟩) hHeld ?_
      rotate_left
      ·(intro w hSw; (try dsimp only at hSw); go_simp; try with_reducible rfl)
      simp only [Act.put, zA, zB, zC]
      refine tk23 (v := ?_) (by kernel_rfl) (by kernel_rfl) (by kernel_rfl) (fun _ _ _ h => h) (Or.inl ⟨by rfl, ?_⟩) hHeld ?_
      rotate_left
      ·(intro w hSw; (try dsimp only at hSw); go_simp; try with_reducible rfl)
      simp only [Act.put, zA, zB, zC]
      refine wpAnyH_done (by kernel_rfl) ?_ _
      go_wp2_with fail
      go_ret
      exact ⟨by simp, HB4.out⟩
end Go.Proofs.Ytoaonficdkgfiaa
