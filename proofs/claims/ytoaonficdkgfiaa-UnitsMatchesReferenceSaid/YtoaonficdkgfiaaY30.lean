/- Texts on units: ROpr -/
import Derived.Test.YtoaonficdkgfiaaY26
import Derived.Test.YtoaonficdkgfiaaY23
namespace Go.Proofs.Ytoaonficdkgfiaa
open Go.RowKit Un MapKept

/-- A unit that comes with a word on whether it is right. -/
def OpR (q : Option U) (e : Ending) : Prop := ∃ u b, e = .returned (.tuple #[uV u, .bool b]) ∧ b = q.isSome ∧ ∀ v, q = some v → u = v
theorem OpR.mk {q : Option U} {u : U} {b : Bool} (h : q = if b = true then some u else none) : OpR q (.returned (.tuple #[uV u, .bool b])) := ⟨u, b, rfl, by rw [h]; cases b <;> rfl, fun v hv => by rw [h] at hv; cases b <;> simp_all⟩
section
variable {w : World} {p : Option Addr} {b off c : Nat}
set_option maxRecDepth 100000 in
set_option maxHeartbeats 8000000 in
theorem rop_not (op : Int) (u0 : U) (hop : op = 15) (hS : SlR w p b off 1 4 ([u0].map uC)) :
  Calls Try.prog 57 #[.int .i64 op, .slice p 1 c] w fun e w' => OpR (opU op [u0]) e ∧ RowKit.Below w.heap.size w w' := by
 have hq := hS.ptr (by decide)
 subst hq
 have hlt := hS.lt (by decide)
 have ba := (Below.refl w.heap.size w).alloc (Nat.le_refl _) (.cells ([.bool false, .int .i64 0, .int .i64 0, .int .i64 0] : List Value).toArray 29)
 have X4 := Lib.hid (BoxL.new w [.bool false, .int .i64 0, .int .i64 0, .int .i64 0] 29)
 have BB := Lib.hid ba
 have A0 : Hid (∀ V, RowKit.Below w.heap.size w V → ∀ (j : Nat) (v : Value), (uC u0)[j]? = some v → V.cell? ⟨b, off + j, none⟩ = some v) := fun V hV j v hv => by have := ((hS.bel hV).at_ 0 _ rfl).2 j v hv; rwa [show off + 0 * 4 + j = off + j by omega] at this
 clear hS ba
 subst hop
 go_enter Try.func57, Try.ntmps57
 go_wp2_with fail
 generalize w.alloc (.cells #[.bool false, .int .i64 0, .int .i64 0, .int .i64 0] 29) = V0 at *
 have hb := (Below.refl V0.heap.size V0).drew
 replace BB := Lib.hid (BB.out.trans (hb.mono BB.out.size))
 replace X4 := Lib.hid (X4.out.bel (by simp) hb)
 have hS : Hid (∀ (j : Nat) (v : Value), (uC u0)[j]? = some v → V0.drew.cell? ⟨b, off + j, none⟩ = some v) := A0.out _ BB.out
 refine wp_region_held (S := fun w' : World => Hid (∀ (j : Nat) (v : Value), (uC u0)[j]? = some v → w'.cell? ⟨b, off + j, none⟩ = some v)) mixed ?_
 change wpAnyH _ _ _ _ _ _ _ _ V0.drew
 clear hb
 generalize V0.drew = D2 at *
 refine tk1 (v := ?_) (by kernel_rfl) (by kernel_rfl) (by kernel_rfl) (fun _ _ _ h => h) (Or.inl ⟨by first | rfl | (simp [Region.wanted, yielded]; done), ?_⟩) hS ?_
 rotate_left
 ·intro w' hSw; have s0 := hSw.out 0 _ rfl; rw [Nat.add_zero] at s0; clear hSw; go_simp; try with_reducible rfl
 simp only [Act.put, zA, zB, zC]
 refine tk2 (v := ?_) (by kernel_rfl) (by kernel_rfl) (by kernel_rfl) (fun _ _ _ h => h) (Or.inl ⟨by first | rfl | (simp [Region.wanted, yielded]; done), ?_⟩) hS ?_
 rotate_left
 ·intro w' hSw; have s0 := hSw.out 0 _ rfl; rw [Nat.add_zero] at s0; clear hSw; go_simp; try with_reducible rfl
 simp only [Act.put, zA, zB, zC]
 refine tk3 (v := ?_) (by kernel_rfl) (by kernel_rfl) (by kernel_rfl) (fun _ _ _ h => h) (Or.inl ⟨by first | rfl | (simp [Region.wanted, yielded]; done), ?_⟩) hS ?_
 rotate_left
 ·intro w' hSw; have s0 := hSw.out 0 _ rfl; rw [Nat.add_zero] at s0; clear hSw; go_simp; try with_reducible rfl
 simp only [Act.put, zA, zB, zC]
 refine tk4 (v := ?_) (by kernel_rfl) (by kernel_rfl) (by kernel_rfl) (fun _ _ _ h => h) (Or.inl ⟨by first | rfl | (simp [Region.wanted, yielded]; done), ?_⟩) hS ?_
 rotate_left
 ·intro w' hSw; have s0 := hSw.out 0 _ rfl; rw [Nat.add_zero] at s0; clear hSw; go_simp; try with_reducible rfl
 simp only [Act.put, zA, zB, zC]
 refine wpAnyH_ready (rs := [0]) (by kernel_rfl) (by simp) (st0 (fun K hK => ?_) AllReadyH.nil)
 go_simp
 refine (rFlag_any _).mono ?_
 rintro _ Q1 ⟨rfl, hb⟩
 go_wp2_with fail
 replace BB := Lib.hid (BB.out.trans (hb.mono BB.out.size))
 replace X4 := Lib.hid (X4.out.bel (by simp) hb)
 have hS : Hid (∀ (j : Nat) (v : Value), (uC u0)[j]? = some v → Q1.cell? ⟨b, off + j, none⟩ = some v) := A0.out _ BB.out
 clear hb
 refine hK.out _ _ ?_ (fun hHeld => ?_)
 ·exact hS
 clear hK K
 try simp only [Act.put, zA, zB, zC]
 refine wpAnyH_ready (rs := [5]) (by kernel_rfl) (by simp) (st5 (fun K hK => ?_) AllReadyH.nil)
 refine (if_pos (by kernel_rfl)).mpr ?_
 refine wp_store rfl rfl rfl (store_row 29 4 (by kernel_rfl) Q1 w.heap.size [.bool false, .int .i64 0, .int .i64 0, .int .i64 0] (uC uFlag) X4.out rfl rfl (by simp [uC, Value.oneCell'])) ?_
 replace X4 := Lib.hid (X4.out.cells (L := uC uFlag) rfl)
 have hk := kept_setCells (b := w.heap.size) (w := Q1) (uC uFlag) 0 Q1 (Kept.refl _ _)
 replace BB := Lib.hid (below_kept BB.out hk (Nat.le_refl _))
 clear hk
 generalize Q1.setCells w.heap.size 0 (uC uFlag) = Q2 at *
 have hS : Hid (∀ (j : Nat) (v : Value), (uC u0)[j]? = some v → Q2.cell? ⟨b, off + j, none⟩ = some v) := A0.out _ BB.out
 refine hK.out _ _ ?_ (fun hHeld => ?_)
 ·exact hS
 clear hK K
 try simp only [Act.put]
 refine tk6 (v := ?_) (by kernel_rfl) (by kernel_rfl) (by kernel_rfl) (fun _ _ _ h => h) (Or.inl ⟨by first | rfl | (simp [Region.wanted, yielded]; done), ?_⟩) hS ?_
 rotate_left
 ·intro w' hSw; have s0 := hSw.out 0 _ rfl; rw [Nat.add_zero] at s0; clear hSw; go_simp; try with_reducible rfl
 simp only [Act.put, zA, zB, zC]
 refine wpAnyH_done (by kernel_rfl) ?_ _
 clear hS
 obtain ⟨r0, r1, r2, r3, -⟩ := box4 X4.out
 go_wp2_with fail
 exact bodyPost_ret (v := .tuple #[.agg (uC uFlag).toArray, .bool u0.f]) (by simp [uC, results, Try.results57, go_sem, r0, r1, r2, r3]) rfl ⟨OpR.mk (by cases h : u0.f <;> simp [opU, h]), BB.out⟩
set_option maxRecDepth 100000 in
set_option maxHeartbeats 8000000 in
theorem rop_if (op : Int) (u0 u1 u2 : U) (hop : op = 16) (hS : SlR w p b off 3 4 ([u0, u1, u2].map uC)) :
  Calls Try.prog 57 #[.int .i64 op, .slice p 3 c] w fun e w' => OpR (opU op [u0, u1, u2]) e ∧ RowKit.Below w.heap.size w w' := by
 have hq := hS.ptr (by decide)
 subst hq
 have hlt := hS.lt (by decide)
 have ba := (Below.refl w.heap.size w).alloc (Nat.le_refl _) (.cells ([.bool false, .int .i64 0, .int .i64 0, .int .i64 0] : List Value).toArray 29)
 have X4 := Lib.hid (BoxL.new w [.bool false, .int .i64 0, .int .i64 0, .int .i64 0] 29)
 have BB := Lib.hid ba
 have A0 : Hid (∀ V, RowKit.Below w.heap.size w V → ∀ (j : Nat) (v : Value), (uC u0)[j]? = some v → V.cell? ⟨b, off + j, none⟩ = some v) := fun V hV j v hv => by have := ((hS.bel hV).at_ 0 _ rfl).2 j v hv; rwa [show off + 0 * 4 + j = off + j by omega] at this
 have A1 : Hid (∀ V, RowKit.Below w.heap.size w V → ∀ (j : Nat) (v : Value), (uC u1)[j]? = some v → V.cell? ⟨b, off + 4 + j, none⟩ = some v) := fun V hV j v hv => by have := ((hS.bel hV).at_ 1 _ rfl).2 j v hv; rwa [show off + 1 * 4 + j = off + 4 + j by omega] at this
 have A2 : Hid (∀ V, RowKit.Below w.heap.size w V → ∀ (j : Nat) (v : Value), (uC u2)[j]? = some v → V.cell? ⟨b, off + 8 + j, none⟩ = some v) := fun V hV j v hv => by have := ((hS.bel hV).at_ 2 _ rfl).2 j v hv; rwa [show off + 2 * 4 + j = off + 8 + j by omega] at this
 clear hS ba
 subst hop
 obtain ⟨uf, um, ua, ud⟩ := u0
 cases uf with
 | false =>
  go_enter Try.func57, Try.ntmps57
  go_wp2_with fail
  generalize w.alloc (.cells #[.bool false, .int .i64 0, .int .i64 0, .int .i64 0] 29) = V0 at *
  have hb := (Below.refl V0.heap.size V0).drew
  replace BB := Lib.hid (BB.out.trans (hb.mono BB.out.size))
  replace X4 := Lib.hid (X4.out.bel (by simp) hb)
  have hS : Hid (∀ (j : Nat) (v : Value), (uC ⟨false, um, ua, ud⟩)[j]? = some v → V0.drew.cell? ⟨b, off + j, none⟩ = some v) ∧ Hid (∀ (j : Nat) (v : Value), (uC u1)[j]? = some v → V0.drew.cell? ⟨b, off + 4 + j, none⟩ = some v) ∧ Hid (∀ (j : Nat) (v : Value), (uC u2)[j]? = some v → V0.drew.cell? ⟨b, off + 8 + j, none⟩ = some v) := ⟨A0.out _ BB.out, A1.out _ BB.out, A2.out _ BB.out⟩
  refine wp_region_held (S := fun w' : World => Hid (∀ (j : Nat) (v : Value), (uC ⟨false, um, ua, ud⟩)[j]? = some v → w'.cell? ⟨b, off + j, none⟩ = some v) ∧ Hid (∀ (j : Nat) (v : Value), (uC u1)[j]? = some v → w'.cell? ⟨b, off + 4 + j, none⟩ = some v) ∧ Hid (∀ (j : Nat) (v : Value), (uC u2)[j]? = some v → w'.cell? ⟨b, off + 8 + j, none⟩ = some v)) mixed ?_
  change wpAnyH _ _ _ _ _ _ _ _ V0.drew
  clear hb
  generalize V0.drew = D4 at *
  refine tk0 (v := ?_) (by kernel_rfl) (by kernel_rfl) (by kernel_rfl) (fun _ _ _ h => h) (Or.inl ⟨by first | rfl | (simp [Region.wanted, yielded]; done), ?_⟩) hS ?_
  rotate_left
  ·intro w' hSw; have s0 := hSw.1.out 0 _ rfl; rw [Nat.add_zero] at s0; clear hSw; go_simp; try with_reducible rfl
  simp only [Act.put, zA, zB, zC]
  refine tk1 (v := ?_) (by kernel_rfl) (by kernel_rfl) (by kernel_rfl) (fun _ _ _ h => h) (Or.inl ⟨by first | rfl | (simp [Region.wanted, yielded]; done), ?_⟩) hS ?_
  rotate_left
  ·intro w' hSw; have s0 := hSw.1.out 0 _ rfl; rw [Nat.add_zero] at s0; clear hSw; go_simp; try with_reducible rfl
  simp only [Act.put, zA, zB, zC]
  refine tk2 (v := .agg (uC u1).toArray) (by kernel_rfl) (by kernel_rfl) (by kernel_rfl) (fun _ _ _ h => h) (Or.inl ⟨by first | rfl | (simp [Region.wanted, yielded]; done), ?_⟩) hS ?_
  ·intro w' hSw
   exact ex_load rfl rfl (load_rowAt 29 4 (by kernel_rfl) (by kernel_rfl) _ _ _ (uC u1) rfl hSw.2.1.out)
  simp only [Act.put, zA, zB, zC]
  refine tk3 (v := ?_) (by kernel_rfl) (by kernel_rfl) (by kernel_rfl) (fun _ _ _ h => h) (Or.inl ⟨by first | rfl | (simp [Region.wanted, yielded]; done), ?_⟩) hS ?_
  rotate_left
  ·intro w' hSw; have s0 := hSw.1.out 0 _ rfl; rw [Nat.add_zero] at s0; clear hSw; go_simp; try with_reducible rfl
  simp only [Act.put, zA, zB, zC]
  refine tk4 (v := ?_) (by kernel_rfl) (by kernel_rfl) (by kernel_rfl) (fun _ _ _ h => h) (Or.inl ⟨by first | rfl | (simp [Region.wanted, yielded]; done), ?_⟩) hS ?_
  rotate_left
  ·intro w' hSw; have s0 := hSw.1.out 0 _ rfl; rw [Nat.add_zero] at s0; clear hSw; go_simp; try with_reducible rfl
  simp only [Act.put, zA, zB, zC]
  refine tk5 (v := ?_) (by kernel_rfl) (by kernel_rfl) (by kernel_rfl) (fun _ _ _ h => h) (Or.inl ⟨by first | rfl | (simp [Region.wanted, yielded]; done), ?_⟩) hS ?_
  rotate_left
  ·intro w' hSw; have s0 := hSw.1.out 0 _ rfl; rw [Nat.add_zero] at s0; clear hSw; go_simp; try with_reducible rfl
  simp only [Act.put, zA, zB, zC]
  refine tk6 (v := ?_) (by kernel_rfl) (by kernel_rfl) (by kernel_rfl) (fun _ _ _ h => h) (Or.inl ⟨by first | rfl | (simp [Region.wanted, yielded]; done), ?_⟩) hS ?_
  rotate_left
  ·intro w' hSw; have s0 := hSw.1.out 0 _ rfl; rw [Nat.add_zero] at s0; clear hSw; go_simp; try with_reducible rfl
  simp only [Act.put, zA, zB, zC]
  refine tk7 (v := ?_) (by kernel_rfl) (by kernel_rfl) (by kernel_rfl) (fun _ _ _ h => h) (Or.inl ⟨by first | rfl | (simp [Region.wanted, yielded]; done), ?_⟩) hS ?_
  rotate_left
  ·intro w' hSw; have s0 := hSw.1.out 0 _ rfl; rw [Nat.add_zero] at s0; clear hSw; go_simp; try with_reducible rfl
  simp only [Act.put, zA, zB, zC]
  refine tk8 (v := undef) (by kernel_rfl) (by kernel_rfl) (by kernel_rfl) (fun _ _ _ h => h) (Or.inr ⟨by rfl, rfl⟩) hS ?_
  simp only [Act.put, zA, zB, zC]
  refine tk9 (v := undef) (by kernel_rfl) (by kernel_rfl) (by kernel_rfl) (fun _ _ _ h => h) (Or.inr ⟨by rfl, rfl⟩) hS ?_
  simp only [Act.put, zA, zB, zC]
  refine tk10 (v := undef) (by kernel_rfl) (by kernel_rfl) (by kernel_rfl) (fun _ _ _ h => h) (Or.inr ⟨by rfl, rfl⟩) hS ?_
  simp only [Act.put, zA, zB, zC]
  refine tk11 (v := undef) (by kernel_rfl) (by kernel_rfl) (by kernel_rfl) (fun _ _ _ h => h) (Or.inr ⟨by rfl, rfl⟩) hS ?_
  simp only [Act.put, zA, zB, zC]
  refine tk12 (v := undef) (by kernel_rfl) (by kernel_rfl) (by kernel_rfl) (fun _ _ _ h => h) (Or.inr ⟨by rfl, rfl⟩) hS ?_
  simp only [Act.put, zA, zB, zC]
  refine tk13 (v := undef) (by kernel_rfl) (by kernel_rfl) (by kernel_rfl) (fun _ _ _ h => h) (Or.inr ⟨by rfl, rfl⟩) hS ?_
  simp only [Act.put, zA, zB, zC]
  refine tk14 (v := undef) (by kernel_rfl) (by kernel_rfl) (by kernel_rfl) (fun _ _ _ h => h) (Or.inr ⟨by rfl, rfl⟩) hS ?_
  simp only [Act.put, zA, zB, zC]
  refine tk15 (v := ?_) (by kernel_rfl) (by kernel_rfl) (by kernel_rfl) (fun _ _ _ h => h) (Or.inl ⟨by first | rfl | (simp [Region.wanted, yielded]; done), ?_⟩) hS ?_
  rotate_left
  ·intro w' hSw; have s0 := hSw.1.out 0 _ rfl; rw [Nat.add_zero] at s0; clear hSw; go_simp; try with_reducible rfl
  simp only [Act.put, zA, zB, zC]
  refine wpAnyH_ready (rs := [16]) (by kernel_rfl) (by simp) (st16 (fun K hK => ?_) AllReadyH.nil)
  refine (if_pos (by kernel_rfl)).mpr ?_
  refine wp_store rfl rfl rfl (store_row 29 4 (by kernel_rfl) D4 w.heap.size [.bool false, .int .i64 0, .int .i64 0, .int .i64 0] (uC u1) X4.out rfl rfl (by simp [uC, Value.oneCell'])) ?_
  replace X4 := Lib.hid (X4.out.cells (L := uC u1) rfl)
  have hk := kept_setCells (b := w.heap.size) (w := D4) (uC u1) 0 D4 (Kept.refl _ _)
  replace BB := Lib.hid (below_kept BB.out hk (Nat.le_refl _))
  clear hk
  generalize D4.setCells w.heap.size 0 (uC u1) = Q3 at *
  have hS : Hid (∀ (j : Nat) (v : Value), (uC ⟨false, um, ua, ud⟩)[j]? = some v → Q3.cell? ⟨b, off + j, none⟩ = some v) ∧ Hid (∀ (j : Nat) (v : Value), (uC u1)[j]? = some v → Q3.cell? ⟨b, off + 4 + j, none⟩ = some v) ∧ Hid (∀ (j : Nat) (v : Value), (uC u2)[j]? = some v → Q3.cell? ⟨b, off + 8 + j, none⟩ = some v) := ⟨A0.out _ BB.out, A1.out _ BB.out, A2.out _ BB.out⟩
  refine hK.out _ _ ?_ (fun hHeld => ?_)
  ·exact hS
  clear hK K
  try simp only [Act.put]
  refine tk17 (v := ?_) (by kernel_rfl) (by kernel_rfl) (by kernel_rfl) (fun _ _ _ h => h) (Or.inl ⟨by first | rfl | (simp [Region.wanted, yielded]; done), ?_⟩) hS ?_
  rotate_left
  ·intro w' hSw; have s0 := hSw.1.out 0 _ rfl; rw [Nat.add_zero] at s0; clear hSw; go_simp; try with_reducible rfl
  simp only [Act.put, zA, zB, zC]
  refine wpAnyH_done (by kernel_rfl) ?_ _
  clear hS
  obtain ⟨r0, r1, r2, r3, -⟩ := box4 X4.out
  go_wp2_with fail
  exact bodyPost_ret (v := .tuple #[.agg (uC u1).toArray, .bool false]) (by simp [uC, results, Try.results57, go_sem, r0, r1, r2, r3]) rfl ⟨OpR.mk (by simp [opU]), BB.out⟩
 | true =>
  go_enter Try.func57, Try.ntmps57
  go_wp2_with fail
  generalize w.alloc (.cells #[.bool false, .int .i64 0, .int .i64 0, .int .i64 0] 29) = V0 at *
  have hb := (Below.refl V0.heap.size V0).drew
  replace BB := Lib.hid (BB.out.trans (hb.mono BB.out.size))
  replace X4 := Lib.hid (X4.out.bel (by simp) hb)
  have hS : Hid (∀ (j : Nat) (v : Value), (uC ⟨true, um, ua, ud⟩)[j]? = some v → V0.drew.cell? ⟨b, off + j, none⟩ = some v) ∧ Hid (∀ (j : Nat) (v : Value), (uC u1)[j]? = some v → V0.drew.cell? ⟨b, off + 4 + j, none⟩ = some v) ∧ Hid (∀ (j : Nat) (v : Value), (uC u2)[j]? = some v → V0.drew.cell? ⟨b, off + 8 + j, none⟩ = some v) := ⟨A0.out _ BB.out, A1.out _ BB.out, A2.out _ BB.out⟩
  refine wp_region_held (S := fun w' : World => Hid (∀ (j : Nat) (v : Value), (uC ⟨true, um, ua, ud⟩)[j]? = some v → w'.cell? ⟨b, off + j, none⟩ = some v) ∧ Hid (∀ (j : Nat) (v : Value), (uC u1)[j]? = some v → w'.cell? ⟨b, off + 4 + j, none⟩ = some v) ∧ Hid (∀ (j : Nat) (v : Value), (uC u2)[j]? = some v → w'.cell? ⟨b, off + 8 + j, none⟩ = some v)) mixed ?_
  change wpAnyH _ _ _ _ _ _ _ _ V0.drew
  clear hb
  generalize V0.drew = D4 at *
  refine tk0 (v := ?_) (by kernel_rfl) (by kernel_rfl) (by kernel_rfl) (fun _ _ _ h => h) (Or.inl ⟨by first | rfl | (simp [Region.wanted, yielded]; done), ?_⟩) hS ?_
  rotate_left
  ·intro w' hSw; have s0 := hSw.1.out 0 _ rfl; rw [Nat.add_zero] at s0; clear hSw; go_simp; try with_reducible rfl
  simp only [Act.put, zA, zB, zC]
  refine tk1 (v := ?_) (by kernel_rfl) (by kernel_rfl) (by kernel_rfl) (fun _ _ _ h => h) (Or.inl ⟨by first | rfl | (simp [Region.wanted, yielded]; done), ?_⟩) hS ?_
  rotate_left
  ·intro w' hSw; have s0 := hSw.1.out 0 _ rfl; rw [Nat.add_zero] at s0; clear hSw; go_simp; try with_reducible rfl
  simp only [Act.put, zA, zB, zC]
  refine tk2 (v := .agg (uC u1).toArray) (by kernel_rfl) (by kernel_rfl) (by kernel_rfl) (fun _ _ _ h => h) (Or.inl ⟨by first | rfl | (simp [Region.wanted, yielded]; done), ?_⟩) hS ?_
  ·intro w' hSw
   exact ex_load rfl rfl (load_rowAt 29 4 (by kernel_rfl) (by kernel_rfl) _ _ _ (uC u1) rfl hSw.2.1.out)
  simp only [Act.put, zA, zB, zC]
  refine tk3 (v := ?_) (by kernel_rfl) (by kernel_rfl) (by kernel_rfl) (fun _ _ _ h => h) (Or.inl ⟨by first | rfl | (simp [Region.wanted, yielded]; done), ?_⟩) hS ?_
  rotate_left
  ·intro w' hSw; have s0 := hSw.1.out 0 _ rfl; rw [Nat.add_zero] at s0; clear hSw; go_simp; try with_reducible rfl
  simp only [Act.put, zA, zB, zC]
  refine tk4 (v := ?_) (by kernel_rfl) (by kernel_rfl) (by kernel_rfl) (fun _ _ _ h => h) (Or.inl ⟨by first | rfl | (simp [Region.wanted, yielded]; done), ?_⟩) hS ?_
  rotate_left
  ·intro w' hSw; have s0 := hSw.1.out 0 _ rfl; rw [Nat.add_zero] at s0; clear hSw; go_simp; try with_reducible rfl
  simp only [Act.put, zA, zB, zC]
  refine tk5 (v := ?_) (by kernel_rfl) (by kernel_rfl) (by kernel_rfl) (fun _ _ _ h => h) (Or.inl ⟨by first | rfl | (simp [Region.wanted, yielded]; done), ?_⟩) hS ?_
  rotate_left
  ·intro w' hSw; have s0 := hSw.1.out 0 _ rfl; rw [Nat.add_zero] at s0; clear hSw; go_simp; try with_reducible rfl
  simp only [Act.put, zA, zB, zC]
  refine tk6 (v := ?_) (by kernel_rfl) (by kernel_rfl) (by kernel_rfl) (fun _ _ _ h => h) (Or.inl ⟨by first | rfl | (simp [Region.wanted, yielded]; done), ?_⟩) hS ?_
  rotate_left
  ·intro w' hSw; have s0 := hSw.1.out 0 _ rfl; rw [Nat.add_zero] at s0; clear hSw; go_simp; try with_reducible rfl
  simp only [Act.put, zA, zB, zC]
  refine tk7 (v := ?_) (by kernel_rfl) (by kernel_rfl) (by kernel_rfl) (fun _ _ _ h => h) (Or.inl ⟨by first | rfl | (simp [Region.wanted, yielded]; done), ?_⟩) hS ?_
  rotate_left
  ·intro w' hSw; have s0 := hSw.1.out 0 _ rfl; rw [Nat.add_zero] at s0; clear hSw; go_simp; try with_reducible rfl
  simp only [Act.put, zA, zB, zC]
  refine tk8 (v := ?_) (by kernel_rfl) (by kernel_rfl) (by kernel_rfl) (fun _ _ _ h => h) (Or.inl ⟨by first | rfl | (simp [Region.wanted, yielded]; done), ?_⟩) hS ?_
  rotate_left
  ·intro w' hSw; have s0 := hSw.1.out 0 _ rfl; rw [Nat.add_zero] at s0; clear hSw; go_simp; try with_reducible rfl
  simp only [Act.put, zA, zB, zC]
  refine tk9 (v := ?_) (by kernel_rfl) (by kernel_rfl) (by kernel_rfl) (fun _ _ _ h => h) (Or.inl ⟨by first | rfl | (simp [Region.wanted, yielded]; done), ?_⟩) hS ?_
  rotate_left
  ·intro w' hSw; have s0 := hSw.1.out 0 _ rfl; rw [Nat.add_zero] at s0; clear hSw; go_simp; try with_reducible rfl
  simp only [Act.put, zA, zB, zC]
  refine tk10 (v := .agg (uC u1).toArray) (by kernel_rfl) (by kernel_rfl) (by kernel_rfl) (fun _ _ _ h => h) (Or.inl ⟨by first | rfl | (simp [Region.wanted, yielded]; done), ?_⟩) hS ?_
  ·intro w' hSw
   exact ex_load rfl rfl (load_rowAt 29 4 (by kernel_rfl) (by kernel_rfl) _ _ _ (uC u1) rfl hSw.2.1.out)
  simp only [Act.put, zA, zB, zC]
  refine tk11 (v := ?_) (by kernel_rfl) (by kernel_rfl) (by kernel_rfl) (fun _ _ _ h => h) (Or.inl ⟨by first | rfl | (simp [Region.wanted, yielded]; done), ?_⟩) hS ?_
  rotate_left
  ·intro w' hSw; have s0 := hSw.1.out 0 _ rfl; rw [Nat.add_zero] at s0; clear hSw; go_simp; try with_reducible rfl
  simp only [Act.put, zA, zB, zC]
  refine tk12 (v := ?_) (by kernel_rfl) (by kernel_rfl) (by kernel_rfl) (fun _ _ _ h => h) (Or.inl ⟨by first | rfl | (simp [Region.wanted, yielded]; done), ?_⟩) hS ?_
  rotate_left
  ·intro w' hSw; have s0 := hSw.1.out 0 _ rfl; rw [Nat.add_zero] at s0; clear hSw; go_simp; try with_reducible rfl
  simp only [Act.put, zA, zB, zC]
  refine tk13 (v := .agg (uC u2).toArray) (by kernel_rfl) (by kernel_rfl) (by kernel_rfl) (fun _ _ _ h => h) (Or.inl ⟨by first | rfl | (simp [Region.wanted, yielded]; done), ?_⟩) hS ?_
  ·intro w' hSw
   exact ex_load rfl rfl (load_rowAt 29 4 (by kernel_rfl) (by kernel_rfl) _ _ _ (uC u2) rfl hSw.2.2.out)
  simp only [Act.put, zA, zB, zC]
  refine tk14 (v := .bool (decide (u1 = u2))) (by kernel_rfl) (by kernel_rfl) (by kernel_rfl) (fun _ _ _ h => h) (Or.inl ⟨by first | rfl | (simp [Region.wanted, yielded]; done), ?_⟩) hS ?_
  ·intro w' hSw
   exact ex_eqU (u := u1) (v := u2) rfl rfl rfl _
  simp only [Act.put, zA, zB, zC]
  refine tk15 (v := ?_) (by kernel_rfl) (by kernel_rfl) (by kernel_rfl) (fun _ _ _ h => h) (Or.inl ⟨by first | rfl | (simp [Region.wanted, yielded]; done), ?_⟩) hS ?_
  rotate_left
  ·intro w' hSw; have s0 := hSw.1.out 0 _ rfl; rw [Nat.add_zero] at s0; clear hSw; go_simp; try with_reducible rfl
  simp only [Act.put, zA, zB, zC]
  refine wpAnyH_ready (rs := [16]) (by kernel_rfl) (by simp) (st16 (fun K hK => ?_) AllReadyH.nil)
  refine (if_pos (by kernel_rfl)).mpr ?_
  refine wp_store rfl rfl rfl (store_row 29 4 (by kernel_rfl) D4 w.heap.size [.bool false, .int .i64 0, .int .i64 0, .int .i64 0] (uC u1) X4.out rfl rfl (by simp [uC, Value.oneCell'])) ?_
  replace X4 := Lib.hid (X4.out.cells (L := uC u1) rfl)
  have hk := kept_setCells (b := w.heap.size) (w := D4) (uC u1) 0 D4 (Kept.refl _ _)
  replace BB := Lib.hid (below_kept BB.out hk (Nat.le_refl _))
  clear hk
  generalize D4.setCells w.heap.size 0 (uC u1) = Q4 at *
  have hS : Hid (∀ (j : Nat) (v : Value), (uC ⟨true, um, ua, ud⟩)[j]? = some v → Q4.cell? ⟨b, off + j, none⟩ = some v) ∧ Hid (∀ (j : Nat) (v : Value), (uC u1)[j]? = some v → Q4.cell? ⟨b, off + 4 + j, none⟩ = some v) ∧ Hid (∀ (j : Nat) (v : Value), (uC u2)[j]? = some v → Q4.cell? ⟨b, off + 8 + j, none⟩ = some v) := ⟨A0.out _ BB.out, A1.out _ BB.out, A2.out _ BB.out⟩
  refine hK.out _ _ ?_ (fun hHeld => ?_)
  ·exact hS
  clear hK K
  try simp only [Act.put]
  refine tk17 (v := ?_) (by kernel_rfl) (by kernel_rfl) (by kernel_rfl) (fun _ _ _ h => h) (Or.inl ⟨by first | rfl | (simp [Region.wanted, yielded]; done), ?_⟩) hS ?_
  rotate_left
  ·intro w' hSw; have s0 := hSw.1.out 0 _ rfl; rw [Nat.add_zero] at s0; clear hSw; go_simp; try with_reducible rfl
  simp only [Act.put, zA, zB, zC]
  refine wpAnyH_done (by kernel_rfl) ?_ _
  clear hS
  obtain ⟨r0, r1, r2, r3, -⟩ := box4 X4.out
  go_wp2_with fail
  exact bodyPost_ret (v := .tuple #[.agg (uC u1).toArray, .bool (decide (u1 = u2))]) (by simp [uC, results, Try.results57, go_sem, r0, r1, r2, r3]) rfl ⟨OpR.mk (by simp [opU]), BB.out⟩
set_option maxRecDepth 100000 in
set_option maxHeartbeats 8000000 in
theorem rop_sum (op : Int) (u0 u1 : U) (hop : op = 3 ∨ op = 4 ∨ op = 7 ∨ op = 8) (hS : SlR w p b off 2 4 ([u0, u1].map uC)) :
  Calls Try.prog 57 #[.int .i64 op, .slice p 2 c] w fun e w' => OpR (opU op [u0, u1]) e ∧ RowKit.Below w.heap.size w w' := by
 have hq := hS.ptr (by decide)
 subst hq
 have hlt := hS.lt (by decide)
 have ba := (Below.refl w.heap.size w).alloc (Nat.le_refl _) (.cells ([.bool false, .int .i64 0, .int .i64 0, .int .i64 0] : List Value).toArray 29)
 have X4 := Lib.hid (BoxL.new w [.bool false, .int .i64 0, .int .i64 0, .int .i64 0] 29)
 have BB := Lib.hid ba
 have A0 : Hid (∀ V, RowKit.Below w.heap.size w V → ∀ (j : Nat) (v : Value), (uC u0)[j]? = some v → V.cell? ⟨b, off + j, none⟩ = some v) := fun V hV j v hv => by have := ((hS.bel hV).at_ 0 _ rfl).2 j v hv; rwa [show off + 0 * 4 + j = off + j by omega] at this
 have A1 : Hid (∀ V, RowKit.Below w.heap.size w V → ∀ (j : Nat) (v : Value), (uC u1)[j]? = some v → V.cell? ⟨b, off + 4 + j, none⟩ = some v) := fun V hV j v hv => by have := ((hS.bel hV).at_ 1 _ rfl).2 j v hv; rwa [show off + 1 * 4 + j = off + 4 + j by omega] at this
 clear hS ba
 have HOP : Hid (opU op [u0, u1] = if (decide (u0 = u1) && !u0.f) = true then some u0 else none) := by
  show _ = _
  rcases hop with rfl | rfl | rfl | rfl <;> simp [opU]
 obtain ⟨R, hR⟩ : ∃ R, R = opU op [u0, u1] := ⟨_, rfl⟩
 rw [← hR] at HOP ⊢
 clear hR
 obtain ⟨sm, hsm⟩ : ∃ sm, sm = decide (u0 = u1) := ⟨_, rfl⟩
 rw [← hsm] at HOP
 have HSM := Lib.hid hsm
 clear hsm
 rcases hop with rfl | rfl | rfl | rfl
 all_goals
  cases sm with
  | false =>
   go_enter Try.func57, Try.ntmps57
   go_wp2_with fail
   generalize w.alloc (.cells #[.bool false, .int .i64 0, .int .i64 0, .int .i64 0] 29) = V0 at *
   have hb := (Below.refl V0.heap.size V0).drew
   replace BB := Lib.hid (BB.out.trans (hb.mono BB.out.size))
   replace X4 := Lib.hid (X4.out.bel (by simp) hb)
   have hS : Hid (∀ (j : Nat) (v : Value), (uC u0)[j]? = some v → V0.drew.cell? ⟨b, off + j, none⟩ = some v) ∧ Hid (∀ (j : Nat) (v : Value), (uC u1)[j]? = some v → V0.drew.cell? ⟨b, off + 4 + j, none⟩ = some v) := ⟨A0.out _ BB.out, A1.out _ BB.out⟩
   refine wp_region_held (S := fun w' : World => Hid (∀ (j : Nat) (v : Value), (uC u0)[j]? = some v → w'.cell? ⟨b, off + j, none⟩ = some v) ∧ Hid (∀ (j : Nat) (v : Value), (uC u1)[j]? = some v → w'.cell? ⟨b, off + 4 + j, none⟩ = some v)) mixed ?_
   change wpAnyH _ _ _ _ _ _ _ _ V0.drew
   clear hb
   generalize V0.drew = D5 at *
   refine tk0 (v := ?_) (by kernel_rfl) (by kernel_rfl) (by kernel_rfl) (fun _ _ _ h => h) (Or.inl ⟨by first | rfl | (simp [Region.wanted, yielded]; done), ?_⟩) hS ?_
   rotate_left
   ·intro w' hSw; have s0 := hSw.1.out 0 _ rfl; rw [Nat.add_zero] at s0; clear hSw; go_simp; try with_reducible rfl
   simp only [Act.put, zA, zB, zC]
   refine tk1 (v := ?_) (by kernel_rfl) (by kernel_rfl) (by kernel_rfl) (fun _ _ _ h => h) (Or.inl ⟨by first | rfl | (simp [Region.wanted, yielded]; done), ?_⟩) hS ?_
   rotate_left
   ·intro w' hSw; have s0 := hSw.1.out 0 _ rfl; rw [Nat.add_zero] at s0; clear hSw; go_simp; try with_reducible rfl
   simp only [Act.put, zA, zB, zC]
   refine tk2 (v := .agg (uC u0).toArray) (by kernel_rfl) (by kernel_rfl) (by kernel_rfl) (fun _ _ _ h => h) (Or.inl ⟨by first | rfl | (simp [Region.wanted, yielded]; done), ?_⟩) hS ?_
   ·intro w' hSw
    exact ex_load rfl rfl (load_rowAt 29 4 (by kernel_rfl) (by kernel_rfl) _ _ _ (uC u0) rfl hSw.1.out)
   simp only [Act.put, zA, zB, zC]
   refine tk3 (v := ?_) (by kernel_rfl) (by kernel_rfl) (by kernel_rfl) (fun _ _ _ h => h) (Or.inl ⟨by first | rfl | (simp [Region.wanted, yielded]; done), ?_⟩) hS ?_
   rotate_left
   ·intro w' hSw; have s0 := hSw.1.out 0 _ rfl; rw [Nat.add_zero] at s0; clear hSw; go_simp; try with_reducible rfl
   simp only [Act.put, zA, zB, zC]
   refine tk4 (v := ?_) (by kernel_rfl) (by kernel_rfl) (by kernel_rfl) (fun _ _ _ h => h) (Or.inl ⟨by first | rfl | (simp [Region.wanted, yielded]; done), ?_⟩) hS ?_
   rotate_left
   ·intro w' hSw; have s0 := hSw.1.out 0 _ rfl; rw [Nat.add_zero] at s0; clear hSw; go_simp; try with_reducible rfl
   simp only [Act.put, zA, zB, zC]
   refine tk5 (v := .agg (uC u1).toArray) (by kernel_rfl) (by kernel_rfl) (by kernel_rfl) (fun _ _ _ h => h) (Or.inl ⟨by first | rfl | (simp [Region.wanted, yielded]; done), ?_⟩) hS ?_
   ·intro w' hSw
    exact ex_load rfl rfl (load_rowAt 29 4 (by kernel_rfl) (by kernel_rfl) _ _ _ (uC u1) rfl hSw.2.out)
   simp only [Act.put, zA, zB, zC]
   refine tk6 (v := .bool false) (by kernel_rfl) (by kernel_rfl) (by kernel_rfl) (fun _ _ _ h => h) (Or.inl ⟨by first | rfl | (simp [Region.wanted, yielded]; done), ?_⟩) hS ?_
   ·intro w' hSw
    refine (ex_eqU (u := u0) (v := u1) rfl rfl rfl _).trans ?_; rw [← HSM.out]
   simp only [Act.put, zA, zB, zC]
   refine tk7 (v := ?_) (by kernel_rfl) (by kernel_rfl) (by kernel_rfl) (fun _ _ _ h => h) (Or.inl ⟨by first | rfl | (simp [Region.wanted, yielded]; done), ?_⟩) hS ?_
   rotate_left
   ·intro w' hSw; have s0 := hSw.1.out 0 _ rfl; rw [Nat.add_zero] at s0; clear hSw; go_simp; try with_reducible rfl
   simp only [Act.put, zA, zB, zC]
   refine wpAnyH_done (by kernel_rfl) ?_ _
   clear hS
   go_wp2_with fail
   have hb := (Below.refl D5.heap.size D5).drew
   replace BB := Lib.hid (BB.out.trans (hb.mono BB.out.size))
   replace X4 := Lib.hid (X4.out.bel (by simp) hb)
   have hS : Hid (∀ (j : Nat) (v : Value), (uC u0)[j]? = some v → D5.drew.cell? ⟨b, off + j, none⟩ = some v) ∧ Hid (∀ (j : Nat) (v : Value), (uC u1)[j]? = some v → D5.drew.cell? ⟨b, off + 4 + j, none⟩ = some v) := ⟨A0.out _ BB.out, A1.out _ BB.out⟩
   refine wp_region_held (S := fun w' : World => Hid (∀ (j : Nat) (v : Value), (uC u0)[j]? = some v → w'.cell? ⟨b, off + j, none⟩ = some v) ∧ Hid (∀ (j : Nat) (v : Value), (uC u1)[j]? = some v → w'.cell? ⟨b, off + 4 + j, none⟩ = some v)) mixed ?_
   change wpAnyH _ _ _ _ _ _ _ _ D5.drew
   clear hb
   generalize D5.drew = D13 at *
   refine tk0 (v := ?_) (by kernel_rfl) (by kernel_rfl) (by kernel_rfl) (fun _ _ _ h => h) (Or.inl ⟨by first | rfl | (simp [Region.wanted, yielded]; done), ?_⟩) hS ?_
   rotate_left
   ·intro w' hSw; have s0 := hSw.1.out 0 _ rfl; rw [Nat.add_zero] at s0; clear hSw; go_simp; try with_reducible rfl
   simp only [Act.put, zA, zB, zC]
   refine tk1 (v := ?_) (by kernel_rfl) (by kernel_rfl) (by kernel_rfl) (fun _ _ _ h => h) (Or.inl ⟨by first | rfl | (simp [Region.wanted, yielded]; done), ?_⟩) hS ?_
   rotate_left
   ·intro w' hSw; have s0 := hSw.1.out 0 _ rfl; rw [Nat.add_zero] at s0; clear hSw; go_simp; try with_reducible rfl
   simp only [Act.put, zA, zB, zC]
   refine tk2 (v := .agg (uC u0).toArray) (by kernel_rfl) (by kernel_rfl) (by kernel_rfl) (fun _ _ _ h => h) (Or.inl ⟨by first | rfl | (simp [Region.wanted, yielded]; done), ?_⟩) hS ?_
   ·intro w' hSw
    exact ex_load rfl rfl (load_rowAt 29 4 (by kernel_rfl) (by kernel_rfl) _ _ _ (uC u0) rfl hSw.1.out)
   simp only [Act.put, zA, zB, zC]
   refine tk3 (v := ?_) (by kernel_rfl) (by kernel_rfl) (by kernel_rfl) (fun _ _ _ h => h) (Or.inl ⟨by first | rfl | (simp [Region.wanted, yielded]; done), ?_⟩) hS ?_
   rotate_left
   ·intro w' hSw; have s0 := hSw.1.out 0 _ rfl; rw [Nat.add_zero] at s0; clear hSw; go_simp; try with_reducible rfl
   simp only [Act.put, zA, zB, zC]
   refine tk4 (v := ?_) (by kernel_rfl) (by kernel_rfl) (by kernel_rfl) (fun _ _ _ h => h) (Or.inl ⟨by first | rfl | (simp [Region.wanted, yielded]; done), ?_⟩) hS ?_
   rotate_left
   ·intro w' hSw; have s0 := hSw.1.out 0 _ rfl; rw [Nat.add_zero] at s0; clear hSw; go_simp; try with_reducible rfl
   simp only [Act.put, zA, zB, zC]
   refine tk5 (v := undef) (by kernel_rfl) (by kernel_rfl) (by kernel_rfl) (fun _ _ _ h => h) (Or.inr ⟨by rfl, rfl⟩) hS ?_
   simp only [Act.put, zA, zB, zC]
   refine tk6 (v := undef) (by kernel_rfl) (by kernel_rfl) (by kernel_rfl) (fun _ _ _ h => h) (Or.inr ⟨by rfl, rfl⟩) hS ?_
   simp only [Act.put, zA, zB, zC]
   refine tk7 (v := undef) (by kernel_rfl) (by kernel_rfl) (by kernel_rfl) (fun _ _ _ h => h) (Or.inr ⟨by rfl, rfl⟩) hS ?_
   simp only [Act.put, zA, zB, zC]
   refine tk8 (v := undef) (by kernel_rfl) (by kernel_rfl) (by kernel_rfl) (fun _ _ _ h => h) (Or.inr ⟨by rfl, rfl⟩) hS ?_
   simp only [Act.put, zA, zB, zC]
   refine tk9 (v := undef) (by kernel_rfl) (by kernel_rfl) (by kernel_rfl) (fun _ _ _ h => h) (Or.inr ⟨by rfl, rfl⟩) hS ?_
   simp only [Act.put, zA, zB, zC]
   refine tk10 (v := ?_) (by kernel_rfl) (by kernel_rfl) (by kernel_rfl) (fun _ _ _ h => h) (Or.inl ⟨by first | rfl | (simp [Region.wanted, yielded]; done), ?_⟩) hS ?_
   rotate_left
   ·intro w' hSw; have s0 := hSw.1.out 0 _ rfl; rw [Nat.add_zero] at s0; clear hSw; go_simp; try with_reducible rfl
   simp only [Act.put, zA, zB, zC]
   refine wpAnyH_ready (rs := [11]) (by kernel_rfl) (by simp) (st11 (fun K hK => ?_) AllReadyH.nil)
   refine (if_pos (by kernel_rfl)).mpr ?_
   refine wp_store rfl rfl rfl (store_row 29 4 (by kernel_rfl) D13 w.heap.size [.bool false, .int .i64 0, .int .i64 0, .int .i64 0] (uC u0) X4.out rfl rfl (by simp [uC, Value.oneCell'])) ?_
   replace X4 := Lib.hid (X4.out.cells (L := uC u0) rfl)
   have hk := kept_setCells (b := w.heap.size) (w := D13) (uC u0) 0 D13 (Kept.refl _ _)
   replace BB := Lib.hid (below_kept BB.out hk (Nat.le_refl _))
   clear hk
   generalize D13.setCells w.heap.size 0 (uC u0) = Q5 at *
   have hS : Hid (∀ (j : Nat) (v : Value), (uC u0)[j]? = some v → Q5.cell? ⟨b, off + j, none⟩ = some v) ∧ Hid (∀ (j : Nat) (v : Value), (uC u1)[j]? = some v → Q5.cell? ⟨b, off + 4 + j, none⟩ = some v) := ⟨A0.out _ BB.out, A1.out _ BB.out⟩
   refine hK.out _ _ ?_ (fun hHeld => ?_)
   ·exact hS
   clear hK K
   try simp only [Act.put]
   refine tk12 (v := ?_) (by kernel_rfl) (by kernel_rfl) (by kernel_rfl) (fun _ _ _ h => h) (Or.inl ⟨by first | rfl | (simp [Region.wanted, yielded]; done), ?_⟩) hS ?_
   rotate_left
   ·intro w' hSw; have s0 := hSw.1.out 0 _ rfl; rw [Nat.add_zero] at s0; clear hSw; go_simp; try with_reducible rfl
   simp only [Act.put, zA, zB, zC]
   refine wpAnyH_done (by kernel_rfl) ?_ _
   clear hS
   obtain ⟨r0, r1, r2, r3, -⟩ := box4 X4.out
   go_wp2_with fail
   exact bodyPost_ret (v := .tuple #[.agg (uC u0).toArray, .bool false]) (by simp [uC, results, Try.results57, go_sem, r0, r1, r2, r3]) rfl ⟨OpR.mk (by first | (rw [HOP.out]; simp; done) | rw [HOP.out]), BB.out⟩
  | true =>
   go_enter Try.func57, Try.ntmps57
   go_wp2_with fail
   generalize w.alloc (.cells #[.bool false, .int .i64 0, .int .i64 0, .int .i64 0] 29) = V0 at *
   have hb := (Below.refl V0.heap.size V0).drew
   replace BB := Lib.hid (BB.out.trans (hb.mono BB.out.size))
   replace X4 := Lib.hid (X4.out.bel (by simp) hb)
   have hS : Hid (∀ (j : Nat) (v : Value), (uC u0)[j]? = some v → V0.drew.cell? ⟨b, off + j, none⟩ = some v) ∧ Hid (∀ (j : Nat) (v : Value), (uC u1)[j]? = some v → V0.drew.cell? ⟨b, off + 4 + j, none⟩ = some v) := ⟨A0.out _ BB.out, A1.out _ BB.out⟩
   refine wp_region_held (S := fun w' : World => Hid (∀ (j : Nat) (v : Value), (uC u0)[j]? = some v → w'.cell? ⟨b, off + j, none⟩ = some v) ∧ Hid (∀ (j : Nat) (v : Value), (uC u1)[j]? = some v → w'.cell? ⟨b, off + 4 + j, none⟩ = some v)) mixed ?_
   change wpAnyH _ _ _ _ _ _ _ _ V0.drew
   clear hb
   generalize V0.drew = D5 at *
   refine tk0 (v := ?_) (by kernel_rfl) (by kernel_rfl) (by kernel_rfl) (fun _ _ _ h => h) (Or.inl ⟨by first | rfl | (simp [Region.wanted, yielded]; done), ?_⟩) hS ?_
   rotate_left
   ·intro w' hSw; have s0 := hSw.1.out 0 _ rfl; rw [Nat.add_zero] at s0; clear hSw; go_simp; try with_reducible rfl
   simp only [Act.put, zA, zB, zC]
   refine tk1 (v := ?_) (by kernel_rfl) (by kernel_rfl) (by kernel_rfl) (fun _ _ _ h => h) (Or.inl ⟨by first | rfl | (simp [Region.wanted, yielded]; done), ?_⟩) hS ?_
   rotate_left
   ·intro w' hSw; have s0 := hSw.1.out 0 _ rfl; rw [Nat.add_zero] at s0; clear hSw; go_simp; try with_reducible rfl
   simp only [Act.put, zA, zB, zC]
   refine tk2 (v := .agg (uC u0).toArray) (by kernel_rfl) (by kernel_rfl) (by kernel_rfl) (fun _ _ _ h => h) (Or.inl ⟨by first | rfl | (simp [Region.wanted, yielded]; done), ?_⟩) hS ?_
   ·intro w' hSw
    exact ex_load rfl rfl (load_rowAt 29 4 (by kernel_rfl) (by kernel_rfl) _ _ _ (uC u0) rfl hSw.1.out)
   simp only [Act.put, zA, zB, zC]
   refine tk3 (v := ?_) (by kernel_rfl) (by kernel_rfl) (by kernel_rfl) (fun _ _ _ h => h) (Or.inl ⟨by first | rfl | (simp [Region.wanted, yielded]; done), ?_⟩) hS ?_
   rotate_left
   ·intro w' hSw; have s0 := hSw.1.out 0 _ rfl; rw [Nat.add_zero] at s0; clear hSw; go_simp; try with_reducible rfl
   simp only [Act.put, zA, zB, zC]
   refine tk4 (v := ?_) (by kernel_rfl) (by kernel_rfl) (by kernel_rfl) (fun _ _ _ h => h) (Or.inl ⟨by first | rfl | (simp [Region.wanted, yielded]; done), ?_⟩) hS ?_
   rotate_left
   ·intro w' hSw; have s0 := hSw.1.out 0 _ rfl; rw [Nat.add_zero] at s0; clear hSw; go_simp; try with_reducible rfl
   simp only [Act.put, zA, zB, zC]
   refine tk5 (v := .agg (uC u1).toArray) (by kernel_rfl) (by kernel_rfl) (by kernel_rfl) (fun _ _ _ h => h) (Or.inl ⟨by first | rfl | (simp [Region.wanted, yielded]; done), ?_⟩) hS ?_
   ·intro w' hSw
    exact ex_load rfl rfl (load_rowAt 29 4 (by kernel_rfl) (by kernel_rfl) _ _ _ (uC u1) rfl hSw.2.out)
   simp only [Act.put, zA, zB, zC]
   refine tk6 (v := .bool true) (by kernel_rfl) (by kernel_rfl) (by kernel_rfl) (fun _ _ _ h => h) (Or.inl ⟨by first | rfl | (simp [Region.wanted, yielded]; done), ?_⟩) hS ?_
   ·intro w' hSw
    refine (ex_eqU (u := u0) (v := u1) rfl rfl rfl _).trans ?_; rw [← HSM.out]
   simp only [Act.put, zA, zB, zC]
   refine tk7 (v := ?_) (by kernel_rfl) (by kernel_rfl) (by kernel_rfl) (fun _ _ _ h => h) (Or.inl ⟨by first | rfl | (simp [Region.wanted, yielded]; done), ?_⟩) hS ?_
   rotate_left
   ·intro w' hSw; have s0 := hSw.1.out 0 _ rfl; rw [Nat.add_zero] at s0; clear hSw; go_simp; try with_reducible rfl
   simp only [Act.put, zA, zB, zC]
   refine wpAnyH_done (by kernel_rfl) ?_ _
   clear hS
   go_wp2_with fail
   have hb := (Below.refl D5.heap.size D5).drew
   replace BB := Lib.hid (BB.out.trans (hb.mono BB.out.size))
   replace X4 := Lib.hid (X4.out.bel (by simp) hb)
   have hS : Hid (∀ (j : Nat) (v : Value), (uC u0)[j]? = some v → D5.drew.cell? ⟨b, off + j, none⟩ = some v) ∧ Hid (∀ (j : Nat) (v : Value), (uC u1)[j]? = some v → D5.drew.cell? ⟨b, off + 4 + j, none⟩ = some v) := ⟨A0.out _ BB.out, A1.out _ BB.out⟩
   refine wp_region_held (S := fun w' : World => Hid (∀ (j : Nat) (v : Value), (uC u0)[j]? = some v → w'.cell? ⟨b, off + j, none⟩ = some v) ∧ Hid (∀ (j : Nat) (v : Value), (uC u1)[j]? = some v → w'.cell? ⟨b, off + 4 + j, none⟩ = some v)) mixed ?_
   change wpAnyH _ _ _ _ _ _ _ _ D5.drew
   clear hb
   generalize D5.drew = D13 at *
   refine tk0 (v := ?_) (by kernel_rfl) (by kernel_rfl) (by kernel_rfl) (fun _ _ _ h => h) (Or.inl ⟨by first | rfl | (simp [Region.wanted, yielded]; done), ?_⟩) hS ?_
   rotate_left
   ·intro w' hSw; have s0 := hSw.1.out 0 _ rfl; rw [Nat.add_zero] at s0; clear hSw; go_simp; try with_reducible rfl
   simp only [Act.put, zA, zB, zC]
   refine tk1 (v := ?_) (by kernel_rfl) (by kernel_rfl) (by kernel_rfl) (fun _ _ _ h => h) (Or.inl ⟨by first | rfl | (simp [Region.wanted, yielded]; done), ?_⟩) hS ?_
   rotate_left
   ·intro w' hSw; have s0 := hSw.1.out 0 _ rfl; rw [Nat.add_zero] at s0; clear hSw; go_simp; try with_reducible rfl
   simp only [Act.put, zA, zB, zC]
   refine tk2 (v := .agg (uC u0).toArray) (by kernel_rfl) (by kernel_rfl) (by kernel_rfl) (fun _ _ _ h => h) (Or.inl ⟨by first | rfl | (simp [Region.wanted, yielded]; done), ?_⟩) hS ?_
   ·intro w' hSw
    exact ex_load rfl rfl (load_rowAt 29 4 (by kernel_rfl) (by kernel_rfl) _ _ _ (uC u0) rfl hSw.1.out)
   simp only [Act.put, zA, zB, zC]
   refine tk3 (v := ?_) (by kernel_rfl) (by kernel_rfl) (by kernel_rfl) (fun _ _ _ h => h) (Or.inl ⟨by first | rfl | (simp [Region.wanted, yielded]; done), ?_⟩) hS ?_
   rotate_left
   ·intro w' hSw; have s0 := hSw.1.out 0 _ rfl; rw [Nat.add_zero] at s0; clear hSw; go_simp; try with_reducible rfl
   simp only [Act.put, zA, zB, zC]
   refine tk4 (v := ?_) (by kernel_rfl) (by kernel_rfl) (by kernel_rfl) (fun _ _ _ h => h) (Or.inl ⟨by first | rfl | (simp [Region.wanted, yielded]; done), ?_⟩) hS ?_
   rotate_left
   ·intro w' hSw; have s0 := hSw.1.out 0 _ rfl; rw [Nat.add_zero] at s0; clear hSw; go_simp; try with_reducible rfl
   simp only [Act.put, zA, zB, zC]
   refine tk5 (v := ?_) (by kernel_rfl) (by kernel_rfl) (by kernel_rfl) (fun _ _ _ h => h) (Or.inl ⟨by first | rfl | (simp [Region.wanted, yielded]; done), ?_⟩) hS ?_
   rotate_left
   ·intro w' hSw; have s0 := hSw.1.out 0 _ rfl; rw [Nat.add_zero] at s0; clear hSw; go_simp; try with_reducible rfl
   simp only [Act.put, zA, zB, zC]
   refine tk6 (v := ?_) (by kernel_rfl) (by kernel_rfl) (by kernel_rfl) (fun _ _ _ h => h) (Or.inl ⟨by first | rfl | (simp [Region.wanted, yielded]; done), ?_⟩) hS ?_
   rotate_left
   ·intro w' hSw; have s0 := hSw.1.out 0 _ rfl; rw [Nat.add_zero] at s0; clear hSw; go_simp; try with_reducible rfl
   simp only [Act.put, zA, zB, zC]
   refine tk7 (v := ?_) (by kernel_rfl) (by kernel_rfl) (by kernel_rfl) (fun _ _ _ h => h) (Or.inl ⟨by first | rfl | (simp [Region.wanted, yielded]; done), ?_⟩) hS ?_
   rotate_left
   ·intro w' hSw; have s0 := hSw.1.out 0 _ rfl; rw [Nat.add_zero] at s0; clear hSw; go_simp; try with_reducible rfl
   simp only [Act.put, zA, zB, zC]
   refine tk8 (v := ?_) (by kernel_rfl) (by kernel_rfl) (by kernel_rfl) (fun _ _ _ h => h) (Or.inl ⟨by first | rfl | (simp [Region.wanted, yielded]; done), ?_⟩) hS ?_
   rotate_left
   ·intro w' hSw; have s0 := hSw.1.out 0 _ rfl; rw [Nat.add_zero] at s0; clear hSw; go_simp; try with_reducible rfl
   simp only [Act.put, zA, zB, zC]
   refine tk9 (v := ?_) (by kernel_rfl) (by kernel_rfl) (by kernel_rfl) (fun _ _ _ h => h) (Or.inl ⟨by first | rfl | (simp [Region.wanted, yielded]; done), ?_⟩) hS ?_
   rotate_left
   ·intro w' hSw; have s0 := hSw.1.out 0 _ rfl; rw [Nat.add_zero] at s0; clear hSw; go_simp; try with_reducible rfl
   simp only [Act.put, zA, zB, zC]
   refine tk10 (v := ?_) (by kernel_rfl) (by kernel_rfl) (by kernel_rfl) (fun _ _ _ h => h) (Or.inl ⟨by first | rfl | (simp [Region.wanted, yielded]; done), ?_⟩) hS ?_
   rotate_left
   ·intro w' hSw; have s0 := hSw.1.out 0 _ rfl; rw [Nat.add_zero] at s0; clear hSw; go_simp; try with_reducible rfl
   simp only [Act.put, zA, zB, zC]
   refine wpAnyH_ready (rs := [11]) (by kernel_rfl) (by simp) (st11 (fun K hK => ?_) AllReadyH.nil)
   refine (if_pos (by kernel_rfl)).mpr ?_
   refine wp_store rfl rfl rfl (store_row 29 4 (by kernel_rfl) D13 w.heap.size [.bool false, .int .i64 0, .int .i64 0, .int .i64 0] (uC u0) X4.out rfl rfl (by simp [uC, Value.oneCell'])) ?_
   replace X4 := Lib.hid (X4.out.cells (L := uC u0) rfl)
   have hk := kept_setCells (b := w.heap.size) (w := D13) (uC u0) 0 D13 (Kept.refl _ _)
   replace BB := Lib.hid (below_kept BB.out hk (Nat.le_refl _))
   clear hk
   generalize D13.setCells w.heap.size 0 (uC u0) = Q6 at *
   have hS : Hid (∀ (j : Nat) (v : Value), (uC u0)[j]? = some v → Q6.cell? ⟨b, off + j, none⟩ = some v) ∧ Hid (∀ (j : Nat) (v : Value), (uC u1)[j]? = some v → Q6.cell? ⟨b, off + 4 + j, none⟩ = some v) := ⟨A0.out _ BB.out, A1.out _ BB.out⟩
   refine hK.out _ _ ?_ (fun hHeld => ?_)
   ·exact hS
   clear hK K
   try simp only [Act.put]
   refine tk12 (v := ?_) (by kernel_rfl) (by kernel_rfl) (by kernel_rfl) (fun _ _ _ h => h) (Or.inl ⟨by first | rfl | (simp [Region.wanted, yielded]; done), ?_⟩) hS ?_
   rotate_left
   ·intro w' hSw; have s0 := hSw.1.out 0 _ rfl; rw [Nat.add_zero] at s0; clear hSw; go_simp; try with_reducible rfl
   simp only [Act.put, zA, zB, zC]
   refine wpAnyH_done (by kernel_rfl) ?_ _
   clear hS
   obtain ⟨r0, r1, r2, r3, -⟩ := box4 X4.out
   go_wp2_with fail
   exact bodyPost_ret (v := .tuple #[.agg (uC u0).toArray, .bool (!u0.f)]) (by simp [uC, results, Try.results57, go_sem, r0, r1, r2, r3]) rfl ⟨OpR.mk (by first | (rw [HOP.out]; simp; done) | rw [HOP.out]), BB.out⟩
set_option maxRecDepth 100000 in
set_option maxHeartbeats 8000000 in
theorem rop_ord (op : Int) (u0 u1 : U) (hop : op = 11 ∨ op = 12) (hS : SlR w p b off 2 4 ([u0, u1].map uC)) :
  Calls Try.prog 57 #[.int .i64 op, .slice p 2 c] w fun e w' => OpR (opU op [u0, u1]) e ∧ RowKit.Below w.heap.size w w' := by
 have hq := hS.ptr (by decide)
 subst hq
 have hlt := hS.lt (by decide)
 have ba := (Below.refl w.heap.size w).alloc (Nat.le_refl _) (.cells ([.bool false, .int .i64 0, .int .i64 0, .int .i64 0] : List Value).toArray 29)
 have X4 := Lib.hid (BoxL.new w [.bool false, .int .i64 0, .int .i64 0, .int .i64 0] 29)
 have BB := Lib.hid ba
 have A0 : Hid (∀ V, RowKit.Below w.heap.size w V → ∀ (j : Nat) (v : Value), (uC u0)[j]? = some v → V.cell? ⟨b, off + j, none⟩ = some v) := fun V hV j v hv => by have := ((hS.bel hV).at_ 0 _ rfl).2 j v hv; rwa [show off + 0 * 4 + j = off + j by omega] at this
 have A1 : Hid (∀ V, RowKit.Below w.heap.size w V → ∀ (j : Nat) (v : Value), (uC u1)[j]? = some v → V.cell? ⟨b, off + 4 + j, none⟩ = some v) := fun V hV j v hv => by have := ((hS.bel hV).at_ 1 _ rfl).2 j v hv; rwa [show off + 1 * 4 + j = off + 4 + j by omega] at this
 clear hS ba
 have HOP : Hid (opU op [u0, u1] = if (decide (u0 = u1) && !u0.f) = true then some uFlag else none) := by
  show _ = _
  rcases hop with rfl | rfl <;> simp [opU]
 obtain ⟨R, hR⟩ : ∃ R, R = opU op [u0, u1] := ⟨_, rfl⟩
 rw [← hR] at HOP ⊢
 clear hR
 obtain ⟨sm, hsm⟩ : ∃ sm, sm = decide (u0 = u1) := ⟨_, rfl⟩
 rw [← hsm] at HOP
 have HSM := Lib.hid hsm
 clear hsm
 rcases hop with rfl | rfl
 all_goals
  cases sm with
  | false =>
   go_enter Try.func57, Try.ntmps57
   go_wp2_with fail
   generalize w.alloc (.cells #[.bool false, .int .i64 0, .int .i64 0, .int .i64 0] 29) = V0 at *
   have hb := (Below.refl V0.heap.size V0).drew
   replace BB := Lib.hid (BB.out.trans (hb.mono BB.out.size))
   replace X4 := Lib.hid (X4.out.bel (by simp) hb)
   have hS : Hid (∀ (j : Nat) (v : Value), (uC u0)[j]? = some v → V0.drew.cell? ⟨b, off + j, none⟩ = some v) ∧ Hid (∀ (j : Nat) (v : Value), (uC u1)[j]? = some v → V0.drew.cell? ⟨b, off + 4 + j, none⟩ = some v) := ⟨A0.out _ BB.out, A1.out _ BB.out⟩
   refine wp_region_held (S := fun w' : World => Hid (∀ (j : Nat) (v : Value), (uC u0)[j]? = some v → w'.cell? ⟨b, off + j, none⟩ = some v) ∧ Hid (∀ (j : Nat) (v : Value), (uC u1)[j]? = some v → w'.cell? ⟨b, off + 4 + j, none⟩ = some v)) mixed ?_
   change wpAnyH _ _ _ _ _ _ _ _ V0.drew
   clear hb
   generalize V0.drew = D5 at *
   refine tk0 (v := ?_) (by kernel_rfl) (by kernel_rfl) (by kernel_rfl) (fun _ _ _ h => h) (Or.inl ⟨by first | rfl | (simp [Region.wanted, yielded]; done), ?_⟩) hS ?_
   rotate_left
   ·intro w' hSw; have s0 := hSw.1.out 0 _ rfl; rw [Nat.add_zero] at s0; clear hSw; go_simp; try with_reducible rfl
   simp only [Act.put, zA, zB, zC]
   refine tk1 (v := ?_) (by kernel_rfl) (by kernel_rfl) (by kernel_rfl) (fun _ _ _ h => h) (Or.inl ⟨by first | rfl | (simp [Region.wanted, yielded]; done), ?_⟩) hS ?_
   rotate_left
   ·intro w' hSw; have s0 := hSw.1.out 0 _ rfl; rw [Nat.add_zero] at s0; clear hSw; go_simp; try with_reducible rfl
   simp only [Act.put, zA, zB, zC]
   refine tk2 (v := .agg (uC u0).toArray) (by kernel_rfl) (by kernel_rfl) (by kernel_rfl) (fun _ _ _ h => h) (Or.inl ⟨by first | rfl | (simp [Region.wanted, yielded]; done), ?_⟩) hS ?_
   ·intro w' hSw
    exact ex_load rfl rfl (load_rowAt 29 4 (by kernel_rfl) (by kernel_rfl) _ _ _ (uC u0) rfl hSw.1.out)
   simp only [Act.put, zA, zB, zC]
   refine tk3 (v := ?_) (by kernel_rfl) (by kernel_rfl) (by kernel_rfl) (fun _ _ _ h => h) (Or.inl ⟨by first | rfl | (simp [Region.wanted, yielded]; done), ?_⟩) hS ?_
   rotate_left
   ·intro w' hSw; have s0 := hSw.1.out 0 _ rfl; rw [Nat.add_zero] at s0; clear hSw; go_simp; try with_reducible rfl
   simp only [Act.put, zA, zB, zC]
   refine tk4 (v := ?_) (by kernel_rfl) (by kernel_rfl) (by kernel_rfl) (fun _ _ _ h => h) (Or.inl ⟨by first | rfl | (simp [Region.wanted, yielded]; done), ?_⟩) hS ?_
   rotate_left
   ·intro w' hSw; have s0 := hSw.1.out 0 _ rfl; rw [Nat.add_zero] at s0; clear hSw; go_simp; try with_reducible rfl
   simp only [Act.put, zA, zB, zC]
   refine tk5 (v := .agg (uC u1).toArray) (by kernel_rfl) (by kernel_rfl) (by kernel_rfl) (fun _ _ _ h => h) (Or.inl ⟨by first | rfl | (simp [Region.wanted, yielded]; done), ?_⟩) hS ?_
   ·intro w' hSw
    exact ex_load rfl rfl (load_rowAt 29 4 (by kernel_rfl) (by kernel_rfl) _ _ _ (uC u1) rfl hSw.2.out)
   simp only [Act.put, zA, zB, zC]
   refine tk6 (v := .bool false) (by kernel_rfl) (by kernel_rfl) (by kernel_rfl) (fun _ _ _ h => h) (Or.inl ⟨by first | rfl | (simp [Region.wanted, yielded]; done), ?_⟩) hS ?_
   ·intro w' hSw
    refine (ex_eqU (u := u0) (v := u1) rfl rfl rfl _).trans ?_; rw [← HSM.out]
   simp only [Act.put, zA, zB, zC]
   refine tk7 (v := ?_) (by kernel_rfl) (by kernel_rfl) (by kernel_rfl) (fun _ _ _ h => h) (Or.inl ⟨by first | rfl | (simp [Region.wanted, yielded]; done), ?_⟩) hS ?_
   rotate_left
   ·intro w' hSw; have s0 := hSw.1.out 0 _ rfl; rw [Nat.add_zero] at s0; clear hSw; go_simp; try with_reducible rfl
   simp only [Act.put, zA, zB, zC]
   refine wpAnyH_done (by kernel_rfl) ?_ _
   clear hS
   go_wp2_with fail
   have hb := (Below.refl D5.heap.size D5).drew
   replace BB := Lib.hid (BB.out.trans (hb.mono BB.out.size))
   replace X4 := Lib.hid (X4.out.bel (by simp) hb)
   have hS : Hid (∀ (j : Nat) (v : Value), (uC u0)[j]? = some v → D5.drew.cell? ⟨b, off + j, none⟩ = some v) ∧ Hid (∀ (j : Nat) (v : Value), (uC u1)[j]? = some v → D5.drew.cell? ⟨b, off + 4 + j, none⟩ = some v) := ⟨A0.out _ BB.out, A1.out _ BB.out⟩
   refine wp_region_held (S := fun w' : World => Hid (∀ (j : Nat) (v : Value), (uC u0)[j]? = some v → w'.cell? ⟨b, off + j, none⟩ = some v) ∧ Hid (∀ (j : Nat) (v : Value), (uC u1)[j]? = some v → w'.cell? ⟨b, off + 4 + j, none⟩ = some v)) mixed ?_
   change wpAnyH _ _ _ _ _ _ _ _ D5.drew
   clear hb
   generalize D5.drew = D17 at *
   refine tk1 (v := ?_) (by kernel_rfl) (by kernel_rfl) (by kernel_rfl) (fun _ _ _ h => h) (Or.inl ⟨by first | rfl | (simp [Region.wanted, yielded]; done), ?_⟩) hS ?_
   rotate_left
   ·intro w' hSw; have s0 := hSw.1.out 0 _ rfl; rw [Nat.add_zero] at s0; clear hSw; go_simp; try with_reducible rfl
   simp only [Act.put, zA, zB, zC]
   refine wpAnyH_ready (rs := [0]) (by kernel_rfl) (by simp) (st0 (fun K hK => ?_) AllReadyH.nil)
   go_simp
   refine (rFlag_any _).mono ?_
   rintro _ Q7 ⟨rfl, hb⟩
   go_wp2_with fail
   replace BB := Lib.hid (BB.out.trans (hb.mono BB.out.size))
   replace X4 := Lib.hid (X4.out.bel (by simp) hb)
   have hS : Hid (∀ (j : Nat) (v : Value), (uC u0)[j]? = some v → Q7.cell? ⟨b, off + j, none⟩ = some v) ∧ Hid (∀ (j : Nat) (v : Value), (uC u1)[j]? = some v → Q7.cell? ⟨b, off + 4 + j, none⟩ = some v) := ⟨A0.out _ BB.out, A1.out _ BB.out⟩
   clear hb
   refine hK.out _ _ ?_ (fun hHeld => ?_)
   ·exact hS
   clear hK K
   try simp only [Act.put, zA, zB, zC]
   refine tk2 (v := ?_) (by kernel_rfl) (by kernel_rfl) (by kernel_rfl) (fun _ _ _ h => h) (Or.inl ⟨by first | rfl | (simp [Region.wanted, yielded]; done), ?_⟩) hS ?_
   rotate_left
   ·intro w' hSw; have s0 := hSw.1.out 0 _ rfl; rw [Nat.add_zero] at s0; clear hSw; go_simp; try with_reducible rfl
   simp only [Act.put, zA, zB, zC]
   refine tk3 (v := undef) (by kernel_rfl) (by kernel_rfl) (by kernel_rfl) (fun _ _ _ h => h) (Or.inr ⟨by rfl, rfl⟩) hS ?_
   simp only [Act.put, zA, zB, zC]
   refine tk4 (v := undef) (by kernel_rfl) (by kernel_rfl) (by kernel_rfl) (fun _ _ _ h => h) (Or.inr ⟨by rfl, rfl⟩) hS ?_
   simp only [Act.put, zA, zB, zC]
   refine tk5 (v := undef) (by kernel_rfl) (by kernel_rfl) (by kernel_rfl) (fun _ _ _ h => h) (Or.inr ⟨by rfl, rfl⟩) hS ?_
   simp only [Act.put, zA, zB, zC]
   refine tk6 (v := undef) (by kernel_rfl) (by kernel_rfl) (by kernel_rfl) (fun _ _ _ h => h) (Or.inr ⟨by rfl, rfl⟩) hS ?_
   simp only [Act.put, zA, zB, zC]
   refine tk7 (v := undef) (by kernel_rfl) (by kernel_rfl) (by kernel_rfl) (fun _ _ _ h => h) (Or.inr ⟨by rfl, rfl⟩) hS ?_
   simp only [Act.put, zA, zB, zC]
   refine tk8 (v := ?_) (by kernel_rfl) (by kernel_rfl) (by kernel_rfl) (fun _ _ _ h => h) (Or.inl ⟨by first | rfl | (simp [Region.wanted, yielded]; done), ?_⟩) hS ?_
   rotate_left
   ·intro w' hSw; have s0 := hSw.1.out 0 _ rfl; rw [Nat.add_zero] at s0; clear hSw; go_simp; try with_reducible rfl
   simp only [Act.put, zA, zB, zC]
   refine wpAnyH_ready (rs := [9]) (by kernel_rfl) (by simp) (st9 (fun K hK => ?_) AllReadyH.nil)
   refine (if_pos (by kernel_rfl)).mpr ?_
   refine wp_store rfl rfl rfl (store_row 29 4 (by kernel_rfl) Q7 w.heap.size [.bool false, .int .i64 0, .int .i64 0, .int .i64 0] (uC uFlag) X4.out rfl rfl (by simp [uC, Value.oneCell'])) ?_
   replace X4 := Lib.hid (X4.out.cells (L := uC uFlag) rfl)
   have hk := kept_setCells (b := w.heap.size) (w := Q7) (uC uFlag) 0 Q7 (Kept.refl _ _)
   replace BB := Lib.hid (below_kept BB.out hk (Nat.le_refl _))
   clear hk
   generalize Q7.setCells w.heap.size 0 (uC uFlag) = Q8 at *
   have hS : Hid (∀ (j : Nat) (v : Value), (uC u0)[j]? = some v → Q8.cell? ⟨b, off + j, none⟩ = some v) ∧ Hid (∀ (j : Nat) (v : Value), (uC u1)[j]? = some v → Q8.cell? ⟨b, off + 4 + j, none⟩ = some v) := ⟨A0.out _ BB.out, A1.out _ BB.out⟩
   refine hK.out _ _ ?_ (fun hHeld => ?_)
   ·exact hS
   clear hK K
   try simp only [Act.put]
   refine tk10 (v := ?_) (by kernel_rfl) (by kernel_rfl) (by kernel_rfl) (fun _ _ _ h => h) (Or.inl ⟨by first | rfl | (simp [Region.wanted, yielded]; done), ?_⟩) hS ?_
   rotate_left
   ·intro w' hSw; have s0 := hSw.1.out 0 _ rfl; rw [Nat.add_zero] at s0; clear hSw; go_simp; try with_reducible rfl
   simp only [Act.put, zA, zB, zC]
   refine wpAnyH_done (by kernel_rfl) ?_ _
   clear hS
   obtain ⟨r0, r1, r2, r3, -⟩ := box4 X4.out
   go_wp2_with fail
   exact bodyPost_ret (v := .tuple #[.agg (uC uFlag).toArray, .bool false]) (by simp [uC, results, Try.results57, go_sem, r0, r1, r2, r3]) rfl ⟨OpR.mk (by first | (rw [HOP.out]; simp; done) | rw [HOP.out]), BB.out⟩
  | true =>
   go_enter Try.func57, Try.ntmps57
   go_wp2_with fail
   generalize w.alloc (.cells #[.bool false, .int .i64 0, .int .i64 0, .int .i64 0] 29) = V0 at *
   have hb := (Below.refl V0.heap.size V0).drew
   replace BB := Lib.hid (BB.out.trans (hb.mono BB.out.size))
   replace X4 := Lib.hid (X4.out.bel (by simp) hb)
   have hS : Hid (∀ (j : Nat) (v : Value), (uC u0)[j]? = some v → V0.drew.cell? ⟨b, off + j, none⟩ = some v) ∧ Hid (∀ (j : Nat) (v : Value), (uC u1)[j]? = some v → V0.drew.cell? ⟨b, off + 4 + j, none⟩ = some v) := ⟨A0.out _ BB.out, A1.out _ BB.out⟩
   refine wp_region_held (S := fun w' : World => Hid (∀ (j : Nat) (v : Value), (uC u0)[j]? = some v → w'.cell? ⟨b, off + j, none⟩ = some v) ∧ Hid (∀ (j : Nat) (v : Value), (uC u1)[j]? = some v → w'.cell? ⟨b, off + 4 + j, none⟩ = some v)) mixed ?_
   change wpAnyH _ _ _ _ _ _ _ _ V0.drew
   clear hb
   generalize V0.drew = D5 at *
   refine tk0 (v := ?_) (by kernel_rfl) (by kernel_rfl) (by kernel_rfl) (fun _ _ _ h => h) (Or.inl ⟨by first | rfl | (simp [Region.wanted, yielded]; done), ?_⟩) hS ?_
   rotate_left
   ·intro w' hSw; have s0 := hSw.1.out 0 _ rfl; rw [Nat.add_zero] at s0; clear hSw; go_simp; try with_reducible rfl
   simp only [Act.put, zA, zB, zC]
   refine tk1 (v := ?_) (by kernel_rfl) (by kernel_rfl) (by kernel_rfl) (fun _ _ _ h => h) (Or.inl ⟨by first | rfl | (simp [Region.wanted, yielded]; done), ?_⟩) hS ?_
   rotate_left
   ·intro w' hSw; have s0 := hSw.1.out 0 _ rfl; rw [Nat.add_zero] at s0; clear hSw; go_simp; try with_reducible rfl
   simp only [Act.put, zA, zB, zC]
   refine tk2 (v := .agg (uC u0).toArray) (by kernel_rfl) (by kernel_rfl) (by kernel_rfl) (fun _ _ _ h => h) (Or.inl ⟨by first | rfl | (simp [Region.wanted, yielded]; done), ?_⟩) hS ?_
   ·intro w' hSw
    exact ex_load rfl rfl (load_rowAt 29 4 (by kernel_rfl) (by kernel_rfl) _ _ _ (uC u0) rfl hSw.1.out)
   simp only [Act.put, zA, zB, zC]
   refine tk3 (v := ?_) (by kernel_rfl) (by kernel_rfl) (by kernel_rfl) (fun _ _ _ h => h) (Or.inl ⟨by first | rfl | (simp [Region.wanted, yielded]; done), ?_⟩) hS ?_
   rotate_left
   ·intro w' hSw; have s0 := hSw.1.out 0 _ rfl; rw [Nat.add_zero] at s0; clear hSw; go_simp; try with_reducible rfl
   simp only [Act.put, zA, zB, zC]
   refine tk4 (v := ?_) (by kernel_rfl) (by kernel_rfl) (by kernel_rfl) (fun _ _ _ h => h) (Or.inl ⟨by first | rfl | (simp [Region.wanted, yielded]; done), ?_⟩) hS ?_
   rotate_left
   ·intro w' hSw; have s0 := hSw.1.out 0 _ rfl; rw [Nat.add_zero] at s0; clear hSw; go_simp; try with_reducible rfl
   simp only [Act.put, zA, zB, zC]
   refine tk5 (v := .agg (uC u1).toArray) (by kernel_rfl) (by kernel_rfl) (by kernel_rfl) (fun _ _ _ h => h) (Or.inl ⟨by first | rfl | (simp [Region.wanted, yielded]; done), ?_⟩) hS ?_
   ·intro w' hSw
    exact ex_load rfl rfl (load_rowAt 29 4 (by kernel_rfl) (by kernel_rfl) _ _ _ (uC u1) rfl hSw.2.out)
   simp only [Act.put, zA, zB, zC]
   refine tk6 (v := .bool true) (by kernel_rfl) (by kernel_rfl) (by kernel_rfl) (fun _ _ _ h => h) (Or.inl ⟨by first | rfl | (simp [Region.wanted, yielded]; done), ?_⟩) hS ?_
   ·intro w' hSw
    refine (ex_eqU (u := u0) (v := u1) rfl rfl rfl _).trans ?_; rw [← HSM.out]
   simp only [Act.put, zA, zB, zC]
   refine tk7 (v := ?_) (by kernel_rfl) (by kernel_rfl) (by kernel_rfl) (fun _ _ _ h => h) (Or.inl ⟨by first | rfl | (simp [Region.wanted, yielded]; done), ?_⟩) hS ?_
   rotate_left
   ·intro w' hSw; have s0 := hSw.1.out 0 _ rfl; rw [Nat.add_zero] at s0; clear hSw; go_simp; try with_reducible rfl
   simp only [Act.put, zA, zB, zC]
   refine wpAnyH_done (by kernel_rfl) ?_ _
   clear hS
   go_wp2_with fail
   have hb := (Below.refl D5.heap.size D5).drew
   replace BB := Lib.hid (BB.out.trans (hb.mono BB.out.size))
   replace X4 := Lib.hid (X4.out.bel (by simp) hb)
   have hS : Hid (∀ (j : Nat) (v : Value), (uC u0)[j]? = some v → D5.drew.cell? ⟨b, off + j, none⟩ = some v) ∧ Hid (∀ (j : Nat) (v : Value), (uC u1)[j]? = some v → D5.drew.cell? ⟨b, off + 4 + j, none⟩ = some v) := ⟨A0.out _ BB.out, A1.out _ BB.out⟩
   refine wp_region_held (S := fun w' : World => Hid (∀ (j : Nat) (v : Value), (uC u0)[j]? = some v → w'.cell? ⟨b, off + j, none⟩ = some v) ∧ Hid (∀ (j : Nat) (v : Value), (uC u1)[j]? = some v → w'.cell? ⟨b, off + 4 + j, none⟩ = some v)) mixed ?_
   change wpAnyH _ _ _ _ _ _ _ _ D5.drew
   clear hb
   generalize D5.drew = D17 at *
   refine tk1 (v := ?_) (by kernel_rfl) (by kernel_rfl) (by kernel_rfl) (fun _ _ _ h => h) (Or.inl ⟨by first | rfl | (simp [Region.wanted, yielded]; done), ?_⟩) hS ?_
   rotate_left
   ·intro w' hSw; have s0 := hSw.1.out 0 _ rfl; rw [Nat.add_zero] at s0; clear hSw; go_simp; try with_reducible rfl
   simp only [Act.put, zA, zB, zC]
   refine wpAnyH_ready (rs := [0]) (by kernel_rfl) (by simp) (st0 (fun K hK => ?_) AllReadyH.nil)
   go_simp
   refine (rFlag_any _).mono ?_
   rintro _ Q9 ⟨rfl, hb⟩
   go_wp2_with fail
   replace BB := Lib.hid (BB.out.trans (hb.mono BB.out.size))
   replace X4 := Lib.hid (X4.out.bel (by simp) hb)
   have hS : Hid (∀ (j : Nat) (v : Value), (uC u0)[j]? = some v → Q9.cell? ⟨b, off + j, none⟩ = some v) ∧ Hid (∀ (j : Nat) (v : Value), (uC u1)[j]? = some v → Q9.cell? ⟨b, off + 4 + j, none⟩ = some v) := ⟨A0.out _ BB.out, A1.out _ BB.out⟩
   clear hb
   refine hK.out _ _ ?_ (fun hHeld => ?_)
   ·exact hS
   clear hK K
   try simp only [Act.put, zA, zB, zC]
   refine tk2 (v := ?_) (by kernel_rfl) (by kernel_rfl) (by kernel_rfl) (fun _ _ _ h => h) (Or.inl ⟨by first | rfl | (simp [Region.wanted, yielded]; done), ?_⟩) hS ?_
   rotate_left
   ·intro w' hSw; have s0 := hSw.1.out 0 _ rfl; rw [Nat.add_zero] at s0; clear hSw; go_simp; try with_reducible rfl
   simp only [Act.put, zA, zB, zC]
   refine tk3 (v := ?_) (by kernel_rfl) (by kernel_rfl) (by kernel_rfl) (fun _ _ _ h => h) (Or.inl ⟨by first | rfl | (simp [Region.wanted, yielded]; done), ?_⟩) hS ?_
   rotate_left
   ·intro w' hSw; have s0 := hSw.1.out 0 _ rfl; rw [Nat.add_zero] at s0; clear hSw; go_simp; try with_reducible rfl
   simp only [Act.put, zA, zB, zC]
   refine tk4 (v := ?_) (by kernel_rfl) (by kernel_rfl) (by kernel_rfl) (fun _ _ _ h => h) (Or.inl ⟨by first | rfl | (simp [Region.wanted, yielded]; done), ?_⟩) hS ?_
   rotate_left
   ·intro w' hSw; have s0 := hSw.1.out 0 _ rfl; rw [Nat.add_zero] at s0; clear hSw; go_simp; try with_reducible rfl
   simp only [Act.put, zA, zB, zC]
   refine tk5 (v := ?_) (by kernel_rfl) (by kernel_rfl) (by kernel_rfl) (fun _ _ _ h => h) (Or.inl ⟨by first | rfl | (simp [Region.wanted, yielded]; done), ?_⟩) hS ?_
   rotate_left
   ·intro w' hSw; have s0 := hSw.1.out 0 _ rfl; rw [Nat.add_zero] at s0; clear hSw; go_simp; try with_reducible rfl
   simp only [Act.put, zA, zB, zC]
   refine tk6 (v := ?_) (by kernel_rfl) (by kernel_rfl) (by kernel_rfl) (fun _ _ _ h => h) (Or.inl ⟨by first | rfl | (simp [Region.wanted, yielded]; done), ?_⟩) hS ?_
   rotate_left
   ·intro w' hSw; have s0 := hSw.1.out 0 _ rfl; rw [Nat.add_zero] at s0; clear hSw; go_simp; try with_reducible rfl
   simp only [Act.put, zA, zB, zC]
   refine tk7 (v := ?_) (by kernel_rfl) (by kernel_rfl) (by kernel_rfl) (fun _ _ _ h => h) (Or.inl ⟨by first | rfl | (simp [Region.wanted, yielded]; done), ?_⟩) hS ?_
   rotate_left
   ·intro w' hSw; have s0 := hSw.1.out 0 _ rfl; rw [Nat.add_zero] at s0; clear hSw; go_simp; try with_reducible rfl
   simp only [Act.put, zA, zB, zC]
   refine tk8 (v := ?_) (by kernel_rfl) (by kernel_rfl) (by kernel_rfl) (fun _ _ _ h => h) (Or.inl ⟨by first | rfl | (simp [Region.wanted, yielded]; done), ?_⟩) hS ?_
   rotate_left
   ·intro w' hSw; have s0 := hSw.1.out 0 _ rfl; rw [Nat.add_zero] at s0; clear hSw; go_simp; try with_reducible rfl
   simp only [Act.put, zA, zB, zC]
   refine wpAnyH_ready (rs := [9]) (by kernel_rfl) (by simp) (st9 (fun K hK => ?_) AllReadyH.nil)
   refine (if_pos (by kernel_rfl)).mpr ?_
   refine wp_store rfl rfl rfl (store_row 29 4 (by kernel_rfl) Q9 w.heap.size [.bool false, .int .i64 0, .int .i64 0, .int .i64 0] (uC uFlag) X4.out rfl rfl (by simp [uC, Value.oneCell'])) ?_
   replace X4 := Lib.hid (X4.out.cells (L := uC uFlag) rfl)
   have hk := kept_setCells (b := w.heap.size) (w := Q9) (uC uFlag) 0 Q9 (Kept.refl _ _)
   replace BB := Lib.hid (below_kept BB.out hk (Nat.le_refl _))
   clear hk
   generalize Q9.setCells w.heap.size 0 (uC uFlag) = Q10 at *
   have hS : Hid (∀ (j : Nat) (v : Value), (uC u0)[j]? = some v → Q10.cell? ⟨b, off + j, none⟩ = some v) ∧ Hid (∀ (j : Nat) (v : Value), (uC u1)[j]? = some v → Q10.cell? ⟨b, off + 4 + j, none⟩ = some v) := ⟨A0.out _ BB.out, A1.out _ BB.out⟩
   refine hK.out _ _ ?_ (fun hHeld => ?_)
   ·exact hS
   clear hK K
   try simp only [Act.put]
   refine tk10 (v := ?_) (by kernel_rfl) (by kernel_rfl) (by kernel_rfl) (fun _ _ _ h => h) (Or.inl ⟨by first | rfl | (simp [Region.wanted, yielded]; done), ?_⟩) hS ?_
   rotate_left
   ·intro w' hSw; have s0 := hSw.1.out 0 _ rfl; rw [Nat.add_zero] at s0; clear hSw; go_simp; try with_reducible rfl
   simp only [Act.put, zA, zB, zC]
   refine wpAnyH_done (by kernel_rfl) ?_ _
   clear hS
   obtain ⟨r0, r1, r2, r3, -⟩ := box4 X4.out
   go_wp2_with fail
   exact bodyPost_ret (v := .tuple #[.agg (uC uFlag).toArray, .bool (!u0.f)]) (by simp [uC, results, Try.results57, go_sem, r0, r1, r2, r3]) rfl ⟨OpR.mk (by first | (rw [HOP.out]; simp; done) | rw [HOP.out]), BB.out⟩
set_option maxRecDepth 100000 in
set_option maxHeartbeats 8000000 in
theorem rop_and (op : Int) (u0 u1 : U) (hop : op = 13 ∨ op = 14) (g0 : good u0 = true) (g1 : good u1 = true) (hS : SlR w p b off 2 4 ([u0, u1].map uC)) :
  Calls Try.prog 57 #[.int .i64 op, .slice p 2 c] w fun e w' => OpR (opU op [u0, u1]) e ∧ RowKit.Below w.heap.size w w' := by
 have hq := hS.ptr (by decide)
 subst hq
 have hlt := hS.lt (by decide)
 have ba := (Below.refl w.heap.size w).alloc (Nat.le_refl _) (.cells ([.bool false, .int .i64 0, .int .i64 0, .int .i64 0] : List Value).toArray 29)
 have X4 := Lib.hid (BoxL.new w [.bool false, .int .i64 0, .int .i64 0, .int .i64 0] 29)
 have BB := Lib.hid ba
 have A0 : Hid (∀ V, RowKit.Below w.heap.size w V → ∀ (j : Nat) (v : Value), (uC u0)[j]? = some v → V.cell? ⟨b, off + j, none⟩ = some v) := fun V hV j v hv => by have := ((hS.bel hV).at_ 0 _ rfl).2 j v hv; rwa [show off + 0 * 4 + j = off + j by omega] at this
 have A1 : Hid (∀ V, RowKit.Below w.heap.size w V → ∀ (j : Nat) (v : Value), (uC u1)[j]? = some v → V.cell? ⟨b, off + 4 + j, none⟩ = some v) := fun V hV j v hv => by have := ((hS.bel hV).at_ 1 _ rfl).2 j v hv; rwa [show off + 1 * 4 + j = off + 4 + j by omega] at this
 clear hS ba
 have e0 : (u0.f = true ∧ u1.f = true) ↔ (u0 = u1 ∧ u0.f = true) := ⟨fun h => ⟨by rw [good_flag g0 h.1, good_flag g1 h.2], h.1⟩, fun h => ⟨h.2, by rw [← h.1]; exact h.2⟩⟩
 clear g0 g1
 have HOP : Hid (opU op [u0, u1] = if (decide (u0 = u1) && u0.f) = true then some uFlag else none) := by
  show _ = _
  rcases hop with rfl | rfl <;> simp [opU, e0]
 obtain ⟨R, hR⟩ : ∃ R, R = opU op [u0, u1] := ⟨_, rfl⟩
 rw [← hR] at HOP ⊢
 clear hR e0
 obtain ⟨sm, hsm⟩ : ∃ sm, sm = decide (u0 = u1) := ⟨_, rfl⟩
 rw [← hsm] at HOP
 have HSM := Lib.hid hsm
 clear hsm
 rcases hop with rfl | rfl
 all_goals
  cases sm with
  | false =>
   go_enter Try.func57, Try.ntmps57
   go_wp2_with fail
   generalize w.alloc (.cells #[.bool false, .int .i64 0, .int .i64 0, .int .i64 0] 29) = V0 at *
   have hb := (Below.refl V0.heap.size V0).drew
   replace BB := Lib.hid (BB.out.trans (hb.mono BB.out.size))
   replace X4 := Lib.hid (X4.out.bel (by simp) hb)
   have hS : Hid (∀ (j : Nat) (v : Value), (uC u0)[j]? = some v → V0.drew.cell? ⟨b, off + j, none⟩ = some v) ∧ Hid (∀ (j : Nat) (v : Value), (uC u1)[j]? = some v → V0.drew.cell? ⟨b, off + 4 + j, none⟩ = some v) := ⟨A0.out _ BB.out, A1.out _ BB.out⟩
   refine wp_region_held (S := fun w' : World => Hid (∀ (j : Nat) (v : Value), (uC u0)[j]? = some v → w'.cell? ⟨b, off + j, none⟩ = some v) ∧ Hid (∀ (j : Nat) (v : Value), (uC u1)[j]? = some v → w'.cell? ⟨b, off + 4 + j, none⟩ = some v)) mixed ?_
   change wpAnyH _ _ _ _ _ _ _ _ V0.drew
   clear hb
   generalize V0.drew = D5 at *
   refine tk0 (v := ?_) (by kernel_rfl) (by kernel_rfl) (by kernel_rfl) (fun _ _ _ h => h) (Or.inl ⟨by first | rfl | (simp [Region.wanted, yielded]; done), ?_⟩) hS ?_
   rotate_left
   ·intro w' hSw; have s0 := hSw.1.out 0 _ rfl; rw [Nat.add_zero] at s0; clear hSw; go_simp; try with_reducible rfl
   simp only [Act.put, zA, zB, zC]
   refine tk1 (v := ?_) (by kernel_rfl) (by kernel_rfl) (by kernel_rfl) (fun _ _ _ h => h) (Or.inl ⟨by first | rfl | (simp [Region.wanted, yielded]; done), ?_⟩) hS ?_
   rotate_left
   ·intro w' hSw; have s0 := hSw.1.out 0 _ rfl; rw [Nat.add_zero] at s0; clear hSw; go_simp; try with_reducible rfl
   simp only [Act.put, zA, zB, zC]
   refine tk2 (v := .agg (uC u0).toArray) (by kernel_rfl) (by kernel_rfl) (by kernel_rfl) (fun _ _ _ h => h) (Or.inl ⟨by first | rfl | (simp [Region.wanted, yielded]; done), ?_⟩) hS ?_
   ·intro w' hSw
    exact ex_load rfl rfl (load_rowAt 29 4 (by kernel_rfl) (by kernel_rfl) _ _ _ (uC u0) rfl hSw.1.out)
   simp only [Act.put, zA, zB, zC]
   refine tk3 (v := ?_) (by kernel_rfl) (by kernel_rfl) (by kernel_rfl) (fun _ _ _ h => h) (Or.inl ⟨by first | rfl | (simp [Region.wanted, yielded]; done), ?_⟩) hS ?_
   rotate_left
   ·intro w' hSw; have s0 := hSw.1.out 0 _ rfl; rw [Nat.add_zero] at s0; clear hSw; go_simp; try with_reducible rfl
   simp only [Act.put, zA, zB, zC]
   refine tk4 (v := ?_) (by kernel_rfl) (by kernel_rfl) (by kernel_rfl) (fun _ _ _ h => h) (Or.inl ⟨by first | rfl | (simp [Region.wanted, yielded]; done), ?_⟩) hS ?_
   rotate_left
   ·intro w' hSw; have s0 := hSw.1.out 0 _ rfl; rw [Nat.add_zero] at s0; clear hSw; go_simp; try with_reducible rfl
   simp only [Act.put, zA, zB, zC]
   refine tk5 (v := .agg (uC u1).toArray) (by kernel_rfl) (by kernel_rfl) (by kernel_rfl) (fun _ _ _ h => h) (Or.inl ⟨by first | rfl | (simp [Region.wanted, yielded]; done), ?_⟩) hS ?_
   ·intro w' hSw
    exact ex_load rfl rfl (load_rowAt 29 4 (by kernel_rfl) (by kernel_rfl) _ _ _ (uC u1) rfl hSw.2.out)
   simp only [Act.put, zA, zB, zC]
   refine tk6 (v := .bool false) (by kernel_rfl) (by kernel_rfl) (by kernel_rfl) (fun _ _ _ h => h) (Or.inl ⟨by first | rfl | (simp [Region.wanted, yielded]; done), ?_⟩) hS ?_
   ·intro w' hSw
    refine (ex_eqU (u := u0) (v := u1) rfl rfl rfl _).trans ?_; rw [← HSM.out]
   simp only [Act.put, zA, zB, zC]
   refine tk7 (v := ?_) (by kernel_rfl) (by kernel_rfl) (by kernel_rfl) (fun _ _ _ h => h) (Or.inl ⟨by first | rfl | (simp [Region.wanted, yielded]; done), ?_⟩) hS ?_
   rotate_left
   ·intro w' hSw; have s0 := hSw.1.out 0 _ rfl; rw [Nat.add_zero] at s0; clear hSw; go_simp; try with_reducible rfl
   simp only [Act.put, zA, zB, zC]
   refine wpAnyH_done (by kernel_rfl) ?_ _
   clear hS
   go_wp2_with fail
   have hb := (Below.refl D5.heap.size D5).drew
   replace BB := Lib.hid (BB.out.trans (hb.mono BB.out.size))
   replace X4 := Lib.hid (X4.out.bel (by simp) hb)
   have hS : Hid (∀ (j : Nat) (v : Value), (uC u0)[j]? = some v → D5.drew.cell? ⟨b, off + j, none⟩ = some v) ∧ Hid (∀ (j : Nat) (v : Value), (uC u1)[j]? = some v → D5.drew.cell? ⟨b, off + 4 + j, none⟩ = some v) := ⟨A0.out _ BB.out, A1.out _ BB.out⟩
   refine wp_region_held (S := fun w' : World => Hid (∀ (j : Nat) (v : Value), (uC u0)[j]? = some v → w'.cell? ⟨b, off + j, none⟩ = some v) ∧ Hid (∀ (j : Nat) (v : Value), (uC u1)[j]? = some v → w'.cell? ⟨b, off + 4 + j, none⟩ = some v)) mixed ?_
   change wpAnyH _ _ _ _ _ _ _ _ D5.drew
   clear hb
   generalize D5.drew = D18 at *
   refine tk1 (v := ?_) (by kernel_rfl) (by kernel_rfl) (by kernel_rfl) (fun _ _ _ h => h) (Or.inl ⟨by first | rfl | (simp [Region.wanted, yielded]; done), ?_⟩) hS ?_
   rotate_left
   ·intro w' hSw; have s0 := hSw.1.out 0 _ rfl; rw [Nat.add_zero] at s0; clear hSw; go_simp; try with_reducible rfl
   simp only [Act.put, zA, zB, zC]
   refine wpAnyH_ready (rs := [0]) (by kernel_rfl) (by simp) (st0 (fun K hK => ?_) AllReadyH.nil)
   go_simp
   refine (rFlag_any _).mono ?_
   rintro _ Q11 ⟨rfl, hb⟩
   go_wp2_with fail
   replace BB := Lib.hid (BB.out.trans (hb.mono BB.out.size))
   replace X4 := Lib.hid (X4.out.bel (by simp) hb)
   have hS : Hid (∀ (j : Nat) (v : Value), (uC u0)[j]? = some v → Q11.cell? ⟨b, off + j, none⟩ = some v) ∧ Hid (∀ (j : Nat) (v : Value), (uC u1)[j]? = some v → Q11.cell? ⟨b, off + 4 + j, none⟩ = some v) := ⟨A0.out _ BB.out, A1.out _ BB.out⟩
   clear hb
   refine hK.out _ _ ?_ (fun hHeld => ?_)
   ·exact hS
   clear hK K
   try simp only [Act.put, zA, zB, zC]
   refine tk2 (v := ?_) (by kernel_rfl) (by kernel_rfl) (by kernel_rfl) (fun _ _ _ h => h) (Or.inl ⟨by first | rfl | (simp [Region.wanted, yielded]; done), ?_⟩) hS ?_
   rotate_left
   ·intro w' hSw; have s0 := hSw.1.out 0 _ rfl; rw [Nat.add_zero] at s0; clear hSw; go_simp; try with_reducible rfl
   simp only [Act.put, zA, zB, zC]
   refine tk3 (v := undef) (by kernel_rfl) (by kernel_rfl) (by kernel_rfl) (fun _ _ _ h => h) (Or.inr ⟨by rfl, rfl⟩) hS ?_
   simp only [Act.put, zA, zB, zC]
   refine tk4 (v := undef) (by kernel_rfl) (by kernel_rfl) (by kernel_rfl) (fun _ _ _ h => h) (Or.inr ⟨by rfl, rfl⟩) hS ?_
   simp only [Act.put, zA, zB, zC]
   refine tk5 (v := undef) (by kernel_rfl) (by kernel_rfl) (by kernel_rfl) (fun _ _ _ h => h) (Or.inr ⟨by rfl, rfl⟩) hS ?_
   simp only [Act.put, zA, zB, zC]
   refine tk6 (v := undef) (by kernel_rfl) (by kernel_rfl) (by kernel_rfl) (fun _ _ _ h => h) (Or.inr ⟨by rfl, rfl⟩) hS ?_
   simp only [Act.put, zA, zB, zC]
   refine tk7 (v := ?_) (by kernel_rfl) (by kernel_rfl) (by kernel_rfl) (fun _ _ _ h => h) (Or.inl ⟨by first | rfl | (simp [Region.wanted, yielded]; done), ?_⟩) hS ?_
   rotate_left
   ·intro w' hSw; have s0 := hSw.1.out 0 _ rfl; rw [Nat.add_zero] at s0; clear hSw; go_simp; try with_reducible rfl
   simp only [Act.put, zA, zB, zC]
   refine wpAnyH_ready (rs := [8]) (by kernel_rfl) (by simp) (st8 (fun K hK => ?_) AllReadyH.nil)
   refine (if_pos (by kernel_rfl)).mpr ?_
   refine wp_store rfl rfl rfl (store_row 29 4 (by kernel_rfl) Q11 w.heap.size [.bool false, .int .i64 0, .int .i64 0, .int .i64 0] (uC uFlag) X4.out rfl rfl (by simp [uC, Value.oneCell'])) ?_
   replace X4 := Lib.hid (X4.out.cells (L := uC uFlag) rfl)
   have hk := kept_setCells (b := w.heap.size) (w := Q11) (uC uFlag) 0 Q11 (Kept.refl _ _)
   replace BB := Lib.hid (below_kept BB.out hk (Nat.le_refl _))
   clear hk
   generalize Q11.setCells w.heap.size 0 (uC uFlag) = Q12 at *
   have hS : Hid (∀ (j : Nat) (v : Value), (uC u0)[j]? = some v → Q12.cell? ⟨b, off + j, none⟩ = some v) ∧ Hid (∀ (j : Nat) (v : Value), (uC u1)[j]? = some v → Q12.cell? ⟨b, off + 4 + j, none⟩ = some v) := ⟨A0.out _ BB.out, A1.out _ BB.out⟩
   refine hK.out _ _ ?_ (fun hHeld => ?_)
   ·exact hS
   clear hK K
   try simp only [Act.put]
   refine tk9 (v := ?_) (by kernel_rfl) (by kernel_rfl) (by kernel_rfl) (fun _ _ _ h => h) (Or.inl ⟨by first | rfl | (simp [Region.wanted, yielded]; done), ?_⟩) hS ?_
   rotate_left
   ·intro w' hSw; have s0 := hSw.1.out 0 _ rfl; rw [Nat.add_zero] at s0; clear hSw; go_simp; try with_reducible rfl
   simp only [Act.put, zA, zB, zC]
   refine wpAnyH_done (by kernel_rfl) ?_ _
   clear hS
   obtain ⟨r0, r1, r2, r3, -⟩ := box4 X4.out
   go_wp2_with fail
   exact bodyPost_ret (v := .tuple #[.agg (uC uFlag).toArray, .bool false]) (by simp [uC, results, Try.results57, go_sem, r0, r1, r2, r3]) rfl ⟨OpR.mk (by first | (rw [HOP.out]; simp; done) | rw [HOP.out]), BB.out⟩
  | true =>
   go_enter Try.func57, Try.ntmps57
   go_wp2_with fail
   generalize w.alloc (.cells #[.bool false, .int .i64 0, .int .i64 0, .int .i64 0] 29) = V0 at *
   have hb := (Below.refl V0.heap.size V0).drew
   replace BB := Lib.hid (BB.out.trans (hb.mono BB.out.size))
   replace X4 := Lib.hid (X4.out.bel (by simp) hb)
   have hS : Hid (∀ (j : Nat) (v : Value), (uC u0)[j]? = some v → V0.drew.cell? ⟨b, off + j, none⟩ = some v) ∧ Hid (∀ (j : Nat) (v : Value), (uC u1)[j]? = some v → V0.drew.cell? ⟨b, off + 4 + j, none⟩ = some v) := ⟨A0.out _ BB.out, A1.out _ BB.out⟩
   refine wp_region_held (S := fun w' : World => Hid (∀ (j : Nat) (v : Value), (uC u0)[j]? = some v → w'.cell? ⟨b, off + j, none⟩ = some v) ∧ Hid (∀ (j : Nat) (v : Value), (uC u1)[j]? = some v → w'.cell? ⟨b, off + 4 + j, none⟩ = some v)) mixed ?_
   change wpAnyH _ _ _ _ _ _ _ _ V0.drew
   clear hb
   generalize V0.drew = D5 at *
   refine tk0 (v := ?_) (by kernel_rfl) (by kernel_rfl) (by kernel_rfl) (fun _ _ _ h => h) (Or.inl ⟨by first | rfl | (simp [Region.wanted, yielded]; done), ?_⟩) hS ?_
   rotate_left
   ·intro w' hSw; have s0 := hSw.1.out 0 _ rfl; rw [Nat.add_zero] at s0; clear hSw; go_simp; try with_reducible rfl
   simp only [Act.put, zA, zB, zC]
   refine tk1 (v := ?_) (by kernel_rfl) (by kernel_rfl) (by kernel_rfl) (fun _ _ _ h => h) (Or.inl ⟨by first | rfl | (simp [Region.wanted, yielded]; done), ?_⟩) hS ?_
   rotate_left
   ·intro w' hSw; have s0 := hSw.1.out 0 _ rfl; rw [Nat.add_zero] at s0; clear hSw; go_simp; try with_reducible rfl
   simp only [Act.put, zA, zB, zC]
   refine tk2 (v := .agg (uC u0).toArray) (by kernel_rfl) (by kernel_rfl) (by kernel_rfl) (fun _ _ _ h => h) (Or.inl ⟨by first | rfl | (simp [Region.wanted, yielded]; done), ?_⟩) hS ?_
   ·intro w' hSw
    exact ex_load rfl rfl (load_rowAt 29 4 (by kernel_rfl) (by kernel_rfl) _ _ _ (uC u0) rfl hSw.1.out)
   simp only [Act.put, zA, zB, zC]
   refine tk3 (v := ?_) (by kernel_rfl) (by kernel_rfl) (by kernel_rfl) (fun _ _ _ h => h) (Or.inl ⟨by first | rfl | (simp [Region.wanted, yielded]; done), ?_⟩) hS ?_
   rotate_left
   ·intro w' hSw; have s0 := hSw.1.out 0 _ rfl; rw [Nat.add_zero] at s0; clear hSw; go_simp; try with_reducible rfl
   simp only [Act.put, zA, zB, zC]
   refine tk4 (v := ?_) (by kernel_rfl) (by kernel_rfl) (by kernel_rfl) (fun _ _ _ h => h) (Or.inl ⟨by first | rfl | (simp [Region.wanted, yielded]; done), ?_⟩) hS ?_
   rotate_left
   ·intro w' hSw; have s0 := hSw.1.out 0 _ rfl; rw [Nat.add_zero] at s0; clear hSw; go_simp; try with_reducible rfl
   simp only [Act.put, zA, zB, zC]
   refine tk5 (v := .agg (uC u1).toArray) (by kernel_rfl) (by kernel_rfl) (by kernel_rfl) (fun _ _ _ h => h) (Or.inl ⟨by first | rfl | (simp [Region.wanted, yielded]; done), ?_⟩) hS ?_
   ·intro w' hSw
    exact ex_load rfl rfl (load_rowAt 29 4 (by kernel_rfl) (by kernel_rfl) _ _ _ (uC u1) rfl hSw.2.out)
   simp only [Act.put, zA, zB, zC]
   refine tk6 (v := .bool true) (by kernel_rfl) (by kernel_rfl) (by kernel_rfl) (fun _ _ _ h => h) (Or.inl ⟨by first | rfl | (simp [Region.wanted, yielded]; done), ?_⟩) hS ?_
   ·intro w' hSw
    refine (ex_eqU (u := u0) (v := u1) rfl rfl rfl _).trans ?_; rw [← HSM.out]
   simp only [Act.put, zA, zB, zC]
   refine tk7 (v := ?_) (by kernel_rfl) (by kernel_rfl) (by kernel_rfl) (fun _ _ _ h => h) (Or.inl ⟨by first | rfl | (simp [Region.wanted, yielded]; done), ?_⟩) hS ?_
   rotate_left
   ·intro w' hSw; have s0 := hSw.1.out 0 _ rfl; rw [Nat.add_zero] at s0; clear hSw; go_simp; try with_reducible rfl
   simp only [Act.put, zA, zB, zC]
   refine wpAnyH_done (by kernel_rfl) ?_ _
   clear hS
   go_wp2_with fail
   have hb := (Below.refl D5.heap.size D5).drew
   replace BB := Lib.hid (BB.out.trans (hb.mono BB.out.size))
   replace X4 := Lib.hid (X4.out.bel (by simp) hb)
   have hS : Hid (∀ (j : Nat) (v : Value), (uC u0)[j]? = some v → D5.drew.cell? ⟨b, off + j, none⟩ = some v) ∧ Hid (∀ (j : Nat) (v : Value), (uC u1)[j]? = some v → D5.drew.cell? ⟨b, off + 4 + j, none⟩ = some v) := ⟨A0.out _ BB.out, A1.out _ BB.out⟩
   refine wp_region_held (S := fun w' : World => Hid (∀ (j : Nat) (v : Value), (uC u0)[j]? = some v → w'.cell? ⟨b, off + j, none⟩ = some v) ∧ Hid (∀ (j : Nat) (v : Value), (uC u1)[j]? = some v → w'.cell? ⟨b, off + 4 + j, none⟩ = some v)) mixed ?_
   change wpAnyH _ _ _ _ _ _ _ _ D5.drew
   clear hb
   generalize D5.drew = D18 at *
   refine tk1 (v := ?_) (by kernel_rfl) (by kernel_rfl) (by kernel_rfl) (fun _ _ _ h => h) (Or.inl ⟨by first | rfl | (simp [Region.wanted, yielded]; done), ?_⟩) hS ?_
   rotate_left
   ·intro w' hSw; have s0 := hSw.1.out 0 _ rfl; rw [Nat.add_zero] at s0; clear hSw; go_simp; try with_reducible rfl
   simp only [Act.put, zA, zB, zC]
   refine wpAnyH_ready (rs := [0]) (by kernel_rfl) (by simp) (st0 (fun K hK => ?_) AllReadyH.nil)
   go_simp
   refine (rFlag_any _).mono ?_
   rintro _ Q13 ⟨rfl, hb⟩
   go_wp2_with fail
   replace BB := Lib.hid (BB.out.trans (hb.mono BB.out.size))
   replace X4 := Lib.hid (X4.out.bel (by simp) hb)
   have hS : Hid (∀ (j : Nat) (v : Value), (uC u0)[j]? = some v → Q13.cell? ⟨b, off + j, none⟩ = some v) ∧ Hid (∀ (j : Nat) (v : Value), (uC u1)[j]? = some v → Q13.cell? ⟨b, off + 4 + j, none⟩ = some v) := ⟨A0.out _ BB.out, A1.out _ BB.out⟩
   clear hb
   refine hK.out _ _ ?_ (fun hHeld => ?_)
   ·exact hS
   clear hK K
   try simp only [Act.put, zA, zB, zC]
   refine tk2 (v := ?_) (by kernel_rfl) (by kernel_rfl) (by kernel_rfl) (fun _ _ _ h => h) (Or.inl ⟨by first | rfl | (simp [Region.wanted, yielded]; done), ?_⟩) hS ?_
   rotate_left
   ·intro w' hSw; have s0 := hSw.1.out 0 _ rfl; rw [Nat.add_zero] at s0; clear hSw; go_simp; try with_reducible rfl
   simp only [Act.put, zA, zB, zC]
   refine tk3 (v := ?_) (by kernel_rfl) (by kernel_rfl) (by kernel_rfl) (fun _ _ _ h => h) (Or.inl ⟨by first | rfl | (simp [Region.wanted, yielded]; done), ?_⟩) hS ?_
   rotate_left
   ·intro w' hSw; have s0 := hSw.1.out 0 _ rfl; rw [Nat.add_zero] at s0; clear hSw; go_simp; try with_reducible rfl
   simp only [Act.put, zA, zB, zC]
   refine tk4 (v := ?_) (by kernel_rfl) (by kernel_rfl) (by kernel_rfl) (fun _ _ _ h => h) (Or.inl ⟨by first | rfl | (simp [Region.wanted, yielded]; done), ?_⟩) hS ?_
   rotate_left
   ·intro w' hSw; have s0 := hSw.1.out 0 _ rfl; rw [Nat.add_zero] at s0; clear hSw; go_simp; try with_reducible rfl
   simp only [Act.put, zA, zB, zC]
   refine tk5 (v := ?_) (by kernel_rfl) (by kernel_rfl) (by kernel_rfl) (fun _ _ _ h => h) (Or.inl ⟨by first | rfl | (simp [Region.wanted, yielded]; done), ?_⟩) hS ?_
   rotate_left
   ·intro w' hSw; have s0 := hSw.1.out 0 _ rfl; rw [Nat.add_zero] at s0; clear hSw; go_simp; try with_reducible rfl
   simp only [Act.put, zA, zB, zC]
   refine tk6 (v := ?_) (by kernel_rfl) (by kernel_rfl) (by kernel_rfl) (fun _ _ _ h => h) (Or.inl ⟨by first | rfl | (simp [Region.wanted, yielded]; done), ?_⟩) hS ?_
   rotate_left
   ·intro w' hSw; have s0 := hSw.1.out 0 _ rfl; rw [Nat.add_zero] at s0; clear hSw; go_simp; try with_reducible rfl
   simp only [Act.put, zA, zB, zC]
   refine tk7 (v := ?_) (by kernel_rfl) (by kernel_rfl) (by kernel_rfl) (fun _ _ _ h => h) (Or.inl ⟨by first | rfl | (simp [Region.wanted, yielded]; done), ?_⟩) hS ?_
   rotate_left
   ·intro w' hSw; have s0 := hSw.1.out 0 _ rfl; rw [Nat.add_zero] at s0; clear hSw; go_simp; try with_reducible rfl
   simp only [Act.put, zA, zB, zC]
   refine wpAnyH_ready (rs := [8]) (by kernel_rfl) (by simp) (st8 (fun K hK => ?_) AllReadyH.nil)
   refine (if_pos (by kernel_rfl)).mpr ?_
   refine wp_store rfl rfl rfl (store_row 29 4 (by kernel_rfl) Q13 w.heap.size [.bool false, .int .i64 0, .int .i64 0, .int .i64 0] (uC uFlag) X4.out rfl rfl (by simp [uC, Value.oneCell'])) ?_
   replace X4 := Lib.hid (X4.out.cells (L := uC uFlag) rfl)
   have hk := kept_setCells (b := w.heap.size) (w := Q13) (uC uFlag) 0 Q13 (Kept.refl _ _)
   replace BB := Lib.hid (below_kept BB.out hk (Nat.le_refl _))
   clear hk
   generalize Q13.setCells w.heap.size 0 (uC uFlag) = Q14 at *
   have hS : Hid (∀ (j : Nat) (v : Value), (uC u0)[j]? = some v → Q14.cell? ⟨b, off + j, none⟩ = some v) ∧ Hid (∀ (j : Nat) (v : Value), (uC u1)[j]? = some v → Q14.cell? ⟨b, off + 4 + j, none⟩ = some v) := ⟨A0.out _ BB.out, A1.out _ BB.out⟩
   refine hK.out _ _ ?_ (fun hHeld => ?_)
   ·exact hS
   clear hK K
   try simp only [Act.put]
   refine tk9 (v := ?_) (by kernel_rfl) (by kernel_rfl) (by kernel_rfl) (fun _ _ _ h => h) (Or.inl ⟨by first | rfl | (simp [Region.wanted, yielded]; done), ?_⟩) hS ?_
   rotate_left
   ·intro w' hSw; have s0 := hSw.1.out 0 _ rfl; rw [Nat.add_zero] at s0; clear hSw; go_simp; try with_reducible rfl
   simp only [Act.put, zA, zB, zC]
   refine wpAnyH_done (by kernel_rfl) ?_ _
   clear hS
   obtain ⟨r0, r1, r2, r3, -⟩ := box4 X4.out
   go_wp2_with fail
   exact bodyPost_ret (v := .tuple #[.agg (uC uFlag).toArray, .bool u0.f]) (by simp [uC, results, Try.results57, go_sem, r0, r1, r2, r3]) rfl ⟨OpR.mk (by first | (rw [HOP.out]; simp; done) | rw [HOP.out]), BB.out⟩
set_option maxRecDepth 100000 in
set_option maxHeartbeats 8000000 in
theorem rop_eq (op : Int) (u0 u1 : U) (hop : op = 9 ∨ op = 10) (hS : SlR w p b off 2 4 ([u0, u1].map uC)) :
  Calls Try.prog 57 #[.int .i64 op, .slice p 2 c] w fun e w' => OpR (opU op [u0, u1]) e ∧ RowKit.Below w.heap.size w w' := by
 have hq := hS.ptr (by decide)
 subst hq
 have hlt := hS.lt (by decide)
 have ba := (Below.refl w.heap.size w).alloc (Nat.le_refl _) (.cells ([.bool false, .int .i64 0, .int .i64 0, .int .i64 0] : List Value).toArray 29)
 have X4 := Lib.hid (BoxL.new w [.bool false, .int .i64 0, .int .i64 0, .int .i64 0] 29)
 have BB := Lib.hid ba
 have A0 : Hid (∀ V, RowKit.Below w.heap.size w V → ∀ (j : Nat) (v : Value), (uC u0)[j]? = some v → V.cell? ⟨b, off + j, none⟩ = some v) := fun V hV j v hv => by have := ((hS.bel hV).at_ 0 _ rfl).2 j v hv; rwa [show off + 0 * 4 + j = off + j by omega] at this
 have A1 : Hid (∀ V, RowKit.Below w.heap.size w V → ∀ (j : Nat) (v : Value), (uC u1)[j]? = some v → V.cell? ⟨b, off + 4 + j, none⟩ = some v) := fun V hV j v hv => by have := ((hS.bel hV).at_ 1 _ rfl).2 j v hv; rwa [show off + 1 * 4 + j = off + 4 + j by omega] at this
 clear hS ba
 have HOP : Hid (opU op [u0, u1] = if decide (u0 = u1) = true then some uFlag else none) := by
  show _ = _
  rcases hop with rfl | rfl <;> simp [opU]
 obtain ⟨R, hR⟩ : ∃ R, R = opU op [u0, u1] := ⟨_, rfl⟩
 rw [← hR] at HOP ⊢
 clear hR
 obtain ⟨sm, hsm⟩ : ∃ sm, sm = decide (u0 = u1) := ⟨_, rfl⟩
 rw [← hsm] at HOP
 have HSM := Lib.hid hsm
 clear hsm
 rcases hop with rfl | rfl
 all_goals
  cases sm with
  | false =>
   go_enter Try.func57, Try.ntmps57
   go_wp2_with fail
   generalize w.alloc (.cells #[.bool false, .int .i64 0, .int .i64 0, .int .i64 0] 29) = V0 at *
   have hb := (Below.refl V0.heap.size V0).drew
   replace BB := Lib.hid (BB.out.trans (hb.mono BB.out.size))
   replace X4 := Lib.hid (X4.out.bel (by simp) hb)
   have hS : Hid (∀ (j : Nat) (v : Value), (uC u0)[j]? = some v → V0.drew.cell? ⟨b, off + j, none⟩ = some v) ∧ Hid (∀ (j : Nat) (v : Value), (uC u1)[j]? = some v → V0.drew.cell? ⟨b, off + 4 + j, none⟩ = some v) := ⟨A0.out _ BB.out, A1.out _ BB.out⟩
   refine wp_region_held (S := fun w' : World => Hid (∀ (j : Nat) (v : Value), (uC u0)[j]? = some v → w'.cell? ⟨b, off + j, none⟩ = some v) ∧ Hid (∀ (j : Nat) (v : Value), (uC u1)[j]? = some v → w'.cell? ⟨b, off + 4 + j, none⟩ = some v)) mixed ?_
   change wpAnyH _ _ _ _ _ _ _ _ V0.drew
   clear hb
   generalize V0.drew = D5 at *
   refine tk0 (v := ?_) (by kernel_rfl) (by kernel_rfl) (by kernel_rfl) (fun _ _ _ h => h) (Or.inl ⟨by first | rfl | (simp [Region.wanted, yielded]; done), ?_⟩) hS ?_
   rotate_left
   ·intro w' hSw; have s0 := hSw.1.out 0 _ rfl; rw [Nat.add_zero] at s0; clear hSw; go_simp; try with_reducible rfl
   simp only [Act.put, zA, zB, zC]
   refine tk1 (v := ?_) (by kernel_rfl) (by kernel_rfl) (by kernel_rfl) (fun _ _ _ h => h) (Or.inl ⟨by first | rfl | (simp [Region.wanted, yielded]; done), ?_⟩) hS ?_
   rotate_left
   ·intro w' hSw; have s0 := hSw.1.out 0 _ rfl; rw [Nat.add_zero] at s0; clear hSw; go_simp; try with_reducible rfl
   simp only [Act.put, zA, zB, zC]
   refine tk2 (v := .agg (uC u0).toArray) (by kernel_rfl) (by kernel_rfl) (by kernel_rfl) (fun _ _ _ h => h) (Or.inl ⟨by first | rfl | (simp [Region.wanted, yielded]; done), ?_⟩) hS ?_
   ·intro w' hSw
    exact ex_load rfl rfl (load_rowAt 29 4 (by kernel_rfl) (by kernel_rfl) _ _ _ (uC u0) rfl hSw.1.out)
   simp only [Act.put, zA, zB, zC]
   refine tk3 (v := ?_) (by kernel_rfl) (by kernel_rfl) (by kernel_rfl) (fun _ _ _ h => h) (Or.inl ⟨by first | rfl | (simp [Region.wanted, yielded]; done), ?_⟩) hS ?_
   rotate_left
   ·intro w' hSw; have s0 := hSw.1.out 0 _ rfl; rw [Nat.add_zero] at s0; clear hSw; go_simp; try with_reducible rfl
   simp only [Act.put, zA, zB, zC]
   refine tk4 (v := ?_) (by kernel_rfl) (by kernel_rfl) (by kernel_rfl) (fun _ _ _ h => h) (Or.inl ⟨by first | rfl | (simp [Region.wanted, yielded]; done), ?_⟩) hS ?_
   rotate_left
   ·intro w' hSw; have s0 := hSw.1.out 0 _ rfl; rw [Nat.add_zero] at s0; clear hSw; go_simp; try with_reducible rfl
   simp only [Act.put, zA, zB, zC]
   refine tk5 (v := .agg (uC u1).toArray) (by kernel_rfl) (by kernel_rfl) (by kernel_rfl) (fun _ _ _ h => h) (Or.inl ⟨by first | rfl | (simp [Region.wanted, yielded]; done), ?_⟩) hS ?_
   ·intro w' hSw
    exact ex_load rfl rfl (load_rowAt 29 4 (by kernel_rfl) (by kernel_rfl) _ _ _ (uC u1) rfl hSw.2.out)
   simp only [Act.put, zA, zB, zC]
   refine tk6 (v := .bool false) (by kernel_rfl) (by kernel_rfl) (by kernel_rfl) (fun _ _ _ h => h) (Or.inl ⟨by first | rfl | (simp [Region.wanted, yielded]; done), ?_⟩) hS ?_
   ·intro w' hSw
    refine (ex_eqU (u := u0) (v := u1) rfl rfl rfl _).trans ?_; rw [← HSM.out]
   simp only [Act.put, zA, zB, zC]
   refine tk7 (v := ?_) (by kernel_rfl) (by kernel_rfl) (by kernel_rfl) (fun _ _ _ h => h) (Or.inl ⟨by first | rfl | (simp [Region.wanted, yielded]; done), ?_⟩) hS ?_
   rotate_left
   ·intro w' hSw; have s0 := hSw.1.out 0 _ rfl; rw [Nat.add_zero] at s0; clear hSw; go_simp; try with_reducible rfl
   simp only [Act.put, zA, zB, zC]
   refine wpAnyH_done (by kernel_rfl) ?_ _
   clear hS
   go_wp2_with fail
   refine (rFlag_any _).mono ?_
   rintro _ Q9 ⟨rfl, hb⟩
   replace BB := Lib.hid (BB.out.trans (hb.mono BB.out.size))
   replace X4 := Lib.hid (X4.out.bel (by simp) hb)
   clear hb
   go_wp2_with ((with_reducible show wpList _ _ _ ({ dst := none, op := Op.store _ (Operand.tmp 4) _, type := _, pos := _, after := _, guard := _ } :: _) _ _); refine wl_store rfl rfl rfl rfl (store_row 29 4 (by kernel_rfl) Q9 w.heap.size [.bool false, .int .i64 0, .int .i64 0, .int .i64 0] (uC uFlag) X4.out rfl rfl (by simp [uC, Value.oneCell'])) ?_; simp only [Act.put]; replace X4 := Lib.hid (X4.out.cells (L := uC uFlag) rfl); have hk := kept_setCells (b := w.heap.size) (w := Q9) (uC uFlag) 0 Q9 (Kept.refl _ _); replace BB := Lib.hid (below_kept BB.out hk (Nat.le_refl _)); clear hk; generalize Q9.setCells w.heap.size 0 (uC uFlag) = Q10 at *)
   obtain ⟨r0, r1, r2, r3, -⟩ := box4 X4.out
   exact bodyPost_ret (v := .tuple #[.agg (uC uFlag).toArray, .bool false]) (by simp [uC, results, Try.results57, go_sem, r0, r1, r2, r3]) rfl ⟨OpR.mk (by first | (rw [HOP.out]; simp; done) | rw [HOP.out]), BB.out⟩
  | true =>
   go_enter Try.func57, Try.ntmps57
   go_wp2_with fail
   generalize w.alloc (.cells #[.bool false, .int .i64 0, .int .i64 0, .int .i64 0] 29) = V0 at *
   have hb := (Below.refl V0.heap.size V0).drew
   replace BB := Lib.hid (BB.out.trans (hb.mono BB.out.size))
   replace X4 := Lib.hid (X4.out.bel (by simp) hb)
   have hS : Hid (∀ (j : Nat) (v : Value), (uC u0)[j]? = some v → V0.drew.cell? ⟨b, off + j, none⟩ = some v) ∧ Hid (∀ (j : Nat) (v : Value), (uC u1)[j]? = some v → V0.drew.cell? ⟨b, off + 4 + j, none⟩ = some v) := ⟨A0.out _ BB.out, A1.out _ BB.out⟩
   refine wp_region_held (S := fun w' : World => Hid (∀ (j : Nat) (v : Value), (uC u0)[j]? = some v → w'.cell? ⟨b, off + j, none⟩ = some v) ∧ Hid (∀ (j : Nat) (v : Value), (uC u1)[j]? = some v → w'.cell? ⟨b, off + 4 + j, none⟩ = some v)) mixed ?_
   change wpAnyH _ _ _ _ _ _ _ _ V0.drew
   clear hb
   generalize V0.drew = D5 at *
   refine tk0 (v := ?_) (by kernel_rfl) (by kernel_rfl) (by kernel_rfl) (fun _ _ _ h => h) (Or.inl ⟨by first | rfl | (simp [Region.wanted, yielded]; done), ?_⟩) hS ?_
   rotate_left
   ·intro w' hSw; have s0 := hSw.1.out 0 _ rfl; rw [Nat.add_zero] at s0; clear hSw; go_simp; try with_reducible rfl
   simp only [Act.put, zA, zB, zC]
   refine tk1 (v := ?_) (by kernel_rfl) (by kernel_rfl) (by kernel_rfl) (fun _ _ _ h => h) (Or.inl ⟨by first | rfl | (simp [Region.wanted, yielded]; done), ?_⟩) hS ?_
   rotate_left
   ·intro w' hSw; have s0 := hSw.1.out 0 _ rfl; rw [Nat.add_zero] at s0; clear hSw; go_simp; try with_reducible rfl
   simp only [Act.put, zA, zB, zC]
   refine tk2 (v := .agg (uC u0).toArray) (by kernel_rfl) (by kernel_rfl) (by kernel_rfl) (fun _ _ _ h => h) (Or.inl ⟨by first | rfl | (simp [Region.wanted, yielded]; done), ?_⟩) hS ?_
   ·intro w' hSw
    exact ex_load rfl rfl (load_rowAt 29 4 (by kernel_rfl) (by kernel_rfl) _ _ _ (uC u0) rfl hSw.1.out)
   simp only [Act.put, zA, zB, zC]
   refine tk3 (v := ?_) (by kernel_rfl) (by kernel_rfl) (by kernel_rfl) (fun _ _ _ h => h) (Or.inl ⟨by first | rfl | (simp [Region.wanted, yielded]; done), ?_⟩) hS ?_
   rotate_left
   ·intro w' hSw; have s0 := hSw.1.out 0 _ rfl; rw [Nat.add_zero] at s0; clear hSw; go_simp; try with_reducible rfl
   simp only [Act.put, zA, zB, zC]
   refine tk4 (v := ?_) (by kernel_rfl) (by kernel_rfl) (by kernel_rfl) (fun _ _ _ h => h) (Or.inl ⟨by first | rfl | (simp [Region.wanted, yielded]; done), ?_⟩) hS ?_
   rotate_left
   ·intro w' hSw; have s0 := hSw.1.out 0 _ rfl; rw [Nat.add_zero] at s0; clear hSw; go_simp; try with_reducible rfl
   simp only [Act.put, zA, zB, zC]
   refine tk5 (v := .agg (uC u1).toArray) (by kernel_rfl) (by kernel_rfl) (by kernel_rfl) (fun _ _ _ h => h) (Or.inl ⟨by first | rfl | (simp [Region.wanted, yielded]; done), ?_⟩) hS ?_
   ·intro w' hSw
    exact ex_load rfl rfl (load_rowAt 29 4 (by kernel_rfl) (by kernel_rfl) _ _ _ (uC u1) rfl hSw.2.out)
   simp only [Act.put, zA, zB, zC]
   refine tk6 (v := .bool true) (by kernel_rfl) (by kernel_rfl) (by kernel_rfl) (fun _ _ _ h => h) (Or.inl ⟨by first | rfl | (simp [Region.wanted, yielded]; done), ?_⟩) hS ?_
   ·intro w' hSw
    refine (ex_eqU (u := u0) (v := u1) rfl rfl rfl _).trans ?_; rw [← HSM.out]
   simp only [Act.put, zA, zB, zC]
   refine tk7 (v := ?_) (by kernel_rfl) (by kernel_rfl) (by kernel_rfl) (fun _ _ _ h => h) (Or.inl ⟨by first | rfl | (simp [Region.wanted, yielded]; done), ?_⟩) hS ?_
   rotate_left
   ·intro w' hSw; have s0 := hSw.1.out 0 _ rfl; rw [Nat.add_zero] at s0; clear hSw; go_simp; try with_reducible rfl
   simp only [Act.put, zA, zB, zC]
   refine wpAnyH_done (by kernel_rfl) ?_ _
   clear hS
   go_wp2_with fail
   refine (rFlag_any _).mono ?_
   rintro _ Q9 ⟨rfl, hb⟩
   replace BB := Lib.hid (BB.out.trans (hb.mono BB.out.size))
   replace X4 := Lib.hid (X4.out.bel (by simp) hb)
   clear hb
   go_wp2_with ((with_reducible show wpList _ _ _ ({ dst := none, op := Op.store _ (Operand.tmp 4) _, type := _, pos := _, after := _, guard := _ } :: _) _ _); refine wl_store rfl rfl rfl rfl (store_row 29 4 (by kernel_rfl) Q9 w.heap.size [.bool false, .int .i64 0, .int .i64 0, .int .i64 0] (uC uFlag) X4.out rfl rfl (by simp [uC, Value.oneCell'])) ?_; simp only [Act.put]; replace X4 := Lib.hid (X4.out.cells (L := uC uFlag) rfl); have hk := kept_setCells (b := w.heap.size) (w := Q9) (uC uFlag) 0 Q9 (Kept.refl _ _); replace BB := Lib.hid (below_kept BB.out hk (Nat.le_refl _)); clear hk; generalize Q9.setCells w.heap.size 0 (uC uFlag) = Q10 at *)
   obtain ⟨r0, r1, r2, r3, -⟩ := box4 X4.out
   exact bodyPost_ret (v := .tuple #[.agg (uC uFlag).toArray, .bool true]) (by simp [uC, results, Try.results57, go_sem, r0, r1, r2, r3]) rfl ⟨OpR.mk (by first | (rw [HOP.out]; simp; done) | rw [HOP.out]), BB.out⟩
set_option maxRecDepth 100000 in
set_option maxHeartbeats 8000000 in
theorem rop_mul (op : Int) (u0 u1 : U) (hop : op = 5 ∨ op = 6) (g0 : good u0 = true) (g1 : good u1 = true) (hS : SlR w p b off 2 4 ([u0, u1].map uC)) :
  Calls Try.prog 57 #[.int .i64 op, .slice p 2 c] w fun e w' => OpR (opU op [u0, u1]) e ∧ RowKit.Below w.heap.size w w' := by
 have hq := hS.ptr (by decide)
 subst hq
 have hlt := hS.lt (by decide)
 have ba := (Below.refl w.heap.size w).alloc (Nat.le_refl _) (.cells ([.bool false, .int .i64 0, .int .i64 0, .int .i64 0] : List Value).toArray 29)
 have X4 := Lib.hid (BoxL.new w [.bool false, .int .i64 0, .int .i64 0, .int .i64 0] 29)
 have BB := Lib.hid ba
 have A0 : Hid (∀ V, RowKit.Below w.heap.size w V → ∀ (j : Nat) (v : Value), (uC u0)[j]? = some v → V.cell? ⟨b, off + j, none⟩ = some v) := fun V hV j v hv => by have := ((hS.bel hV).at_ 0 _ rfl).2 j v hv; rwa [show off + 0 * 4 + j = off + j by omega] at this
 have A1 : Hid (∀ V, RowKit.Below w.heap.size w V → ∀ (j : Nat) (v : Value), (uC u1)[j]? = some v → V.cell? ⟨b, off + 4 + j, none⟩ = some v) := fun V hV j v hv => by have := ((hS.bel hV).at_ 1 _ rfl).2 j v hv; rwa [show off + 1 * 4 + j = off + 4 + j by omega] at this
 clear hS ba
 have hs : ∃ s : Int, s = (if op = 5 then 1 else -1) ∧ (s = 1 ∨ s = -1) := ⟨_, rfl, by split <;> simp⟩
 obtain ⟨s, hs1, hs2⟩ := hs
 have KP := Lib.hid (fun V => rproduct_any s u0 u1 V (good_sU g0) (good_sU g1) hs2)
 obtain ⟨pb, hpb⟩ : ∃ pb, pb = (!u0.f && !u1.f && (expo (mulU s u0 u1).m && (expo (mulU s u0 u1).a && expo (mulU s u0 u1).d))) := ⟨_, rfl⟩
 rw [← hpb] at KP
 have HOP : Hid (opU op [u0, u1] = if pb = true then some (mulU s u0 u1) else none) := by
  show _ = _
  have e : opU op [u0, u1] = prodU s u0 u1 := by rcases hop with rfl | rfl <;> simp [opU, hs1]
  rw [e, hpb]
  unfold prodU
  simp only [Bool.and_eq_true, Bool.not_eq_true', and_assoc]
 obtain ⟨R, hR⟩ : ∃ R, R = opU op [u0, u1] := ⟨_, rfl⟩
 rw [← hR] at HOP ⊢
 clear hR hpb g0 g1 hs2
 generalize mulU s u0 u1 = um at *
 rcases hop with rfl | rfl
 all_goals
  first | (obtain rfl : s = 1 := hs1) | (obtain rfl : s = -1 := hs1)
  go_enter Try.func57, Try.ntmps57
  go_wp2_with fail
  generalize w.alloc (.cells #[.bool false, .int .i64 0, .int .i64 0, .int .i64 0] 29) = V0 at *
  have hb := (Below.refl V0.heap.size V0).drew
  replace BB := Lib.hid (BB.out.trans (hb.mono BB.out.size))
  replace X4 := Lib.hid (X4.out.bel (by simp) hb)
  have hS : Hid (∀ (j : Nat) (v : Value), (uC u0)[j]? = some v → V0.drew.cell? ⟨b, off + j, none⟩ = some v) ∧ Hid (∀ (j : Nat) (v : Value), (uC u1)[j]? = some v → V0.drew.cell? ⟨b, off + 4 + j, none⟩ = some v) := ⟨A0.out _ BB.out, A1.out _ BB.out⟩
  refine wp_region_held (S := fun w' : World => Hid (∀ (j : Nat) (v : Value), (uC u0)[j]? = some v → w'.cell? ⟨b, off + j, none⟩ = some v) ∧ Hid (∀ (j : Nat) (v : Value), (uC u1)[j]? = some v → w'.cell? ⟨b, off + 4 + j, none⟩ = some v)) mixed ?_
  change wpAnyH _ _ _ _ _ _ _ _ V0.drew
  clear hb
  generalize V0.drew = D5 at *
  refine tk0 (v := ?_) (by kernel_rfl) (by kernel_rfl) (by kernel_rfl) (fun _ _ _ h => h) (Or.inl ⟨by first | rfl | (simp [Region.wanted, yielded]; done), ?_⟩) hS ?_
  rotate_left
  ·intro w' hSw; have s0 := hSw.1.out 0 _ rfl; rw [Nat.add_zero] at s0; clear hSw; go_simp; try with_reducible rfl
  simp only [Act.put, zA, zB, zC]
  refine tk1 (v := ?_) (by kernel_rfl) (by kernel_rfl) (by kernel_rfl) (fun _ _ _ h => h) (Or.inl ⟨by first | rfl | (simp [Region.wanted, yielded]; done), ?_⟩) hS ?_
  rotate_left
  ·intro w' hSw; have s0 := hSw.1.out 0 _ rfl; rw [Nat.add_zero] at s0; clear hSw; go_simp; try with_reducible rfl
  simp only [Act.put, zA, zB, zC]
  refine tk2 (v := .agg (uC u0).toArray) (by kernel_rfl) (by kernel_rfl) (by kernel_rfl) (fun _ _ _ h => h) (Or.inl ⟨by first | rfl | (simp [Region.wanted, yielded]; done), ?_⟩) hS ?_
  ·intro w' hSw
   exact ex_load rfl rfl (load_rowAt 29 4 (by kernel_rfl) (by kernel_rfl) _ _ _ (uC u0) rfl hSw.1.out)
  simp only [Act.put, zA, zB, zC]
  refine tk3 (v := ?_) (by kernel_rfl) (by kernel_rfl) (by kernel_rfl) (fun _ _ _ h => h) (Or.inl ⟨by first | rfl | (simp [Region.wanted, yielded]; done), ?_⟩) hS ?_
  rotate_left
  ·intro w' hSw; have s0 := hSw.1.out 0 _ rfl; rw [Nat.add_zero] at s0; clear hSw; go_simp; try with_reducible rfl
  simp only [Act.put, zA, zB, zC]
  refine tk4 (v := ?_) (by kernel_rfl) (by kernel_rfl) (by kernel_rfl) (fun _ _ _ h => h) (Or.inl ⟨by first | rfl | (simp [Region.wanted, yielded]; done), ?_⟩) hS ?_
  rotate_left
  ·intro w' hSw; have s0 := hSw.1.out 0 _ rfl; rw [Nat.add_zero] at s0; clear hSw; go_simp; try with_reducible rfl
  simp only [Act.put, zA, zB, zC]
  refine tk5 (v := .agg (uC u1).toArray) (by kernel_rfl) (by kernel_rfl) (by kernel_rfl) (fun _ _ _ h => h) (Or.inl ⟨by first | rfl | (simp [Region.wanted, yielded]; done), ?_⟩) hS ?_
  ·intro w' hSw
   exact ex_load rfl rfl (load_rowAt 29 4 (by kernel_rfl) (by kernel_rfl) _ _ _ (uC u1) rfl hSw.2.out)
  simp only [Act.put, zA, zB, zC]
  refine tk6 (v := .bool (decide (u0 = u1))) (by kernel_rfl) (by kernel_rfl) (by kernel_rfl) (fun _ _ _ h => h) (Or.inl ⟨by first | rfl | (simp [Region.wanted, yielded]; done), ?_⟩) hS ?_
  ·intro w' hSw
   exact ex_eqU (u := u0) (v := u1) rfl rfl rfl _
  simp only [Act.put, zA, zB, zC]
  refine tk7 (v := ?_) (by kernel_rfl) (by kernel_rfl) (by kernel_rfl) (fun _ _ _ h => h) (Or.inl ⟨by first | rfl | (simp [Region.wanted, yielded]; done), ?_⟩) hS ?_
  rotate_left
  ·intro w' hSw; have s0 := hSw.1.out 0 _ rfl; rw [Nat.add_zero] at s0; clear hSw; go_simp; try with_reducible rfl
  simp only [Act.put, zA, zB, zC]
  refine wpAnyH_done (by kernel_rfl) ?_ _
  clear hS
  go_wp2_with fail
  have hb := (Below.refl D5.heap.size D5).drew
  replace BB := Lib.hid (BB.out.trans (hb.mono BB.out.size))
  replace X4 := Lib.hid (X4.out.bel (by simp) hb)
  have hS : Hid (∀ (j : Nat) (v : Value), (uC u0)[j]? = some v → D5.drew.cell? ⟨b, off + j, none⟩ = some v) ∧ Hid (∀ (j : Nat) (v : Value), (uC u1)[j]? = some v → D5.drew.cell? ⟨b, off + 4 + j, none⟩ = some v) := ⟨A0.out _ BB.out, A1.out _ BB.out⟩
  refine wp_region_held (S := fun w' : World => Hid (∀ (j : Nat) (v : Value), (uC u0)[j]? = some v → w'.cell? ⟨b, off + j, none⟩ = some v) ∧ Hid (∀ (j : Nat) (v : Value), (uC u1)[j]? = some v → w'.cell? ⟨b, off + 4 + j, none⟩ = some v)) mixed ?_
  change wpAnyH _ _ _ _ _ _ _ _ D5.drew
  clear hb
  generalize D5.drew = E1 at *
  refine tk0 (v := ?_) (by kernel_rfl) (by kernel_rfl) (by kernel_rfl) (fun _ _ _ h => h) (Or.inl ⟨by rfl, ?_⟩) hS ?_
  rotate_left
  ·intro w' hSw; clear hSw; go_simp; try with_reducible rfl
  simp only [Act.put, zA, zB, zC]
  refine tk1 (v := ?_) (by kernel_rfl) (by kernel_rfl) (by kernel_rfl) (fun _ _ _ h => h) (Or.inl ⟨by rfl, ?_⟩) hS ?_
  rotate_left
  ·intro w' hSw; clear hSw; go_simp; try with_reducible rfl
  simp only [Act.put, zA, zB, zC]
  refine tk2 (v := .agg (uC u0).toArray) (by kernel_rfl) (by kernel_rfl) (by kernel_rfl) (fun _ _ _ h => h) (Or.inl ⟨by rfl, ?_⟩) hS ?_
  ·intro w' hSw
   exact ex_load rfl rfl (load_rowAt 29 4 (by kernel_rfl) (by kernel_rfl) _ _ _ (uC u0) rfl hSw.1.out)
  simp only [Act.put, zA, zB, zC]
  refine tk3 (v := ?_) (by kernel_rfl) (by kernel_rfl) (by kernel_rfl) (fun _ _ _ h => h) (Or.inl ⟨by rfl, ?_⟩) hS ?_
  rotate_left
  ·intro w' hSw; clear hSw; go_simp; try with_reducible rfl
  simp only [Act.put, zA, zB, zC]
  refine tk4 (v := ?_) (by kernel_rfl) (by kernel_rfl) (by kernel_rfl) (fun _ _ _ h => h) (Or.inl ⟨by rfl, ?_⟩) hS ?_
  rotate_left
  ·intro w' hSw; clear hSw; go_simp; try with_reducible rfl
  simp only [Act.put, zA, zB, zC]
  refine tk5 (v := .agg (uC u1).toArray) (by kernel_rfl) (by kernel_rfl) (by kernel_rfl) (fun _ _ _ h => h) (Or.inl ⟨by rfl, ?_⟩) hS ?_
  ·intro w' hSw
   exact ex_load rfl rfl (load_rowAt 29 4 (by kernel_rfl) (by kernel_rfl) _ _ _ (uC u1) rfl hSw.2.out)
  simp only [Act.put, zA, zB, zC]
  refine tk6 (v := ?_) (by kernel_rfl) (by kernel_rfl) (by kernel_rfl) (fun _ _ _ h => h) (Or.inl ⟨by rfl, ?_⟩) hS ?_
  rotate_left
  ·intro w' hSw; clear hSw; go_simp; try with_reducible rfl
  simp only [Act.put, zA, zB, zC]
  refine wpAnyH_ready (rs := [7, 11]) (by kernel_rfl) (by simp) (st7 (fun K hK => ?_) (st11 (fun K hK => ?_) AllReadyH.nil))
  ·go_simp
   refine (KP.out _).mono ?_
   rintro _ E2 ⟨rfl, hb⟩
   go_wp2_with fail
   replace BB := Lib.hid (BB.out.trans (hb.mono BB.out.size))
   replace X4 := Lib.hid (X4.out.bel (by simp) hb)
   have hS : Hid (∀ (j : Nat) (v : Value), (uC u0)[j]? = some v → E2.cell? ⟨b, off + j, none⟩ = some v) ∧ Hid (∀ (j : Nat) (v : Value), (uC u1)[j]? = some v → E2.cell? ⟨b, off + 4 + j, none⟩ = some v) := ⟨A0.out _ BB.out, A1.out _ BB.out⟩
   clear hb
   refine hK.out _ _ ?_ (fun hHeld => ?_)
   ·exact hS
   clear hK K
   try simp only [Act.put, zA, zB, zC]
   refine tk8 (v := ?_) (by kernel_rfl) (by kernel_rfl) (by kernel_rfl) (fun _ _ _ h => h) (Or.inl ⟨by rfl, ?_⟩) hS ?_
   rotate_left
   ·intro w' hSw; clear hSw; go_simp; try with_reducible rfl
   simp only [Act.put, zA, zB, zC]
   refine tk9 (v := ?_) (by kernel_rfl) (by kernel_rfl) (by kernel_rfl) (fun _ _ _ h => h) (Or.inl ⟨by rfl, ?_⟩) hS ?_
   rotate_left
   ·intro w' hSw; clear hSw; go_simp; try with_reducible rfl
   simp only [Act.put, zA, zB, zC]
   refine tk10 (v := ?_) (by kernel_rfl) (by kernel_rfl) (by kernel_rfl) (fun _ _ _ h => h) (Or.inl ⟨by rfl, ?_⟩) hS ?_
   rotate_left
   ·intro w' hSw; clear hSw; go_simp; try with_reducible rfl
   simp only [Act.put, zA, zB, zC]
   refine wpAnyH_ready (rs := [11]) (by kernel_rfl) (by simp) (st11 (fun K hK => ?_) AllReadyH.nil)
   refine (if_pos (by kernel_rfl)).mpr ?_
   refine wp_alloc rfl (alloc_unit _) ?_
   have hb := (Below.refl E2.heap.size E2).alloc (Nat.le_refl _) (.cells ([.bool false, .int .i64 0, .int .i64 0, .int .i64 0] : List Value).toArray 29)
   have DD := Lib.hid (BoxL.new E2 [.bool false, .int .i64 0, .int .i64 0, .int .i64 0] 29)
   obtain ⟨E3, hE3⟩ : ∃ V, E2.alloc (.cells ([.bool false, .int .i64 0, .int .i64 0, .int .i64 0] : List Value).toArray 29) = V := ⟨_, rfl⟩
   rw [hE3] at hb DD ⊢
   clear hE3
   obtain ⟨bn, hbn⟩ : ∃ b, b = E2.heap.size := ⟨_, rfl⟩
   rw [← hbn] at DD ⊢
   have q4 : w.heap.size < bn := by rw [hbn]; exact X4.out.lt (by simp)
   clear hbn
   replace BB := Lib.hid (BB.out.trans (hb.mono BB.out.size))
   replace X4 := Lib.hid (X4.out.bel (by simp) hb)
   have hS : Hid (∀ (j : Nat) (v : Value), (uC u0)[j]? = some v → E3.cell? ⟨b, off + j, none⟩ = some v) ∧ Hid (∀ (j : Nat) (v : Value), (uC u1)[j]? = some v → E3.cell? ⟨b, off + 4 + j, none⟩ = some v) := ⟨A0.out _ BB.out, A1.out _ BB.out⟩
   clear hb
   refine hK.out _ _ ?_ (fun hHeld => ?_)
   ·exact hS
   clear hK K
   try simp only [Act.put, zA, zB, zC]
   refine wpAnyH_ready (rs := [12]) (by kernel_rfl) (by simp) (st12 (fun K hK => ?_) AllReadyH.nil)
   refine (if_pos (by kernel_rfl)).mpr ?_
   refine wp_store rfl rfl rfl (store_row 29 4 (by kernel_rfl) E3 bn [.bool false, .int .i64 0, .int .i64 0, .int .i64 0] (uC um) DD.out rfl rfl (by simp [uC, Value.oneCell'])) ?_
   replace DD := Lib.hid (DD.out.cells (L := uC um) rfl)
   have hk := kept_setCells (b := bn) (w := E3) (uC um) 0 E3 (Kept.refl _ _)
   replace BB := Lib.hid (below_kept BB.out hk (by omega))
   replace X4 := Lib.hid (X4.out.call (by simp) hk (by omega))
   clear hk
   generalize E3.setCells bn 0 (uC um) = E9 at *
   have hS : Hid (∀ (j : Nat) (v : Value), (uC u0)[j]? = some v → E9.cell? ⟨b, off + j, none⟩ = some v) ∧ Hid (∀ (j : Nat) (v : Value), (uC u1)[j]? = some v → E9.cell? ⟨b, off + 4 + j, none⟩ = some v) := ⟨A0.out _ BB.out, A1.out _ BB.out⟩
   refine hK.out _ _ ?_ (fun hHeld => ?_)
   ·exact hS
   clear hK K
   try simp only [Act.put]
   refine tk13 (v := ?_) (by kernel_rfl) (by kernel_rfl) (by kernel_rfl) (fun _ _ _ h => h) (Or.inl ⟨by rfl, ?_⟩) hS ?_
   rotate_left
   ·intro w' hSw; clear hSw; go_simp; try with_reducible rfl
   simp only [Act.put, zA, zB, zC]
   refine wpAnyH_done (by kernel_rfl) ?_ _
   clear hS
   go_wp2_with (first | ((with_reducible show wpList _ _ _ ({ dst := some 61, op := _, type := _, pos := _, after := _, guard := _ } :: _) _ _); refine wl_loadP rfl rfl rfl (load_row 29 4 (by kernel_rfl) (by kernel_rfl) _ _ (uC um) rfl (fun j v hv => (DD.out j v hv).1)) ?_; simp only [Act.put, zA, zB, zC]) | ((with_reducible show wpList _ _ _ ({ dst := none, op := Op.store _ (Operand.tmp 4) _, type := _, pos := _, after := _, guard := _ } :: _) _ _); refine wl_store rfl rfl rfl rfl (store_row 29 4 (by kernel_rfl) E9 w.heap.size [.bool false, .int .i64 0, .int .i64 0, .int .i64 0] (uC um) X4.out rfl rfl (by simp [uC, Value.oneCell'])) ?_; simp only [Act.put]; replace X4 := Lib.hid (X4.out.cells (L := uC um) rfl); have hk := kept_setCells (b := w.heap.size) (w := E9) (uC um) 0 E9 (Kept.refl _ _); replace BB := Lib.hid (below_kept BB.out hk (Nat.le_refl _)); clear hk; generalize E9.setCells w.heap.size 0 (uC um) = E10 at *))
   obtain ⟨r0, r1, r2, r3, -⟩ := box4 X4.out
   exact bodyPost_ret (v := .tuple #[.agg (uC um).toArray, .bool pb]) (by simp [uC, results, Try.results57, go_sem, r0, r1, r2, r3]) rfl ⟨OpR.mk (by rw [HOP.out]), BB.out⟩
  ·refine (if_pos (by kernel_rfl)).mpr ?_
   refine wp_alloc rfl (alloc_unit _) ?_
   have hb := (Below.refl E1.heap.size E1).alloc (Nat.le_refl _) (.cells ([.bool false, .int .i64 0, .int .i64 0, .int .i64 0] : List Value).toArray 29)
   have DD := Lib.hid (BoxL.new E1 [.bool false, .int .i64 0, .int .i64 0, .int .i64 0] 29)
   obtain ⟨E2, hE2⟩ : ∃ V, E1.alloc (.cells ([.bool false, .int .i64 0, .int .i64 0, .int .i64 0] : List Value).toArray 29) = V := ⟨_, rfl⟩
   rw [hE2] at hb DD ⊢
   clear hE2
   obtain ⟨bn, hbn⟩ : ∃ b, b = E1.heap.size := ⟨_, rfl⟩
   rw [← hbn] at DD ⊢
   have q4 : w.heap.size < bn := by rw [hbn]; exact X4.out.lt (by simp)
   clear hbn
   replace BB := Lib.hid (BB.out.trans (hb.mono BB.out.size))
   replace X4 := Lib.hid (X4.out.bel (by simp) hb)
   have hS : Hid (∀ (j : Nat) (v : Value), (uC u0)[j]? = some v → E2.cell? ⟨b, off + j, none⟩ = some v) ∧ Hid (∀ (j : Nat) (v : Value), (uC u1)[j]? = some v → E2.cell? ⟨b, off + 4 + j, none⟩ = some v) := ⟨A0.out _ BB.out, A1.out _ BB.out⟩
   clear hb
   refine hK.out _ _ ?_ (fun hHeld => ?_)
   ·exact hS
   clear hK K
   try simp only [Act.put, zA, zB, zC]
   refine wpAnyH_ready (rs := [7]) (by kernel_rfl) (by simp) (st7 (fun K hK => ?_) AllReadyH.nil)
   go_simp
   refine (KP.out _).mono ?_
   rintro _ E3 ⟨rfl, hb⟩
   go_wp2_with fail
   replace BB := Lib.hid (BB.out.trans (hb.mono BB.out.size))
   replace X4 := Lib.hid (X4.out.bel (by simp) hb)
   replace DD := Lib.hid (DD.out.bel (by simp) hb)
   have hS : Hid (∀ (j : Nat) (v : Value), (uC u0)[j]? = some v → E3.cell? ⟨b, off + j, none⟩ = some v) ∧ Hid (∀ (j : Nat) (v : Value), (uC u1)[j]? = some v → E3.cell? ⟨b, off + 4 + j, none⟩ = some v) := ⟨A0.out _ BB.out, A1.out _ BB.out⟩
   clear hb
   refine hK.out _ _ ?_ (fun hHeld => ?_)
   ·exact hS
   clear hK K
   try simp only [Act.put, zA, zB, zC]
   refine tk8 (v := ?_) (by kernel_rfl) (by kernel_rfl) (by kernel_rfl) (fun _ _ _ h => h) (Or.inl ⟨by rfl, ?_⟩) hS ?_
   rotate_left
   ·intro w' hSw; clear hSw; go_simp; try with_reducible rfl
   simp only [Act.put, zA, zB, zC]
   refine tk9 (v := ?_) (by kernel_rfl) (by kernel_rfl) (by kernel_rfl) (fun _ _ _ h => h) (Or.inl ⟨by rfl, ?_⟩) hS ?_
   rotate_left
   ·intro w' hSw; clear hSw; go_simp; try with_reducible rfl
   simp only [Act.put, zA, zB, zC]
   refine tk10 (v := ?_) (by kernel_rfl) (by kernel_rfl) (by kernel_rfl) (fun _ _ _ h => h) (Or.inl ⟨by rfl, ?_⟩) hS ?_
   rotate_left
   ·intro w' hSw; clear hSw; go_simp; try with_reducible rfl
   simp only [Act.put, zA, zB, zC]
   refine wpAnyH_ready (rs := [12]) (by kernel_rfl) (by simp) (st12 (fun K hK => ?_) AllReadyH.nil)
   refine (if_pos (by kernel_rfl)).mpr ?_
   refine wp_store rfl rfl rfl (store_row 29 4 (by kernel_rfl) E3 bn [.bool false, .int .i64 0, .int .i64 0, .int .i64 0] (uC um) DD.out rfl rfl (by simp [uC, Value.oneCell'])) ?_
   replace DD := Lib.hid (DD.out.cells (L := uC um) rfl)
   have hk := kept_setCells (b := bn) (w := E3) (uC um) 0 E3 (Kept.refl _ _)
   replace BB := Lib.hid (below_kept BB.out hk (by omega))
   replace X4 := Lib.hid (X4.out.call (by simp) hk (by omega))
   clear hk
   generalize E3.setCells bn 0 (uC um) = E9 at *
   have hS : Hid (∀ (j : Nat) (v : Value), (uC u0)[j]? = some v → E9.cell? ⟨b, off + j, none⟩ = some v) ∧ Hid (∀ (j : Nat) (v : Value), (uC u1)[j]? = some v → E9.cell? ⟨b, off + 4 + j, none⟩ = some v) := ⟨A0.out _ BB.out, A1.out _ BB.out⟩
   refine hK.out _ _ ?_ (fun hHeld => ?_)
   ·exact hS
   clear hK K
   try simp only [Act.put]
   refine tk13 (v := ?_) (by kernel_rfl) (by kernel_rfl) (by kernel_rfl) (fun _ _ _ h => h) (Or.inl ⟨by rfl, ?_⟩) hS ?_
   rotate_left
   ·intro w' hSw; clear hSw; go_simp; try with_reducible rfl
   simp only [Act.put, zA, zB, zC]
   refine wpAnyH_done (by kernel_rfl) ?_ _
   clear hS
   go_wp2_with (first | ((with_reducible show wpList _ _ _ ({ dst := some 61, op := _, type := _, pos := _, after := _, guard := _ } :: _) _ _); refine wl_loadP rfl rfl rfl (load_row 29 4 (by kernel_rfl) (by kernel_rfl) _ _ (uC um) rfl (fun j v hv => (DD.out j v hv).1)) ?_; simp only [Act.put, zA, zB, zC]) | ((with_reducible show wpList _ _ _ ({ dst := none, op := Op.store _ (Operand.tmp 4) _, type := _, pos := _, after := _, guard := _ } :: _) _ _); refine wl_store rfl rfl rfl rfl (store_row 29 4 (by kernel_rfl) E9 w.heap.size [.bool false, .int .i64 0, .int .i64 0, .int .i64 0] (uC um) X4.out rfl rfl (by simp [uC, Value.oneCell'])) ?_; simp only [Act.put]; replace X4 := Lib.hid (X4.out.cells (L := uC um) rfl); have hk := kept_setCells (b := w.heap.size) (w := E9) (uC um) 0 E9 (Kept.refl _ _); replace BB := Lib.hid (below_kept BB.out hk (Nat.le_refl _)); clear hk; generalize E9.setCells w.heap.size 0 (uC um) = E10 at *))
   obtain ⟨r0, r1, r2, r3, -⟩ := box4 X4.out
   exact bodyPost_ret (v := .tuple #[.agg (uC um).toArray, .bool pb]) (by simp [uC, results, Try.results57, go_sem, r0, r1, r2, r3]) rfl ⟨OpR.mk (by rw [HOP.out]), BB.out⟩
end
/-- operator, for the operands that a well-formed node has. -/
theorem roperator_any (op : Int) (us : List U) (ha : (us.length : Int) = arity op) (h1 : op ≠ 1) (h2 : op ≠ 2) (h17 : op ≠ 17) (hg : ∀ u ∈ us, good u = true) (w : World) (p : Option Addr) (b off c : Nat) (hS : SlR w p b off us.length 4 (us.map uC)) :
  Calls Try.prog 57 #[.int .i64 op, .slice p us.length c] w fun e w' => OpR (opU op us) e ∧ RowKit.Below w.heap.size w w' := by
 unfold arity at ha
 rw [if_neg (by omega)] at ha
 split at ha
 ·rename_i h
  match us, ha with
  | [u0], _ => exact rop_not op u0 h hS
 ·split at ha
  ·rename_i h
   match us, ha with
   | [u0, u1, u2], _ => exact rop_if op u0 u1 u2 h hS
  ·split at ha
   ·rename_i hr
    match us, ha with
    | [u0, u1], _ =>
     have g0 := hg u0 (by simp)
     have g1 := hg u1 (by simp)
     have : (op = 5 ∨ op = 6) ∨ (op = 3 ∨ op = 4 ∨ op = 7 ∨ op = 8) ∨ (op = 9 ∨ op = 10) ∨ (op = 11 ∨ op = 12) ∨ (op = 13 ∨ op = 14) := by omega
     rcases this with h | h | h | h | h
     ·exact rop_mul op u0 u1 h g0 g1 hS
     ·exact rop_sum op u0 u1 h hS
     ·exact rop_eq op u0 u1 h hS
     ·exact rop_ord op u0 u1 h hS
     ·exact rop_and op u0 u1 h g0 g1 hS
   ·omega
end Go.Proofs.Ytoaonficdkgfiaa
