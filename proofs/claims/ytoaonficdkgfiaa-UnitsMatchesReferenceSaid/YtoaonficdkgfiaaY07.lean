/- Texts on units: UCls -/
import Derived.Test.YtoaonficdkgfiaaY04
import Derived.Test.YtoaonficdkgfiaaY05
import Derived.Test.YtoaonficdkgfiaaY06
namespace Go.Proofs.Ytoaonficdkgfiaa
open Go.RowKit Un

/-- Two operands in memory. -/
structure U2 (w : World) (b off : Nat) (u v : U) : Prop where
 a0 : w.cell? ⟨b, off, none⟩ = some (.bool u.f)
 a1 : w.cell? ⟨b, off + 1, none⟩ = some (.int .i64 u.m)
 a2 : w.cell? ⟨b, off + 2, none⟩ = some (.int .i64 u.a)
 a3 : w.cell? ⟨b, off + 3, none⟩ = some (.int .i64 u.d)
 b0 : w.cell? ⟨b, off + 4, none⟩ = some (.bool v.f)
 b1 : w.cell? ⟨b, off + 5, none⟩ = some (.int .i64 v.m)
 b2 : w.cell? ⟨b, off + 6, none⟩ = some (.int .i64 v.a)
 b3 : w.cell? ⟨b, off + 7, none⟩ = some (.int .i64 v.d)
theorem U2.of {w : World} {b off : Nat} {p : Option Addr} {u v : U} (h : SlR w p b off 2 4 [uC u, uC v]) : p = some ⟨b, off, none⟩ ∧ U2 w b off u v := by
 refine ⟨h.ptr (by omega), ?_⟩
 have h0 := (h.at_ 0 _ rfl).2
 have h1 := (h.at_ 1 _ rfl).2
 exact ⟨h0 0 _ rfl, h0 1 _ rfl, h0 2 _ rfl, h0 3 _ rfl, h1 0 _ rfl, h1 1 _ rfl, h1 2 _ rfl, h1 3 _ rfl⟩
theorem U2.lt {w : World} {b off : Nat} {u v : U} (h : U2 w b off u v) : b < w.heap.size := World.block_lt_of_cell? _ _ h.a0
theorem U2.at {w w1 : World} {b off : Nat} {u v : U} (h : U2 w b off u v) (hb : w1.heap[b]? = w.heap[b]?) : U2 w1 b off u v :=
 ⟨(World.cell?_of_block (w := w) (a := ⟨b, off, none⟩) hb).trans h.a0, (World.cell?_of_block (w := w) (a := ⟨b, off + 1, none⟩) hb).trans h.a1, (World.cell?_of_block (w := w) (a := ⟨b, off + 2, none⟩) hb).trans h.a2, (World.cell?_of_block (w := w) (a := ⟨b, off + 3, none⟩) hb).trans h.a3, (World.cell?_of_block (w := w) (a := ⟨b, off + 4, none⟩) hb).trans h.b0, (World.cell?_of_block (w := w) (a := ⟨b, off + 5, none⟩) hb).trans h.b1, (World.cell?_of_block (w := w) (a := ⟨b, off + 6, none⟩) hb).trans h.b2, (World.cell?_of_block (w := w) (a := ⟨b, off + 7, none⟩) hb).trans h.b3⟩
theorem U2.bel {w w1 : World} {b off : Nat} {u v : U} (h : U2 w b off u v) (hB : RowKit.Below w.heap.size w w1) : U2 w1 b off u v := h.at (hB.block b h.lt)
theorem U2.other {w : World} {b off r : Nat} {u v : U} (h : U2 w b off u v) (hr : b ≠ r) (o : Nat) (x : Value) : U2 (w.setCell ⟨r, o, none⟩ x) b off u v := h.at (Below.heap_setCell _ _ _ _ hr)
/-- The unit of flags in memory, as the closures know it. -/
structure FlagM (w : World) (fb : Nat) : Prop where
 f0 : w.cell? ⟨fb, 0, none⟩ = some (.bool true)
 f1 : w.cell? ⟨fb, 1, none⟩ = some (.int .i64 0)
 f2 : w.cell? ⟨fb, 2, none⟩ = some (.int .i64 0)
 f3 : w.cell? ⟨fb, 3, none⟩ = some (.int .i64 0)
theorem FlagM.lt {w : World} {fb : Nat} (h : FlagM w fb) : fb < w.heap.size := World.block_lt_of_cell? _ _ h.f0
theorem FlagM.at {w w1 : World} {fb : Nat} (h : FlagM w fb) (hb : w1.heap[fb]? = w.heap[fb]?) : FlagM w1 fb :=
 ⟨(World.cell?_of_block (w := w) (a := ⟨fb, 0, none⟩) hb).trans h.f0, (World.cell?_of_block (w := w) (a := ⟨fb, 1, none⟩) hb).trans h.f1, (World.cell?_of_block (w := w) (a := ⟨fb, 2, none⟩) hb).trans h.f2, (World.cell?_of_block (w := w) (a := ⟨fb, 3, none⟩) hb).trans h.f3⟩
theorem FlagM.bel {w w1 : World} {fb : Nat} (h : FlagM w fb) (hB : RowKit.Below w.heap.size w w1) : FlagM w1 fb := h.at (hB.block fb h.lt)
theorem FlagM.other {w : World} {fb r : Nat} (h : FlagM w fb) (hr : fb ≠ r) (o : Nat) (x : Value) : FlagM (w.setCell ⟨r, o, none⟩ x) fb := h.at (Below.heap_setCell _ _ _ _ hr)
theorem box4 {w : World} {b : Nat} {x0 x1 x2 x3 : Value} (h : BoxL w b [x0, x1, x2, x3]) : w.cell? ⟨b, 0, none⟩ = some x0 ∧ w.cell? ⟨b, 1, none⟩ = some x1 ∧ w.cell? ⟨b, 2, none⟩ = some x2 ∧ w.cell? ⟨b, 3, none⟩ = some x3 ∧ w.frozen? ⟨b, 0, none⟩ = false ∧ w.frozen? ⟨b, 1, none⟩ = false ∧ w.frozen? ⟨b, 2, none⟩ = false ∧ w.frozen? ⟨b, 3, none⟩ = false := ⟨(h 0 _ rfl).1, (h 1 _ rfl).1, (h 2 _ rfl).1, (h 3 _ rfl).1, (h 0 _ rfl).2, (h 1 _ rfl).2, (h 2 _ rfl).2, (h 3 _ rfl).2⟩
theorem eqU_if {α : Type} (uf : Bool) (um ua ud : Int) (vf : Bool) (vm va vd : Int) (A B : α) : (if uf = vf then if um = vm then if ua = va then if ud = vd then A else B else B else B else B) = if decide ((⟨uf, um, ua, ud⟩ : U) = ⟨vf, vm, va, vd⟩) = true then A else B := by
 by_cases h1 : uf = vf <;> by_cases h2 : um = vm <;> by_cases h3 : ua = va <;> by_cases h4 : ud = vd <;> simp [h1, h2, h3, h4]
set_option maxRecDepth 100000 in
set_option maxHeartbeats 6000000 in
theorem opEqual (u v : U) (b off c fb : Nat) (w : World) (h2 : U2 w b off u v) (hf : FlagM w fb) :
  Calls Try.prog 73 #[.slice (some ⟨b, off, none⟩) 2 c, .pointer (some ⟨fb, 0, none⟩)] w fun e w' => e = .returned (.tuple #[uV uFlag, .bool (decide (u = v))]) ∧ RowKit.Below w.heap.size w w' := by
 have HE : ∀ (A B : Result Next), (if u.f = v.f then if u.m = v.m then if u.a = v.a then if u.d = v.d then A else B else B else B else B) = if decide (u = v) = true then A else B := fun A B => eqU_if _ _ _ _ _ _ _ _ A B
 have NB : b ≠ w.heap.size := by have := h2.lt; omega
 have NF : fb ≠ w.heap.size := by have := hf.lt; omega
 obtain ⟨W1, hW1⟩ : ∃ W1, W1 = w.alloc (.cells #[.bool false, .int .i64 0, .int .i64 0, .int .i64 0] 29) := ⟨_, rfl⟩
 have B1 := Lib.hid ((Below.refl w.heap.size w).alloc (Nat.le_refl _) (.cells #[.bool false, .int .i64 0, .int .i64 0, .int .i64 0] 29))
 have X1 := Lib.hid (BoxL.new w [.bool false, .int .i64 0, .int .i64 0, .int .i64 0] 29)
 rw [← hW1] at B1
 have X1' : Hid (BoxL W1 w.heap.size [.bool false, .int .i64 0, .int .i64 0, .int .i64 0]) := by rw [hW1]; exact X1.out
 clear X1
 have M1 := Lib.hid (h2.bel B1.out)
 have F1 := Lib.hid (hf.bel B1.out)
 clear h2 hf
 obtain ⟨R, hR⟩ : ∃ R, R = decide (u = v) := ⟨_, rfl⟩
 rw [← hR] at HE ⊢
 clear hR
 obtain ⟨uf, um, ua, ud⟩ := u
 obtain ⟨vf, vm, va, vd⟩ := v
 simp only at HE
 replace HE := Lib.hid HE
 obtain ⟨a0, a1, a2, a3, b0, b1, b2, b3⟩ := M1.out
 obtain ⟨f0, f1, f2, f3⟩ := F1.out
 go_enter Try.func73, Try.ntmps73
 go_wp2_with fail
 rw [← hW1]
 clear hW1
 have hS : W1.drew.cell? ⟨b, off, none⟩ = some (.bool uf) ∧ W1.drew.cell? ⟨b, off + 1, none⟩ = some (.int .i64 um) ∧ W1.drew.cell? ⟨b, off + 2, none⟩ = some (.int .i64 ua) ∧ W1.drew.cell? ⟨b, off + 3, none⟩ = some (.int .i64 ud) ∧ W1.drew.cell? ⟨b, off + 4, none⟩ = some (.bool vf) ∧ W1.drew.cell? ⟨b, off + 5, none⟩ = some (.int .i64 vm) ∧ W1.drew.cell? ⟨b, off + 6, none⟩ = some (.int .i64 va) ∧ W1.drew.cell? ⟨b, off + 7, none⟩ = some (.int .i64 vd) ∧ W1.drew.cell? ⟨fb, 0, none⟩ = some (.bool true) ∧ W1.drew.cell? ⟨fb, 1, none⟩ = some (.int .i64 0) ∧ W1.drew.cell? ⟨fb, 2, none⟩ = some (.int .i64 0) ∧ W1.drew.cell? ⟨fb, 3, none⟩ = some (.int .i64 0) := ⟨a0, a1, a2, a3, b0, b1, b2, b3, f0, f1, f2, f3⟩
 refine wp_region_held (S := fun w' : World => w'.cell? ⟨b, off, none⟩ = some (.bool uf) ∧ w'.cell? ⟨b, off + 1, none⟩ = some (.int .i64 um) ∧ w'.cell? ⟨b, off + 2, none⟩ = some (.int .i64 ua) ∧ w'.cell? ⟨b, off + 3, none⟩ = some (.int .i64 ud) ∧ w'.cell? ⟨b, off + 4, none⟩ = some (.bool vf) ∧ w'.cell? ⟨b, off + 5, none⟩ = some (.int .i64 vm) ∧ w'.cell? ⟨b, off + 6, none⟩ = some (.int .i64 va) ∧ w'.cell? ⟨b, off + 7, none⟩ = some (.int .i64 vd) ∧ w'.cell? ⟨fb, 0, none⟩ = some (.bool true) ∧ w'.cell? ⟨fb, 1, none⟩ = some (.int .i64 0) ∧ w'.cell? ⟨fb, 2, none⟩ = some (.int .i64 0) ∧ w'.cell? ⟨fb, 3, none⟩ = some (.int .i64 0)) mixed ?_
 change wpAnyH _ _ _ _ _ _ _ _ W1.drew
 refine tk0 (v := ?_) (by kernel_rfl) (by kernel_rfl) (by kernel_rfl) (fun _ _ _ h => h) (Or.inl ⟨by rfl, ?_⟩) hS ?_
 rotate_left
 ·(intro w hSw; (try dsimp only at hSw); go_simp; try with_reducible rfl)
 simp only [Act.put, zA, zB, zC]
 refine tk1 (v := ?_) (by kernel_rfl) (by kernel_rfl) (by kernel_rfl) (fun _ _ _ h => h) (Or.inl ⟨by rfl, ?_⟩) hS ?_
 rotate_left
 ·(intro w hSw; (try dsimp only at hSw); go_simp; try with_reducible rfl)
 simp only [Act.put, zA, zB, zC]
 refine tk2 (v := ?_) (by kernel_rfl) (by kernel_rfl) (by kernel_rfl) (fun _ _ _ h => h) (Or.inl ⟨by rfl, ?_⟩) hS ?_
 rotate_left
 ·(intro w hSw; (try dsimp only at hSw); go_simp; try with_reducible rfl)
 simp only [Act.put, zA, zB, zC]
 refine tk3 (v := ?_) (by kernel_rfl) (by kernel_rfl) (by kernel_rfl) (fun _ _ _ h => h) (Or.inl ⟨by rfl, ?_⟩) hS ?_
 rotate_left
 ·(intro w hSw; (try dsimp only at hSw); go_simp; try with_reducible rfl)
 simp only [Act.put, zA, zB, zC]
 refine tk4 (v := ?_) (by kernel_rfl) (by kernel_rfl) (by kernel_rfl) (fun _ _ _ h => h) (Or.inl ⟨by rfl, ?_⟩) hS ?_
 rotate_left
 ·(intro w hSw; (try dsimp only at hSw); go_simp; try with_reducible rfl)
 simp only [Act.put, zA, zB, zC]
 refine tk5 (v := ?_) (by kernel_rfl) (by kernel_rfl) (by kernel_rfl) (fun _ _ _ h => h) (Or.inl ⟨by rfl, ?_⟩) hS ?_
 rotate_left
 ·(intro w hSw; (try dsimp only at hSw); go_simp; try with_reducible rfl)
 simp only [Act.put, zA, zB, zC]
 refine tk6 (v := ?_) (by kernel_rfl) (by kernel_rfl) (by kernel_rfl) (fun _ _ _ h => h) (Or.inl ⟨by rfl, ?_⟩) hS ?_
 rotate_left
 ·(intro w hSw; (try dsimp only at hSw); go_simp; try with_reducible rfl)
 simp only [Act.put, zA, zB, zC]
 refine tk7 (v := .bool R) (by kernel_rfl) (by kernel_rfl) (by kernel_rfl) (fun _ _ _ h => h) (Or.inl ⟨by rfl, (by intro w hSw; (try dsimp only at hSw); go_simp; first | (rw [HE.out]; first | rfl | (cases R <;> rfl)) | (intro h1 h2 h3 h4; have he := HE.out (.ok (.value (.bool true)) w) (.ok (.value (.bool false)) w); simp [h1, h2, h3, h4] at he))⟩) hS ?_
 simp only [Act.put, zA, zB, zC]
 refine wpAnyH_ready (rs := [8]) (by kernel_rfl) (by simp) (st8 (fun K hK => ?_) AllReadyH.nil)
 obtain ⟨x0, x1, x2, x3, g0, g1, g2, g3⟩ := box4 X1'.out
 go_simp
 have M2 := Lib.hid ((((((M1.out).other NB 0 (.bool true)).other NB 1 (.int .i64 0)).other NB 2 (.int .i64 0)).other NB 3 (.int .i64 0)).bel (Below.refl _ _).drew)
 have F2 := Lib.hid ((((((F1.out).other NF 0 (.bool true)).other NF 1 (.int .i64 0)).other NF 2 (.int .i64 0)).other NF 3 (.int .i64 0)).bel (Below.refl _ _).drew)
 refine hK.out _ _ ?_ (fun hHeld => ?_)
 ·exact ⟨M2.out.a0, M2.out.a1, M2.out.a2, M2.out.a3, M2.out.b0, M2.out.b1, M2.out.b2, M2.out.b3, F2.out.f0, F2.out.f1, F2.out.f2, F2.out.f3⟩
 clear hK K
 try simp only [Act.put, zA, zB, zC]
 refine tk9 (v := ?_) (by kernel_rfl) (by kernel_rfl) (by kernel_rfl) (fun _ _ _ h => h) (Or.inl ⟨by rfl, ?_⟩) hHeld ?_
 rotate_left
 ·(intro w hSw; (try dsimp only at hSw); go_simp; try with_reducible rfl)
 simp only [Act.put, zA, zB, zC]
 refine wpAnyH_done (by kernel_rfl) ?_ _
 go_wp2_with fail
 exact bodyPost_ret (v := .tuple #[.agg #[.bool true, .int .i64 0, .int .i64 0, .int .i64 0], .bool R]) (by simp [results, Try.results73, go_sem, x0, x1, x2, x3]) rfl ⟨by simp [uV, uC, uFlag], (by repeat' (first | (with_reducible exact B1.out) | (with_reducible refine Below.setCell ?_ ?_ _) | (with_reducible refine Below.alloc ?_ ?_ _) | (with_reducible refine Below.drew ?_) | (with_reducible refine below_drewN ?_ _) | (with_reducible exact Below.refl _ _) | omega | (simp; done) | (simp; omega)))⟩
set_option maxRecDepth 100000 in
set_option maxHeartbeats 6000000 in
theorem opOrder (u v : U) (b off c fb : Nat) (w : World) (h2 : U2 w b off u v) (hf : FlagM w fb) :
  Calls Try.prog 74 #[.slice (some ⟨b, off, none⟩) 2 c, .pointer (some ⟨fb, 0, none⟩)] w fun e w' => e = .returned (.tuple #[uV uFlag, .bool (decide (u = v) && !u.f)]) ∧ RowKit.Below w.heap.size w w' := by
 have HE : ∀ (A B : Result Next), (if u.f = v.f then if u.m = v.m then if u.a = v.a then if u.d = v.d then A else B else B else B else B) = if decide (u = v) = true then A else B := fun A B => eqU_if _ _ _ _ _ _ _ _ A B
 have NB : b ≠ w.heap.size := by have := h2.lt; omega
 have NF : fb ≠ w.heap.size := by have := hf.lt; omega
 obtain ⟨W1, hW1⟩ : ∃ W1, W1 = w.alloc (.cells #[.bool false, .int .i64 0, .int .i64 0, .int .i64 0] 29) := ⟨_, rfl⟩
 have B1 := Lib.hid ((Below.refl w.heap.size w).alloc (Nat.le_refl _) (.cells #[.bool false, .int .i64 0, .int .i64 0, .int .i64 0] 29))
 have X1 := Lib.hid (BoxL.new w [.bool false, .int .i64 0, .int .i64 0, .int .i64 0] 29)
 rw [← hW1] at B1
 have X1' : Hid (BoxL W1 w.heap.size [.bool false, .int .i64 0, .int .i64 0, .int .i64 0]) := by rw [hW1]; exact X1.out
 clear X1
 have M1 := Lib.hid (h2.bel B1.out)
 have F1 := Lib.hid (hf.bel B1.out)
 clear h2 hf
 obtain ⟨R, hR⟩ : ∃ R, R = decide (u = v) := ⟨_, rfl⟩
 rw [← hR] at HE ⊢
 clear hR
 obtain ⟨uf, um, ua, ud⟩ := u
 obtain ⟨vf, vm, va, vd⟩ := v
 simp only at HE
 replace HE := Lib.hid HE
 obtain ⟨a0, a1, a2, a3, b0, b1, b2, b3⟩ := M1.out
 obtain ⟨f0, f1, f2, f3⟩ := F1.out
 cases R with
 | true =>
  go_enter Try.func74, Try.ntmps74
  go_wp2_with fail
  rw [← hW1]
  clear hW1
  have hS : W1.drew.cell? ⟨b, off, none⟩ = some (.bool uf) ∧ W1.drew.cell? ⟨b, off + 1, none⟩ = some (.int .i64 um) ∧ W1.drew.cell? ⟨b, off + 2, none⟩ = some (.int .i64 ua) ∧ W1.drew.cell? ⟨b, off + 3, none⟩ = some (.int .i64 ud) ∧ W1.drew.cell? ⟨b, off + 4, none⟩ = some (.bool vf) ∧ W1.drew.cell? ⟨b, off + 5, none⟩ = some (.int .i64 vm) ∧ W1.drew.cell? ⟨b, off + 6, none⟩ = some (.int .i64 va) ∧ W1.drew.cell? ⟨b, off + 7, none⟩ = some (.int .i64 vd) ∧ W1.drew.cell? ⟨fb, 0, none⟩ = some (.bool true) ∧ W1.drew.cell? ⟨fb, 1, none⟩ = some (.int .i64 0) ∧ W1.drew.cell? ⟨fb, 2, none⟩ = some (.int .i64 0) ∧ W1.drew.cell? ⟨fb, 3, none⟩ = some (.int .i64 0) := ⟨a0, a1, a2, a3, b0, b1, b2, b3, f0, f1, f2, f3⟩
  refine wp_region_held (S := fun w' : World => w'.cell? ⟨b, off, none⟩ = some (.bool uf) ∧ w'.cell? ⟨b, off + 1, none⟩ = some (.int .i64 um) ∧ w'.cell? ⟨b, off + 2, none⟩ = some (.int .i64 ua) ∧ w'.cell? ⟨b, off + 3, none⟩ = some (.int .i64 ud) ∧ w'.cell? ⟨b, off + 4, none⟩ = some (.bool vf) ∧ w'.cell? ⟨b, off + 5, none⟩ = some (.int .i64 vm) ∧ w'.cell? ⟨b, off + 6, none⟩ = some (.int .i64 va) ∧ w'.cell? ⟨b, off + 7, none⟩ = some (.int .i64 vd) ∧ w'.cell? ⟨fb, 0, none⟩ = some (.bool true) ∧ w'.cell? ⟨fb, 1, none⟩ = some (.int .i64 0) ∧ w'.cell? ⟨fb, 2, none⟩ = some (.int .i64 0) ∧ w'.cell? ⟨fb, 3, none⟩ = some (.int .i64 0)) mixed ?_
  change wpAnyH _ _ _ _ _ _ _ _ W1.drew
  refine tk0 (v := ?_) (by kernel_rfl) (by kernel_rfl) (by kernel_rfl) (fun _ _ _ h => h) (Or.inl ⟨by rfl, ?_⟩) hS ?_
  rotate_left
  ·(intro w hSw; (try dsimp only at hSw); go_simp; try with_reducible rfl)
  simp only [Act.put, zA, zB, zC]
  refine tk1 (v := ?_) (by kernel_rfl) (by kernel_rfl) (by kernel_rfl) (fun _ _ _ h => h) (Or.inl ⟨by rfl, ?_⟩) hS ?_
  rotate_left
  ·(intro w hSw; (try dsimp only at hSw); go_simp; try with_reducible rfl)
  simp only [Act.put, zA, zB, zC]
  refine tk2 (v := ?_) (by kernel_rfl) (by kernel_rfl) (by kernel_rfl) (fun _ _ _ h => h) (Or.inl ⟨by rfl, ?_⟩) hS ?_
  rotate_left
  ·(intro w hSw; (try dsimp only at hSw); go_simp; try with_reducible rfl)
  simp only [Act.put, zA, zB, zC]
  refine tk3 (v := ?_) (by kernel_rfl) (by kernel_rfl) (by kernel_rfl) (fun _ _ _ h => h) (Or.inl ⟨by rfl, ?_⟩) hS ?_
  rotate_left
  ·(intro w hSw; (try dsimp only at hSw); go_simp; try with_reducible rfl)
  simp only [Act.put, zA, zB, zC]
  refine tk4 (v := ?_) (by kernel_rfl) (by kernel_rfl) (by kernel_rfl) (fun _ _ _ h => h) (Or.inl ⟨by rfl, ?_⟩) hS ?_
  rotate_left
  ·(intro w hSw; (try dsimp only at hSw); go_simp; try with_reducible rfl)
  simp only [Act.put, zA, zB, zC]
  refine tk5 (v := ?_) (by kernel_rfl) (by kernel_rfl) (by kernel_rfl) (fun _ _ _ h => h) (Or.inl ⟨by rfl, ?_⟩) hS ?_
  rotate_left
  ·(intro w hSw; (try dsimp only at hSw); go_simp; try with_reducible rfl)
  simp only [Act.put, zA, zB, zC]
  refine tk6 (v := ?_) (by kernel_rfl) (by kernel_rfl) (by kernel_rfl) (fun _ _ _ h => h) (Or.inl ⟨by rfl, ?_⟩) hS ?_
  rotate_left
  ·(intro w hSw; (try dsimp only at hSw); go_simp; try with_reducible rfl)
  simp only [Act.put, zA, zB, zC]
  refine tk7 (v := .bool true) (by kernel_rfl) (by kernel_rfl) (by kernel_rfl) (fun _ _ _ h => h) (Or.inl ⟨by rfl, (by intro w hSw; (try dsimp only at hSw); go_simp; first | (rw [HE.out]; first | rfl | (cases R <;> rfl)) | (intro h1 h2 h3 h4; have he := HE.out (.ok (.value (.bool true)) w) (.ok (.value (.bool false)) w); simp [h1, h2, h3, h4] at he))⟩) hS ?_
  simp only [Act.put, zA, zB, zC]
  refine tk8 (v := ?_) (by kernel_rfl) (by kernel_rfl) (by kernel_rfl) (fun _ _ _ h => h) (Or.inl ⟨by rfl, ?_⟩) hS ?_
  rotate_left
  ·(intro w hSw; (try dsimp only at hSw); go_simp; try with_reducible rfl)
  simp only [Act.put, zA, zB, zC]
  refine tk9 (v := ?_) (by kernel_rfl) (by kernel_rfl) (by kernel_rfl) (fun _ _ _ h => h) (Or.inl ⟨by rfl, ?_⟩) hS ?_
  rotate_left
  ·(intro w hSw; (try dsimp only at hSw); go_simp; try with_reducible rfl)
  simp only [Act.put, zA, zB, zC]
  refine tk10 (v := ?_) (by kernel_rfl) (by kernel_rfl) (by kernel_rfl) (fun _ _ _ h => h) (Or.inl ⟨by rfl, ?_⟩) hS ?_
  rotate_left
  ·(intro w hSw; (try dsimp only at hSw); go_simp; try with_reducible rfl)
  simp only [Act.put, zA, zB, zC]
  refine tk11 (v := ?_) (by kernel_rfl) (by kernel_rfl) (by kernel_rfl) (fun _ _ _ h => h) (Or.inl ⟨by rfl, ?_⟩) hS ?_
  rotate_left
  ·(intro w hSw; (try dsimp only at hSw); go_simp; try with_reducible rfl)
  simp only [Act.put, zA, zB, zC]
  refine tk12 (v := ?_) (by kernel_rfl) (by kernel_rfl) (by kernel_rfl) (fun _ _ _ h => h) (Or.inl ⟨by rfl, ?_⟩) hS ?_
  rotate_left
  ·(intro w hSw; (try dsimp only at hSw); go_simp; try with_reducible rfl)
  simp only [Act.put, zA, zB, zC]
  refine tk13 (v := ?_) (by kernel_rfl) (by kernel_rfl) (by kernel_rfl) (fun _ _ _ h => h) (Or.inl ⟨by rfl, ?_⟩) hS ?_
  rotate_left
  ·(intro w hSw; (try dsimp only at hSw); go_simp; try with_reducible rfl)
  simp only [Act.put, zA, zB, zC]
  refine tk14 (v := ?_) (by kernel_rfl) (by kernel_rfl) (by kernel_rfl) (fun _ _ _ h => h) (Or.inl ⟨by rfl, ?_⟩) hS ?_
  rotate_left
  ·(intro w hSw; (try dsimp only at hSw); go_simp; try with_reducible rfl)
  simp only [Act.put, zA, zB, zC]
  refine wpAnyH_ready (rs := [15]) (by kernel_rfl) (by simp) (st15 (fun K hK => ?_) AllReadyH.nil)
  obtain ⟨x0, x1, x2, x3, g0, g1, g2, g3⟩ := box4 X1'.out
  go_simp
  have M2 := Lib.hid ((((((M1.out).other NB 0 (.bool true)).other NB 1 (.int .i64 0)).other NB 2 (.int .i64 0)).other NB 3 (.int .i64 0)).bel (Below.refl _ _).drew)
  have F2 := Lib.hid ((((((F1.out).other NF 0 (.bool true)).other NF 1 (.int .i64 0)).other NF 2 (.int .i64 0)).other NF 3 (.int .i64 0)).bel (Below.refl _ _).drew)
  refine hK.out _ _ ?_ (fun hHeld => ?_)
  ·exact ⟨M2.out.a0, M2.out.a1, M2.out.a2, M2.out.a3, M2.out.b0, M2.out.b1, M2.out.b2, M2.out.b3, F2.out.f0, F2.out.f1, F2.out.f2, F2.out.f3⟩
  clear hK K
  try simp only [Act.put, zA, zB, zC]
  refine tk16 (v := ?_) (by kernel_rfl) (by kernel_rfl) (by kernel_rfl) (fun _ _ _ h => h) (Or.inl ⟨by rfl, ?_⟩) hHeld ?_
  rotate_left
  ·(intro w hSw; (try dsimp only at hSw); go_simp; try with_reducible rfl)
  simp only [Act.put, zA, zB, zC]
  refine wpAnyH_done (by kernel_rfl) ?_ _
  go_wp2_with fail
  exact bodyPost_ret (v := .tuple #[.agg #[.bool true, .int .i64 0, .int .i64 0, .int .i64 0], .bool (!uf)]) (by simp [results, Try.results74, go_sem, x0, x1, x2, x3]) rfl ⟨by simp [uV, uC, uFlag], (by repeat' (first | (with_reducible exact B1.out) | (with_reducible refine Below.setCell ?_ ?_ _) | (with_reducible refine Below.alloc ?_ ?_ _) | (with_reducible refine Below.drew ?_) | (with_reducible refine below_drewN ?_ _) | (with_reducible exact Below.refl _ _) | omega | (simp; done) | (simp; omega)))⟩
 | false =>
  go_enter Try.func74, Try.ntmps74
  go_wp2_with fail
  rw [← hW1]
  clear hW1
  have hS : W1.drew.cell? ⟨b, off, none⟩ = some (.bool uf) ∧ W1.drew.cell? ⟨b, off + 1, none⟩ = some (.int .i64 um) ∧ W1.drew.cell? ⟨b, off + 2, none⟩ = some (.int .i64 ua) ∧ W1.drew.cell? ⟨b, off + 3, none⟩ = some (.int .i64 ud) ∧ W1.drew.cell? ⟨b, off + 4, none⟩ = some (.bool vf) ∧ W1.drew.cell? ⟨b, off + 5, none⟩ = some (.int .i64 vm) ∧ W1.drew.cell? ⟨b, off + 6, none⟩ = some (.int .i64 va) ∧ W1.drew.cell? ⟨b, off + 7, none⟩ = some (.int .i64 vd) ∧ W1.drew.cell? ⟨fb, 0, none⟩ = some (.bool true) ∧ W1.drew.cell? ⟨fb, 1, none⟩ = some (.int .i64 0) ∧ W1.drew.cell? ⟨fb, 2, none⟩ = some (.int .i64 0) ∧ W1.drew.cell? ⟨fb, 3, none⟩ = some (.int .i64 0) := ⟨a0, a1, a2, a3, b0, b1, b2, b3, f0, f1, f2, f3⟩
  refine wp_region_held (S := fun w' : World => w'.cell? ⟨b, off, none⟩ = some (.bool uf) ∧ w'.cell? ⟨b, off + 1, none⟩ = some (.int .i64 um) ∧ w'.cell? ⟨b, off + 2, none⟩ = some (.int .i64 ua) ∧ w'.cell? ⟨b, off + 3, none⟩ = some (.int .i64 ud) ∧ w'.cell? ⟨b, off + 4, none⟩ = some (.bool vf) ∧ w'.cell? ⟨b, off + 5, none⟩ = some (.int .i64 vm) ∧ w'.cell? ⟨b, off + 6, none⟩ = some (.int .i64 va) ∧ w'.cell? ⟨b, off + 7, none⟩ = some (.int .i64 vd) ∧ w'.cell? ⟨fb, 0, none⟩ = some (.bool true) ∧ w'.cell? ⟨fb, 1, none⟩ = some (.int .i64 0) ∧ w'.cell? ⟨fb, 2, none⟩ = some (.int .i64 0) ∧ w'.cell? ⟨fb, 3, none⟩ = some (.int .i64 0)) mixed ?_
  change wpAnyH _ _ _ _ _ _ _ _ W1.drew
  refine tk0 (v := ?_) (by kernel_rfl) (by kernel_rfl) (by kernel_rfl) (fun _ _ _ h => h) (Or.inl ⟨by rfl, ?_⟩) hS ?_
  rotate_left
  ·(intro w hSw; (try dsimp only at hSw); go_simp; try with_reducible rfl)
  simp only [Act.put, zA, zB, zC]
  refine tk1 (v := ?_) (by kernel_rfl) (by kernel_rfl) (by kernel_rfl) (fun _ _ _ h => h) (Or.inl ⟨by rfl, ?_⟩) hS ?_
  rotate_left
  ·(intro w hSw; (try dsimp only at hSw); go_simp; try with_reducible rfl)
  simp only [Act.put, zA, zB, zC]
  refine tk2 (v := ?_) (by kernel_rfl) (by kernel_rfl) (by kernel_rfl) (fun _ _ _ h => h) (Or.inl ⟨by rfl, ?_⟩) hS ?_
  rotate_left
  ·(intro w hSw; (try dsimp only at hSw); go_simp; try with_reducible rfl)
  simp only [Act.put, zA, zB, zC]
  refine tk3 (v := ?_) (by kernel_rfl) (by kernel_rfl) (by kernel_rfl) (fun _ _ _ h => h) (Or.inl ⟨by rfl, ?_⟩) hS ?_
  rotate_left
  ·(intro w hSw; (try dsimp only at hSw); go_simp; try with_reducible rfl)
  simp only [Act.put, zA, zB, zC]
  refine tk4 (v := ?_) (by kernel_rfl) (by kernel_rfl) (by kernel_rfl) (fun _ _ _ h => h) (Or.inl ⟨by rfl, ?_⟩) hS ?_
  rotate_left
  ·(intro w hSw; (try dsimp only at hSw); go_simp; try with_reducible rfl)
  simp only [Act.put, zA, zB, zC]
  refine tk5 (v := ?_) (by kernel_rfl) (by kernel_rfl) (by kernel_rfl) (fun _ _ _ h => h) (Or.inl ⟨by rfl, ?_⟩) hS ?_
  rotate_left
  ·(intro w hSw; (try dsimp only at hSw); go_simp; try with_reducible rfl)
  simp only [Act.put, zA, zB, zC]
  refine tk6 (v := ?_) (by kernel_rfl) (by kernel_rfl) (by kernel_rfl) (fun _ _ _ h => h) (Or.inl ⟨by rfl, ?_⟩) hS ?_
  rotate_left
  ·(intro w hSw; (try dsimp only at hSw); go_simp; try with_reducible rfl)
  simp only [Act.put, zA, zB, zC]
  refine tk7 (v := .bool false) (by kernel_rfl) (by kernel_rfl) (by kernel_rfl) (fun _ _ _ h => h) (Or.inl ⟨by rfl, (by intro w hSw; (try dsimp only at hSw); go_simp; first | (rw [HE.out]; first | rfl | (cases R <;> rfl)) | (intro h1 h2 h3 h4; have he := HE.out (.ok (.value (.bool true)) w) (.ok (.value (.bool false)) w); simp [h1, h2, h3, h4] at he))⟩) hS ?_
  simp only [Act.put, zA, zB, zC]
  refine tk8 (v := ?_) (by kernel_rfl) (by kernel_rfl) (by kernel_rfl) (fun _ _ _ h => h) (Or.inl ⟨by rfl, ?_⟩) hS ?_
  rotate_left
  ·(intro w hSw; (try dsimp only at hSw); go_simp; try with_reducible rfl)
  simp only [Act.put, zA, zB, zC]
  refine tk9 (v := undef) (by kernel_rfl) (by kernel_rfl) (by kernel_rfl) (fun _ _ _ h => h) (Or.inr ⟨by rfl, rfl⟩) hS ?_
  simp only [Act.put, zA, zB, zC]
  refine tk10 (v := undef) (by kernel_rfl) (by kernel_rfl) (by kernel_rfl) (fun _ _ _ h => h) (Or.inr ⟨by rfl, rfl⟩) hS ?_
  simp only [Act.put, zA, zB, zC]
  refine tk11 (v := undef) (by kernel_rfl) (by kernel_rfl) (by kernel_rfl) (fun _ _ _ h => h) (Or.inr ⟨by rfl, rfl⟩) hS ?_
  simp only [Act.put, zA, zB, zC]
  refine tk12 (v := undef) (by kernel_rfl) (by kernel_rfl) (by kernel_rfl) (fun _ _ _ h => h) (Or.inr ⟨by rfl, rfl⟩) hS ?_
  simp only [Act.put, zA, zB, zC]
  refine tk13 (v := undef) (by kernel_rfl) (by kernel_rfl) (by kernel_rfl) (fun _ _ _ h => h) (Or.inr ⟨by rfl, rfl⟩) hS ?_
  simp only [Act.put, zA, zB, zC]
  refine tk14 (v := ?_) (by kernel_rfl) (by kernel_rfl) (by kernel_rfl) (fun _ _ _ h => h) (Or.inl ⟨by rfl, ?_⟩) hS ?_
  rotate_left
  ·(intro w hSw; (try dsimp only at hSw); go_simp; try with_reducible rfl)
  simp only [Act.put, zA, zB, zC]
  refine wpAnyH_ready (rs := [15]) (by kernel_rfl) (by simp) (st15 (fun K hK => ?_) AllReadyH.nil)
  obtain ⟨x0, x1, x2, x3, g0, g1, g2, g3⟩ := box4 X1'.out
  go_simp
  have M2 := Lib.hid ((((((M1.out).other NB 0 (.bool true)).other NB 1 (.int .i64 0)).other NB 2 (.int .i64 0)).other NB 3 (.int .i64 0)).bel (Below.refl _ _).drew)
  have F2 := Lib.hid ((((((F1.out).other NF 0 (.bool true)).other NF 1 (.int .i64 0)).other NF 2 (.int .i64 0)).other NF 3 (.int .i64 0)).bel (Below.refl _ _).drew)
  refine hK.out _ _ ?_ (fun hHeld => ?_)
  ·exact ⟨M2.out.a0, M2.out.a1, M2.out.a2, M2.out.a3, M2.out.b0, M2.out.b1, M2.out.b2, M2.out.b3, F2.out.f0, F2.out.f1, F2.out.f2, F2.out.f3⟩
  clear hK K
  try simp only [Act.put, zA, zB, zC]
  refine tk16 (v := ?_) (by kernel_rfl) (by kernel_rfl) (by kernel_rfl) (fun _ _ _ h => h) (Or.inl ⟨by rfl, ?_⟩) hHeld ?_
  rotate_left
  ·(intro w hSw; (try dsimp only at hSw); go_simp; try with_reducible rfl)
  simp only [Act.put, zA, zB, zC]
  refine wpAnyH_done (by kernel_rfl) ?_ _
  go_wp2_with fail
  exact bodyPost_ret (v := .tuple #[.agg #[.bool true, .int .i64 0, .int .i64 0, .int .i64 0], .bool false]) (by simp [results, Try.results74, go_sem, x0, x1, x2, x3]) rfl ⟨by simp [uV, uC, uFlag], (by repeat' (first | (with_reducible exact B1.out) | (with_reducible refine Below.setCell ?_ ?_ _) | (with_reducible refine Below.alloc ?_ ?_ _) | (with_reducible refine Below.drew ?_) | (with_reducible refine below_drewN ?_ _) | (with_reducible exact Below.refl _ _) | omega | (simp; done) | (simp; omega)))⟩
set_option maxRecDepth 100000 in
set_option maxHeartbeats 6000000 in
theorem opAlike (u v : U) (b off c : Nat) (w : World) (h2 : U2 w b off u v) :
  Calls Try.prog 72 #[.slice (some ⟨b, off, none⟩) 2 c] w fun e w' => e = .returned (.tuple #[uV u, .bool (decide (u = v) && !u.f)]) ∧ RowKit.Below w.heap.size w w' := by
 have HE : ∀ (A B : Result Next), (if u.f = v.f then if u.m = v.m then if u.a = v.a then if u.d = v.d then A else B else B else B else B) = if decide (u = v) = true then A else B := fun A B => eqU_if _ _ _ _ _ _ _ _ A B
 have NB : b ≠ w.heap.size := by have := h2.lt; omega
 obtain ⟨W1, hW1⟩ : ∃ W1, W1 = w.alloc (.cells #[.bool false, .int .i64 0, .int .i64 0, .int .i64 0] 29) := ⟨_, rfl⟩
 have B1 := Lib.hid ((Below.refl w.heap.size w).alloc (Nat.le_refl _) (.cells #[.bool false, .int .i64 0, .int .i64 0, .int .i64 0] 29))
 have X1 := Lib.hid (BoxL.new w [.bool false, .int .i64 0, .int .i64 0, .int .i64 0] 29)
 rw [← hW1] at B1
 have X1' : Hid (BoxL W1 w.heap.size [.bool false, .int .i64 0, .int .i64 0, .int .i64 0]) := by rw [hW1]; exact X1.out
 clear X1
 have M1 := Lib.hid (h2.bel B1.out)
 clear h2
 obtain ⟨R, hR⟩ : ∃ R, R = decide (u = v) := ⟨_, rfl⟩
 rw [← hR] at HE ⊢
 clear hR
 obtain ⟨uf, um, ua, ud⟩ := u
 obtain ⟨vf, vm, va, vd⟩ := v
 simp only at HE
 replace HE := Lib.hid HE
 obtain ⟨a0, a1, a2, a3, b0, b1, b2, b3⟩ := M1.out
 cases R with
 | true =>
  go_enter Try.func72, Try.ntmps72
  go_wp2_with fail
  rw [← hW1]
  clear hW1
  have hS : W1.drew.cell? ⟨b, off, none⟩ = some (.bool uf) ∧ W1.drew.cell? ⟨b, off + 1, none⟩ = some (.int .i64 um) ∧ W1.drew.cell? ⟨b, off + 2, none⟩ = some (.int .i64 ua) ∧ W1.drew.cell? ⟨b, off + 3, none⟩ = some (.int .i64 ud) ∧ W1.drew.cell? ⟨b, off + 4, none⟩ = some (.bool vf) ∧ W1.drew.cell? ⟨b, off + 5, none⟩ = some (.int .i64 vm) ∧ W1.drew.cell? ⟨b, off + 6, none⟩ = some (.int .i64 va) ∧ W1.drew.cell? ⟨b, off + 7, none⟩ = some (.int .i64 vd) := ⟨a0, a1, a2, a3, b0, b1, b2, b3⟩
  refine wp_region_held (S := fun w' : World => w'.cell? ⟨b, off, none⟩ = some (.bool uf) ∧ w'.cell? ⟨b, off + 1, none⟩ = some (.int .i64 um) ∧ w'.cell? ⟨b, off + 2, none⟩ = some (.int .i64 ua) ∧ w'.cell? ⟨b, off + 3, none⟩ = some (.int .i64 ud) ∧ w'.cell? ⟨b, off + 4, none⟩ = some (.bool vf) ∧ w'.cell? ⟨b, off + 5, none⟩ = some (.int .i64 vm) ∧ w'.cell? ⟨b, off + 6, none⟩ = some (.int .i64 va) ∧ w'.cell? ⟨b, off + 7, none⟩ = some (.int .i64 vd)) mixed ?_
  change wpAnyH _ _ _ _ _ _ _ _ W1.drew
  refine tk0 (v := ?_) (by kernel_rfl) (by kernel_rfl) (by kernel_rfl) (fun _ _ _ h => h) (Or.inl ⟨by rfl, ?_⟩) hS ?_
  rotate_left
  ·(intro w hSw; (try dsimp only at hSw); go_simp; try with_reducible rfl)
  simp only [Act.put, zA, zB, zC]
  refine tk1 (v := ?_) (by kernel_rfl) (by kernel_rfl) (by kernel_rfl) (fun _ _ _ h => h) (Or.inl ⟨by rfl, ?_⟩) hS ?_
  rotate_left
  ·(intro w hSw; (try dsimp only at hSw); go_simp; try with_reducible rfl)
  simp only [Act.put, zA, zB, zC]
  refine tk2 (v := ?_) (by kernel_rfl) (by kernel_rfl) (by kernel_rfl) (fun _ _ _ h => h) (Or.inl ⟨by rfl, ?_⟩) hS ?_
  rotate_left
  ·(intro w hSw; (try dsimp only at hSw); go_simp; try with_reducible rfl)
  simp only [Act.put, zA, zB, zC]
  refine tk3 (v := ?_) (by kernel_rfl) (by kernel_rfl) (by kernel_rfl) (fun _ _ _ h => h) (Or.inl ⟨by rfl, ?_⟩) hS ?_
  rotate_left
  ·(intro w hSw; (try dsimp only at hSw); go_simp; try with_reducible rfl)
  simp only [Act.put, zA, zB, zC]
  refine tk4 (v := ?_) (by kernel_rfl) (by kernel_rfl) (by kernel_rfl) (fun _ _ _ h => h) (Or.inl ⟨by rfl, ?_⟩) hS ?_
  rotate_left
  ·(intro w hSw; (try dsimp only at hSw); go_simp; try with_reducible rfl)
  simp only [Act.put, zA, zB, zC]
  refine tk5 (v := ?_) (by kernel_rfl) (by kernel_rfl) (by kernel_rfl) (fun _ _ _ h => h) (Or.inl ⟨by rfl, ?_⟩) hS ?_
  rotate_left
  ·(intro w hSw; (try dsimp only at hSw); go_simp; try with_reducible rfl)
  simp only [Act.put, zA, zB, zC]
  refine tk6 (v := ?_) (by kernel_rfl) (by kernel_rfl) (by kernel_rfl) (fun _ _ _ h => h) (Or.inl ⟨by rfl, ?_⟩) hS ?_
  rotate_left
  ·(intro w hSw; (try dsimp only at hSw); go_simp; try with_reducible rfl)
  simp only [Act.put, zA, zB, zC]
  refine tk7 (v := ?_) (by kernel_rfl) (by kernel_rfl) (by kernel_rfl) (fun _ _ _ h => h) (Or.inl ⟨by rfl, ?_⟩) hS ?_
  rotate_left
  ·(intro w hSw; (try dsimp only at hSw); go_simp; try with_reducible rfl)
  simp only [Act.put, zA, zB, zC]
  refine tk8 (v := ?_) (by kernel_rfl) (by kernel_rfl) (by kernel_rfl) (fun _ _ _ h => h) (Or.inl ⟨by rfl, ?_⟩) hS ?_
  rotate_left
  ·(intro w hSw; (try dsimp only at hSw); go_simp; try with_reducible rfl)
  simp only [Act.put, zA, zB, zC]
  refine tk9 (v := .bool true) (by kernel_rfl) (by kernel_rfl) (by kernel_rfl) (fun _ _ _ h => h) (Or.inl ⟨by rfl, (by intro w hSw; (try dsimp only at hSw); go_simp; first | (rw [HE.out]; first | rfl | (cases R <;> rfl)) | (intro h1 h2 h3 h4; have he := HE.out (.ok (.value (.bool true)) w) (.ok (.value (.bool false)) w); simp [h1, h2, h3, h4] at he))⟩) hS ?_
  simp only [Act.put, zA, zB, zC]
  refine tk10 (v := ?_) (by kernel_rfl) (by kernel_rfl) (by kernel_rfl) (fun _ _ _ h => h) (Or.inl ⟨by rfl, ?_⟩) hS ?_
  rotate_left
  ·(intro w hSw; (try dsimp only at hSw); go_simp; try with_reducible rfl)
  simp only [Act.put, zA, zB, zC]
  refine tk11 (v := ?_) (by kernel_rfl) (by kernel_rfl) (by kernel_rfl) (fun _ _ _ h => h) (Or.inl ⟨by rfl, ?_⟩) hS ?_
  rotate_left
  ·(intro w hSw; (try dsimp only at hSw); go_simp; try with_reducible rfl)
  simp only [Act.put, zA, zB, zC]
  refine tk12 (v := ?_) (by kernel_rfl) (by kernel_rfl) (by kernel_rfl) (fun _ _ _ h => h) (Or.inl ⟨by rfl, ?_⟩) hS ?_
  rotate_left
  ·(intro w hSw; (try dsimp only at hSw); go_simp; try with_reducible rfl)
  simp only [Act.put, zA, zB, zC]
  refine tk13 (v := ?_) (by kernel_rfl) (by kernel_rfl) (by kernel_rfl) (fun _ _ _ h => h) (Or.inl ⟨by rfl, ?_⟩) hS ?_
  rotate_left
  ·(intro w hSw; (try dsimp only at hSw); go_simp; try with_reducible rfl)
  simp only [Act.put, zA, zB, zC]
  refine tk14 (v := ?_) (by kernel_rfl) (by kernel_rfl) (by kernel_rfl) (fun _ _ _ h => h) (Or.inl ⟨by rfl, ?_⟩) hS ?_
  rotate_left
  ·(intro w hSw; (try dsimp only at hSw); go_simp; try with_reducible rfl)
  simp only [Act.put, zA, zB, zC]
  refine tk15 (v := ?_) (by kernel_rfl) (by kernel_rfl) (by kernel_rfl) (fun _ _ _ h => h) (Or.inl ⟨by rfl, ?_⟩) hS ?_
  rotate_left
  ·(intro w hSw; (try dsimp only at hSw); go_simp; try with_reducible rfl)
  simp only [Act.put, zA, zB, zC]
  refine tk16 (v := ?_) (by kernel_rfl) (by kernel_rfl) (by kernel_rfl) (fun _ _ _ h => h) (Or.inl ⟨by rfl, ?_⟩) hS ?_
  rotate_left
  ·(intro w hSw; (try dsimp only at hSw); go_simp; try with_reducible rfl)
  simp only [Act.put, zA, zB, zC]
  refine wpAnyH_ready (rs := [17]) (by kernel_rfl) (by simp) (st17 (fun K hK => ?_) AllReadyH.nil)
  obtain ⟨x0, x1, x2, x3, g0, g1, g2, g3⟩ := box4 X1'.out
  go_simp
  have M2 := Lib.hid ((((((M1.out).other NB 0 (.bool uf)).other NB 1 (.int .i64 um)).other NB 2 (.int .i64 ua)).other NB 3 (.int .i64 ud)).bel (Below.refl _ _).drew)
  refine hK.out _ _ ?_ (fun hHeld => ?_)
  ·exact ⟨M2.out.a0, M2.out.a1, M2.out.a2, M2.out.a3, M2.out.b0, M2.out.b1, M2.out.b2, M2.out.b3⟩
  clear hK K
  try simp only [Act.put, zA, zB, zC]
  refine tk18 (v := ?_) (by kernel_rfl) (by kernel_rfl) (by kernel_rfl) (fun _ _ _ h => h) (Or.inl ⟨by rfl, ?_⟩) hHeld ?_
  rotate_left
  ·(intro w hSw; (try dsimp only at hSw); go_simp; try with_reducible rfl)
  simp only [Act.put, zA, zB, zC]
  refine wpAnyH_done (by kernel_rfl) ?_ _
  go_wp2_with fail
  exact bodyPost_ret (v := .tuple #[.agg #[.bool uf, .int .i64 um, .int .i64 ua, .int .i64 ud], .bool (!uf)]) (by simp [results, Try.results72, go_sem, x0, x1, x2, x3]) rfl ⟨by simp [uV, uC], (by repeat' (first | (with_reducible exact B1.out) | (with_reducible refine Below.setCell ?_ ?_ _) | (with_reducible refine Below.alloc ?_ ?_ _) | (with_reducible refine Below.drew ?_) | (with_reducible refine below_drewN ?_ _) | (with_reducible exact Below.refl _ _) | omega | (simp; done) | (simp; omega)))⟩
 | false =>
  go_enter Try.func72, Try.ntmps72
  go_wp2_with fail
  rw [← hW1]
  clear hW1
  have hS : W1.drew.cell? ⟨b, off, none⟩ = some (.bool uf) ∧ W1.drew.cell? ⟨b, off + 1, none⟩ = some (.int .i64 um) ∧ W1.drew.cell? ⟨b, off + 2, none⟩ = some (.int .i64 ua) ∧ W1.drew.cell? ⟨b, off + 3, none⟩ = some (.int .i64 ud) ∧ W1.drew.cell? ⟨b, off + 4, none⟩ = some (.bool vf) ∧ W1.drew.cell? ⟨b, off + 5, none⟩ = some (.int .i64 vm) ∧ W1.drew.cell? ⟨b, off + 6, none⟩ = some (.int .i64 va) ∧ W1.drew.cell? ⟨b, off + 7, none⟩ = some (.int .i64 vd) := ⟨a0, a1, a2, a3, b0, b1, b2, b3⟩
  refine wp_region_held (S := fun w' : World => w'.cell? ⟨b, off, none⟩ = some (.bool uf) ∧ w'.cell? ⟨b, off + 1, none⟩ = some (.int .i64 um) ∧ w'.cell? ⟨b, off + 2, none⟩ = some (.int .i64 ua) ∧ w'.cell? ⟨b, off + 3, none⟩ = some (.int .i64 ud) ∧ w'.cell? ⟨b, off + 4, none⟩ = some (.bool vf) ∧ w'.cell? ⟨b, off + 5, none⟩ = some (.int .i64 vm) ∧ w'.cell? ⟨b, off + 6, none⟩ = some (.int .i64 va) ∧ w'.cell? ⟨b, off + 7, none⟩ = some (.int .i64 vd)) mixed ?_
  change wpAnyH _ _ _ _ _ _ _ _ W1.drew
  refine tk0 (v := ?_) (by kernel_rfl) (by kernel_rfl) (by kernel_rfl) (fun _ _ _ h => h) (Or.inl ⟨by rfl, ?_⟩) hS ?_
  rotate_left
  ·(intro w hSw; (try dsimp only at hSw); go_simp; try with_reducible rfl)
  simp only [Act.put, zA, zB, zC]
  refine tk1 (v := ?_) (by kernel_rfl) (by kernel_rfl) (by kernel_rfl) (fun _ _ _ h => h) (Or.inl ⟨by rfl, ?_⟩) hS ?_
  rotate_left
  ·(intro w hSw; (try dsimp only at hSw); go_simp; try with_reducible rfl)
  simp only [Act.put, zA, zB, zC]
  refine tk2 (v := ?_) (by kernel_rfl) (by kernel_rfl) (by kernel_rfl) (fun _ _ _ h => h) (Or.inl ⟨by rfl, ?_⟩) hS ?_
  rotate_left
  ·(intro w hSw; (try dsimp only at hSw); go_simp; try with_reducible rfl)
  simp only [Act.put, zA, zB, zC]
  refine tk3 (v := ?_) (by kernel_rfl) (by kernel_rfl) (by kernel_rfl) (fun _ _ _ h => h) (Or.inl ⟨by rfl, ?_⟩) hS ?_
  rotate_left
  ·(intro w hSw; (try dsimp only at hSw); go_simp; try with_reducible rfl)
  simp only [Act.put, zA, zB, zC]
  refine tk4 (v := ?_) (by kernel_rfl) (by kernel_rfl) (by kernel_rfl) (fun _ _ _ h => h) (Or.inl ⟨by rfl, ?_⟩) hS ?_
  rotate_left
  ·(intro w hSw; (try dsimp only at hSw); go_simp; try with_reducible rfl)
  simp only [Act.put, zA, zB, zC]
  refine tk5 (v := ?_) (by kernel_rfl) (by kernel_rfl) (by kernel_rfl) (fun _ _ _ h => h) (Or.inl ⟨by rfl, ?_⟩) hS ?_
  rotate_left
  ·(intro w hSw; (try dsimp only at hSw); go_simp; try with_reducible rfl)
  simp only [Act.put, zA, zB, zC]
  refine tk6 (v := ?_) (by kernel_rfl) (by kernel_rfl) (by kernel_rfl) (fun _ _ _ h => h) (Or.inl ⟨by rfl, ?_⟩) hS ?_
  rotate_left
  ·(intro w hSw; (try dsimp only at hSw); go_simp; try with_reducible rfl)
  simp only [Act.put, zA, zB, zC]
  refine tk7 (v := ?_) (by kernel_rfl) (by kernel_rfl) (by kernel_rfl) (fun _ _ _ h => h) (Or.inl ⟨by rfl, ?_⟩) hS ?_
  rotate_left
  ·(intro w hSw; (try dsimp only at hSw); go_simp; try with_reducible rfl)
  simp only [Act.put, zA, zB, zC]
  refine tk8 (v := ?_) (by kernel_rfl) (by kernel_rfl) (by kernel_rfl) (fun _ _ _ h => h) (Or.inl ⟨by rfl, ?_⟩) hS ?_
  rotate_left
  ·(intro w hSw; (try dsimp only at hSw); go_simp; try with_reducible rfl)
  simp only [Act.put, zA, zB, zC]
  refine tk9 (v := .bool false) (by kernel_rfl) (by kernel_rfl) (by kernel_rfl) (fun _ _ _ h => h) (Or.inl ⟨by rfl, (by intro w hSw; (try dsimp only at hSw); go_simp; first | (rw [HE.out]; first | rfl | (cases R <;> rfl)) | (intro h1 h2 h3 h4; have he := HE.out (.ok (.value (.bool true)) w) (.ok (.value (.bool false)) w); simp [h1, h2, h3, h4] at he))⟩) hS ?_
  simp only [Act.put, zA, zB, zC]
  refine tk10 (v := ?_) (by kernel_rfl) (by kernel_rfl) (by kernel_rfl) (fun _ _ _ h => h) (Or.inl ⟨by rfl, ?_⟩) hS ?_
  rotate_left
  ·(intro w hSw; (try dsimp only at hSw); go_simp; try with_reducible rfl)
  simp only [Act.put, zA, zB, zC]
  refine tk11 (v := undef) (by kernel_rfl) (by kernel_rfl) (by kernel_rfl) (fun _ _ _ h => h) (Or.inr ⟨by rfl, rfl⟩) hS ?_
  simp only [Act.put, zA, zB, zC]
  refine tk12 (v := undef) (by kernel_rfl) (by kernel_rfl) (by kernel_rfl) (fun _ _ _ h => h) (Or.inr ⟨by rfl, rfl⟩) hS ?_
  simp only [Act.put, zA, zB, zC]
  refine tk13 (v := undef) (by kernel_rfl) (by kernel_rfl) (by kernel_rfl) (fun _ _ _ h => h) (Or.inr ⟨by rfl, rfl⟩) hS ?_
  simp only [Act.put, zA, zB, zC]
  refine tk14 (v := undef) (by kernel_rfl) (by kernel_rfl) (by kernel_rfl) (fun _ _ _ h => h) (Or.inr ⟨by rfl, rfl⟩) hS ?_
  simp only [Act.put, zA, zB, zC]
  refine tk15 (v := undef) (by kernel_rfl) (by kernel_rfl) (by kernel_rfl) (fun _ _ _ h => h) (Or.inr ⟨by rfl, rfl⟩) hS ?_
  simp only [Act.put, zA, zB, zC]
  refine tk16 (v := ?_) (by kernel_rfl) (by kernel_rfl) (by kernel_rfl) (fun _ _ _ h => h) (Or.inl ⟨by rfl, ?_⟩) hS ?_
  rotate_left
  ·(intro w hSw; (try dsimp only at hSw); go_simp; try with_reducible rfl)
  simp only [Act.put, zA, zB, zC]
  refine wpAnyH_ready (rs := [17]) (by kernel_rfl) (by simp) (st17 (fun K hK => ?_) AllReadyH.nil)
  obtain ⟨x0, x1, x2, x3, g0, g1, g2, g3⟩ := box4 X1'.out
  go_simp
  have M2 := Lib.hid ((((((M1.out).other NB 0 (.bool uf)).other NB 1 (.int .i64 um)).other NB 2 (.int .i64 ua)).other NB 3 (.int .i64 ud)).bel (Below.refl _ _).drew)
  refine hK.out _ _ ?_ (fun hHeld => ?_)
  ·exact ⟨M2.out.a0, M2.out.a1, M2.out.a2, M2.out.a3, M2.out.b0, M2.out.b1, M2.out.b2, M2.out.b3⟩
  clear hK K
  try simp only [Act.put, zA, zB, zC]
  refine tk18 (v := ?_) (by kernel_rfl) (by kernel_rfl) (by kernel_rfl) (fun _ _ _ h => h) (Or.inl ⟨by rfl, ?_⟩) hHeld ?_
  rotate_left
  ·(intro w hSw; (try dsimp only at hSw); go_simp; try with_reducible rfl)
  simp only [Act.put, zA, zB, zC]
  refine wpAnyH_done (by kernel_rfl) ?_ _
  go_wp2_with fail
  exact bodyPost_ret (v := .tuple #[.agg #[.bool uf, .int .i64 um, .int .i64 ua, .int .i64 ud], .bool false]) (by simp [results, Try.results72, go_sem, x0, x1, x2, x3]) rfl ⟨by simp [uV, uC], (by repeat' (first | (with_reducible exact B1.out) | (with_reducible refine Below.setCell ?_ ?_ _) | (with_reducible refine Below.alloc ?_ ?_ _) | (with_reducible refine Below.drew ?_) | (with_reducible refine below_drewN ?_ _) | (with_reducible exact Below.refl _ _) | omega | (simp; done) | (simp; omega)))⟩
set_option maxRecDepth 100000 in
set_option maxHeartbeats 6000000 in
theorem opChoice (u v x : U) (b off c : Nat) (w : World) (h2 : U2 w b off u v) (h3 : U2 w b (off + 4) v x) :
  Calls Try.prog 77 #[.slice (some ⟨b, off, none⟩) 3 c] w fun e w' => e = .returned (.tuple #[uV v, .bool (u.f && decide (v = x))]) ∧ RowKit.Below w.heap.size w w' := by
 have HE : ∀ (A B : Result Next), (if v.f = x.f then if v.m = x.m then if v.a = x.a then if v.d = x.d then A else B else B else B else B) = if decide (v = x) = true then A else B := fun A B => eqU_if _ _ _ _ _ _ _ _ A B
 have NB : b ≠ w.heap.size := by have := h2.lt; omega
 obtain ⟨W1, hW1⟩ : ∃ W1, W1 = w.alloc (.cells #[.bool false, .int .i64 0, .int .i64 0, .int .i64 0] 29) := ⟨_, rfl⟩
 have B1 := Lib.hid ((Below.refl w.heap.size w).alloc (Nat.le_refl _) (.cells #[.bool false, .int .i64 0, .int .i64 0, .int .i64 0] 29))
 have X1 := Lib.hid (BoxL.new w [.bool false, .int .i64 0, .int .i64 0, .int .i64 0] 29)
 rw [← hW1] at B1
 have X1' : Hid (BoxL W1 w.heap.size [.bool false, .int .i64 0, .int .i64 0, .int .i64 0]) := by rw [hW1]; exact X1.out
 clear X1
 have M1 := Lib.hid (h2.bel B1.out)
 have M3 := Lib.hid (h3.bel B1.out)
 clear h2 h3
 obtain ⟨R, hR⟩ : ∃ R, R = decide (v = x) := ⟨_, rfl⟩
 rw [← hR] at HE ⊢
 clear hR
 obtain ⟨uf, um, ua, ud⟩ := u
 obtain ⟨vf, vm, va, vd⟩ := v
 obtain ⟨xf, xm, xa, xd⟩ := x
 simp only at HE
 replace HE := Lib.hid HE
 obtain ⟨a0, a1, a2, a3, b0, b1, b2, b3⟩ := M1.out
 obtain ⟨-, -, -, -, d0, d1, d2, d3⟩ := M3.out
 simp only [Nat.add_assoc, Nat.reduceAdd] at d0 d1 d2 d3
 cases uf with
 | true =>
  go_enter Try.func77, Try.ntmps77
  go_wp2_with fail
  rw [← hW1]
  clear hW1
  have hS : W1.drew.cell? ⟨b, off, none⟩ = some (.bool true) ∧ W1.drew.cell? ⟨b, off + 1, none⟩ = some (.int .i64 um) ∧ W1.drew.cell? ⟨b, off + 2, none⟩ = some (.int .i64 ua) ∧ W1.drew.cell? ⟨b, off + 3, none⟩ = some (.int .i64 ud) ∧ W1.drew.cell? ⟨b, off + 4, none⟩ = some (.bool vf) ∧ W1.drew.cell? ⟨b, off + 5, none⟩ = some (.int .i64 vm) ∧ W1.drew.cell? ⟨b, off + 6, none⟩ = some (.int .i64 va) ∧ W1.drew.cell? ⟨b, off + 7, none⟩ = some (.int .i64 vd) ∧ W1.drew.cell? ⟨b, off + 8, none⟩ = some (.bool xf) ∧ W1.drew.cell? ⟨b, off + 9, none⟩ = some (.int .i64 xm) ∧ W1.drew.cell? ⟨b, off + 10, none⟩ = some (.int .i64 xa) ∧ W1.drew.cell? ⟨b, off + 11, none⟩ = some (.int .i64 xd) := ⟨a0, a1, a2, a3, b0, b1, b2, b3, d0, d1, d2, d3⟩
  refine wp_region_held (S := fun w' : World => w'.cell? ⟨b, off, none⟩ = some (.bool true) ∧ w'.cell? ⟨b, off + 1, none⟩ = some (.int .i64 um) ∧ w'.cell? ⟨b, off + 2, none⟩ = some (.int .i64 ua) ∧ w'.cell? ⟨b, off + 3, none⟩ = some (.int .i64 ud) ∧ w'.cell? ⟨b, off + 4, none⟩ = some (.bool vf) ∧ w'.cell? ⟨b, off + 5, none⟩ = some (.int .i64 vm) ∧ w'.cell? ⟨b, off + 6, none⟩ = some (.int .i64 va) ∧ w'.cell? ⟨b, off + 7, none⟩ = some (.int .i64 vd) ∧ w'.cell? ⟨b, off + 8, none⟩ = some (.bool xf) ∧ w'.cell? ⟨b, off + 9, none⟩ = some (.int .i64 xm) ∧ w'.cell? ⟨b, off + 10, none⟩ = some (.int .i64 xa) ∧ w'.cell? ⟨b, off + 11, none⟩ = some (.int .i64 xd)) mixed ?_
  change wpAnyH _ _ _ _ _ _ _ _ W1.drew
  refine tk0 (v := ?_) (by kernel_rfl) (by kernel_rfl) (by kernel_rfl) (fun _ _ _ h => h) (Or.inl ⟨by rfl, ?_⟩) hS ?_
  rotate_left
  ·(intro w hSw; (try dsimp only at hSw); go_simp; try with_reducible rfl)
  simp only [Act.put, zA, zB, zC]
  refine tk1 (v := ?_) (by kernel_rfl) (by kernel_rfl) (by kernel_rfl) (fun _ _ _ h => h) (Or.inl ⟨by rfl, ?_⟩) hS ?_
  rotate_left
  ·(intro w hSw; (try dsimp only at hSw); go_simp; try with_reducible rfl)
  simp only [Act.put, zA, zB, zC]
  refine tk2 (v := ?_) (by kernel_rfl) (by kernel_rfl) (by kernel_rfl) (fun _ _ _ h => h) (Or.inl ⟨by rfl, ?_⟩) hS ?_
  rotate_left
  ·(intro w hSw; (try dsimp only at hSw); go_simp; try with_reducible rfl)
  simp only [Act.put, zA, zB, zC]
  refine tk3 (v := ?_) (by kernel_rfl) (by kernel_rfl) (by kernel_rfl) (fun _ _ _ h => h) (Or.inl ⟨by rfl, ?_⟩) hS ?_
  rotate_left
  ·(intro w hSw; (try dsimp only at hSw); go_simp; try with_reducible rfl)
  simp only [Act.put, zA, zB, zC]
  refine tk4 (v := ?_) (by kernel_rfl) (by kernel_rfl) (by kernel_rfl) (fun _ _ _ h => h) (Or.inl ⟨by rfl, ?_⟩) hS ?_
  rotate_left
  ·(intro w hSw; (try dsimp only at hSw); go_simp; try with_reducible rfl)
  simp only [Act.put, zA, zB, zC]
  refine tk5 (v := ?_) (by kernel_rfl) (by kernel_rfl) (by kernel_rfl) (fun _ _ _ h => h) (Or.inl ⟨by rfl, ?_⟩) hS ?_
  rotate_left
  ·(intro w hSw; (try dsimp only at hSw); go_simp; try with_reducible rfl)
  simp only [Act.put, zA, zB, zC]
  refine tk6 (v := ?_) (by kernel_rfl) (by kernel_rfl) (by kernel_rfl) (fun _ _ _ h => h) (Or.inl ⟨by rfl, ?_⟩) hS ?_
  rotate_left
  ·(intro w hSw; (try dsimp only at hSw); go_simp; try with_reducible rfl)
  simp only [Act.put, zA, zB, zC]
  refine tk7 (v := ?_) (by kernel_rfl) (by kernel_rfl) (by kernel_rfl) (fun _ _ _ h => h) (Or.inl ⟨by rfl, ?_⟩) hS ?_
  rotate_left
  ·(intro w hSw; (try dsimp only at hSw); go_simp; try with_reducible rfl)
  simp only [Act.put, zA, zB, zC]
  refine tk8 (v := ?_) (by kernel_rfl) (by kernel_rfl) (by kernel_rfl) (fun _ _ _ h => h) (Or.inl ⟨by rfl, ?_⟩) hS ?_
  rotate_left
  ·(intro w hSw; (try dsimp only at hSw); go_simp; try with_reducible rfl)
  simp only [Act.put, zA, zB, zC]
  refine tk9 (v := ?_) (by kernel_rfl) (by kernel_rfl) (by kernel_rfl) (fun _ _ _ h => h) (Or.inl ⟨by rfl, ?_⟩) hS ?_
  rotate_left
  ·(intro w hSw; (try dsimp only at hSw); go_simp; try with_reducible rfl)
  simp only [Act.put, zA, zB, zC]
  refine tk10 (v := ?_) (by kernel_rfl) (by kernel_rfl) (by kernel_rfl) (fun _ _ _ h => h) (Or.inl ⟨by rfl, ?_⟩) hS ?_
  rotate_left
  ·(intro w hSw; (try dsimp only at hSw); go_simp; try with_reducible rfl)
  simp only [Act.put, zA, zB, zC]
  refine tk11 (v := ?_) (by kernel_rfl) (by kernel_rfl) (by kernel_rfl) (fun _ _ _ h => h) (Or.inl ⟨by rfl, ?_⟩) hS ?_
  rotate_left
  ·(intro w hSw; (try dsimp only at hSw); go_simp; try with_reducible rfl)
  simp only [Act.put, zA, zB, zC]
  refine tk12 (v := ?_) (by kernel_rfl) (by kernel_rfl) (by kernel_rfl) (fun _ _ _ h => h) (Or.inl ⟨by rfl, ?_⟩) hS ?_
  rotate_left
  ·(intro w hSw; (try dsimp only at hSw); go_simp; try with_reducible rfl)
  simp only [Act.put, zA, zB, zC]
  refine tk13 (v := ?_) (by kernel_rfl) (by kernel_rfl) (by kernel_rfl) (fun _ _ _ h => h) (Or.inl ⟨by rfl, ?_⟩) hS ?_
  rotate_left
  ·(intro w hSw; (try dsimp only at hSw); go_simp; try with_reducible rfl)
  simp only [Act.put, zA, zB, zC]
  refine tk14 (v := .bool R) (by kernel_rfl) (by kernel_rfl) (by kernel_rfl) (fun _ _ _ h => h) (Or.inl ⟨by rfl, (by intro w hSw; (try dsimp only at hSw); go_simp; rw [HE.out]; cases R <;> rfl)⟩) hS ?_
  simp only [Act.put, zA, zB, zC]
  refine tk15 (v := ?_) (by kernel_rfl) (by kernel_rfl) (by kernel_rfl) (fun _ _ _ h => h) (Or.inl ⟨by rfl, ?_⟩) hS ?_
  rotate_left
  ·(intro w hSw; (try dsimp only at hSw); go_simp; try with_reducible rfl)
  simp only [Act.put, zA, zB, zC]
  refine wpAnyH_ready (rs := [16]) (by kernel_rfl) (by simp) (st16 (fun K hK => ?_) AllReadyH.nil)
  obtain ⟨x0, x1, x2, x3, g0, g1, g2, g3⟩ := box4 X1'.out
  go_simp
  have M2 := Lib.hid ((((((M1.out).other NB 0 (.bool vf)).other NB 1 (.int .i64 vm)).other NB 2 (.int .i64 va)).other NB 3 (.int .i64 vd)).bel (Below.refl _ _).drew)
  have M4 := Lib.hid ((((((M3.out).other NB 0 (.bool vf)).other NB 1 (.int .i64 vm)).other NB 2 (.int .i64 va)).other NB 3 (.int .i64 vd)).bel (Below.refl _ _).drew)
  refine hK.out _ _ ?_ (fun hHeld => ?_)
  ·exact ⟨M2.out.a0, M2.out.a1, M2.out.a2, M2.out.a3, M2.out.b0, M2.out.b1, M2.out.b2, M2.out.b3, M4.out.b0, M4.out.b1, M4.out.b2, M4.out.b3⟩
  clear hK K
  try simp only [Act.put, zA, zB, zC]
  refine tk17 (v := ?_) (by kernel_rfl) (by kernel_rfl) (by kernel_rfl) (fun _ _ _ h => h) (Or.inl ⟨by rfl, ?_⟩) hHeld ?_
  rotate_left
  ·(intro w hSw; (try dsimp only at hSw); go_simp; try with_reducible rfl)
  simp only [Act.put, zA, zB, zC]
  refine wpAnyH_done (by kernel_rfl) ?_ _
  go_wp2_with fail
  exact bodyPost_ret (v := .tuple #[.agg #[.bool vf, .int .i64 vm, .int .i64 va, .int .i64 vd], .bool R]) (by simp [results, Try.results77, go_sem, x0, x1, x2, x3]) rfl ⟨by simp [uV, uC], (by repeat' (first | (with_reducible exact B1.out) | (with_reducible refine Below.setCell ?_ ?_ _) | (with_reducible refine Below.alloc ?_ ?_ _) | (with_reducible refine Below.drew ?_) | (with_reducible refine below_drewN ?_ _) | (with_reducible exact Below.refl _ _) | omega | (simp; done) | (simp; omega)))⟩
 | false =>
  go_enter Try.func77, Try.ntmps77
  go_wp2_with fail
  rw [← hW1]
  clear hW1
  have hS : W1.drew.cell? ⟨b, off, none⟩ = some (.bool false) ∧ W1.drew.cell? ⟨b, off + 1, none⟩ = some (.int .i64 um) ∧ W1.drew.cell? ⟨b, off + 2, none⟩ = some (.int .i64 ua) ∧ W1.drew.cell? ⟨b, off + 3, none⟩ = some (.int .i64 ud) ∧ W1.drew.cell? ⟨b, off + 4, none⟩ = some (.bool vf) ∧ W1.drew.cell? ⟨b, off + 5, none⟩ = some (.int .i64 vm) ∧ W1.drew.cell? ⟨b, off + 6, none⟩ = some (.int .i64 va) ∧ W1.drew.cell? ⟨b, off + 7, none⟩ = some (.int .i64 vd) ∧ W1.drew.cell? ⟨b, off + 8, none⟩ = some (.bool xf) ∧ W1.drew.cell? ⟨b, off + 9, none⟩ = some (.int .i64 xm) ∧ W1.drew.cell? ⟨b, off + 10, none⟩ = some (.int .i64 xa) ∧ W1.drew.cell? ⟨b, off + 11, none⟩ = some (.int .i64 xd) := ⟨a0, a1, a2, a3, b0, b1, b2, b3, d0, d1, d2, d3⟩
  refine wp_region_held (S := fun w' : World => w'.cell? ⟨b, off, none⟩ = some (.bool false) ∧ w'.cell? ⟨b, off + 1, none⟩ = some (.int .i64 um) ∧ w'.cell? ⟨b, off + 2, none⟩ = some (.int .i64 ua) ∧ w'.cell? ⟨b, off + 3, none⟩ = some (.int .i64 ud) ∧ w'.cell? ⟨b, off + 4, none⟩ = some (.bool vf) ∧ w'.cell? ⟨b, off + 5, none⟩ = some (.int .i64 vm) ∧ w'.cell? ⟨b, off + 6, none⟩ = some (.int .i64 va) ∧ w'.cell? ⟨b, off + 7, none⟩ = some (.int .i64 vd) ∧ w'.cell? ⟨b, off + 8, none⟩ = some (.bool xf) ∧ w'.cell? ⟨b, off + 9, none⟩ = some (.int .i64 xm) ∧ w'.cell? ⟨b, off + 10, none⟩ = some (.int .i64 xa) ∧ w'.cell? ⟨b, off + 11, none⟩ = some (.int .i64 xd)) mixed ?_
  change wpAnyH _ _ _ _ _ _ _ _ W1.drew
  refine tk0 (v := ?_) (by kernel_rfl) (by kernel_rfl) (by kernel_rfl) (fun _ _ _ h => h) (Or.inl ⟨by rfl, ?_⟩) hS ?_
  rotate_left
  ·(intro w hSw; (try dsimp only at hSw); go_simp; try with_reducible rfl)
  simp only [Act.put, zA, zB, zC]
  refine tk1 (v := ?_) (by kernel_rfl) (by kernel_rfl) (by kernel_rfl) (fun _ _ _ h => h) (Or.inl ⟨by rfl, ?_⟩) hS ?_
  rotate_left
  ·(intro w hSw; (try dsimp only at hSw); go_simp; try with_reducible rfl)
  simp only [Act.put, zA, zB, zC]
  refine tk2 (v := ?_) (by kernel_rfl) (by kernel_rfl) (by kernel_rfl) (fun _ _ _ h => h) (Or.inl ⟨by rfl, ?_⟩) hS ?_
  rotate_left
  ·(intro w hSw; (try dsimp only at hSw); go_simp; try with_reducible rfl)
  simp only [Act.put, zA, zB, zC]
  refine tk3 (v := ?_) (by kernel_rfl) (by kernel_rfl) (by kernel_rfl) (fun _ _ _ h => h) (Or.inl ⟨by rfl, ?_⟩) hS ?_
  rotate_left
  ·(intro w hSw; (try dsimp only at hSw); go_simp; try with_reducible rfl)
  simp only [Act.put, zA, zB, zC]
  refine tk4 (v := ?_) (by kernel_rfl) (by kernel_rfl) (by kernel_rfl) (fun _ _ _ h => h) (Or.inl ⟨by rfl, ?_⟩) hS ?_
  rotate_left
  ·(intro w hSw; (try dsimp only at hSw); go_simp; try with_reducible rfl)
  simp only [Act.put, zA, zB, zC]
  refine tk5 (v := ?_) (by kernel_rfl) (by kernel_rfl) (by kernel_rfl) (fun _ _ _ h => h) (Or.inl ⟨by rfl, ?_⟩) hS ?_
  rotate_left
  ·(intro w hSw; (try dsimp only at hSw); go_simp; try with_reducible rfl)
  simp only [Act.put, zA, zB, zC]
  refine tk6 (v := ?_) (by kernel_rfl) (by kernel_rfl) (by kernel_rfl) (fun _ _ _ h => h) (Or.inl ⟨by rfl, ?_⟩) hS ?_
  rotate_left
  ·(intro w hSw; (try dsimp only at hSw); go_simp; try with_reducible rfl)
  simp only [Act.put, zA, zB, zC]
  refine tk7 (v := ?_) (by kernel_rfl) (by kernel_rfl) (by kernel_rfl) (fun _ _ _ h => h) (Or.inl ⟨by rfl, ?_⟩) hS ?_
  rotate_left
  ·(intro w hSw; (try dsimp only at hSw); go_simp; try with_reducible rfl)
  simp only [Act.put, zA, zB, zC]
  refine tk8 (v := undef) (by kernel_rfl) (by kernel_rfl) (by kernel_rfl) (fun _ _ _ h => h) (Or.inr ⟨by rfl, rfl⟩) hS ?_
  simp only [Act.put, zA, zB, zC]
  refine tk9 (v := undef) (by kernel_rfl) (by kernel_rfl) (by kernel_rfl) (fun _ _ _ h => h) (Or.inr ⟨by rfl, rfl⟩) hS ?_
  simp only [Act.put, zA, zB, zC]
  refine tk10 (v := undef) (by kernel_rfl) (by kernel_rfl) (by kernel_rfl) (fun _ _ _ h => h) (Or.inr ⟨by rfl, rfl⟩) hS ?_
  simp only [Act.put, zA, zB, zC]
  refine tk11 (v := undef) (by kernel_rfl) (by kernel_rfl) (by kernel_rfl) (fun _ _ _ h => h) (Or.inr ⟨by rfl, rfl⟩) hS ?_
  simp only [Act.put, zA, zB, zC]
  refine tk12 (v := undef) (by kernel_rfl) (by kernel_rfl) (by kernel_rfl) (fun _ _ _ h => h) (Or.inr ⟨by rfl, rfl⟩) hS ?_
  simp only [Act.put, zA, zB, zC]
  refine tk13 (v := undef) (by kernel_rfl) (by kernel_rfl) (by kernel_rfl) (fun _ _ _ h => h) (Or.inr ⟨by rfl, rfl⟩) hS ?_
  simp only [Act.put, zA, zB, zC]
  refine tk14 (v := undef) (by kernel_rfl) (by kernel_rfl) (by kernel_rfl) (fun _ _ _ h => h) (Or.inr ⟨by rfl, rfl⟩) hS ?_
  simp only [Act.put, zA, zB, zC]
  refine tk15 (v := ?_) (by kernel_rfl) (by kernel_rfl) (by kernel_rfl) (fun _ _ _ h => h) (Or.inl ⟨by rfl, ?_⟩) hS ?_
  rotate_left
  ·(intro w hSw; (try dsimp only at hSw); go_simp; try with_reducible rfl)
  simp only [Act.put, zA, zB, zC]
  refine wpAnyH_ready (rs := [16]) (by kernel_rfl) (by simp) (st16 (fun K hK => ?_) AllReadyH.nil)
  obtain ⟨x0, x1, x2, x3, g0, g1, g2, g3⟩ := box4 X1'.out
  go_simp
  have M2 := Lib.hid ((((((M1.out).other NB 0 (.bool vf)).other NB 1 (.int .i64 vm)).other NB 2 (.int .i64 va)).other NB 3 (.int .i64 vd)).bel (Below.refl _ _).drew)
  have M4 := Lib.hid ((((((M3.out).other NB 0 (.bool vf)).other NB 1 (.int .i64 vm)).other NB 2 (.int .i64 va)).other NB 3 (.int .i64 vd)).bel (Below.refl _ _).drew)
  refine hK.out _ _ ?_ (fun hHeld => ?_)
  ·exact ⟨M2.out.a0, M2.out.a1, M2.out.a2, M2.out.a3, M2.out.b0, M2.out.b1, M2.out.b2, M2.out.b3, M4.out.b0, M4.out.b1, M4.out.b2, M4.out.b3⟩
  clear hK K
  try simp only [Act.put, zA, zB, zC]
  refine tk17 (v := ?_) (by kernel_rfl) (by kernel_rfl) (by kernel_rfl) (fun _ _ _ h => h) (Or.inl ⟨by rfl, ?_⟩) hHeld ?_
  rotate_left
  ·(intro w hSw; (try dsimp only at hSw); go_simp; try with_reducible rfl)
  simp only [Act.put, zA, zB, zC]
  refine wpAnyH_done (by kernel_rfl) ?_ _
  go_wp2_with fail
  exact bodyPost_ret (v := .tuple #[.agg #[.bool vf, .int .i64 vm, .int .i64 va, .int .i64 vd], .bool false]) (by simp [results, Try.results77, go_sem, x0, x1, x2, x3]) rfl ⟨by simp [uV, uC], (by repeat' (first | (with_reducible exact B1.out) | (with_reducible refine Below.setCell ?_ ?_ _) | (with_reducible refine Below.alloc ?_ ?_ _) | (with_reducible refine Below.drew ?_) | (with_reducible refine below_drewN ?_ _) | (with_reducible exact Below.refl _ _) | omega | (simp; done) | (simp; omega)))⟩
end Go.Proofs.Ytoaonficdkgfiaa
