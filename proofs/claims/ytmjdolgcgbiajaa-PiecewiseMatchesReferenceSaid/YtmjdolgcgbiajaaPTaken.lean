/-
  Contract of the reference's taken.
-/
import Derived.Test.YtmjdolgcgbiajaaPRAdd
namespace Go.Proofs.Ytmjdolgcgbiajaa
open Go.RowKit Go.Shelf Pw

set_option maxRecDepth 100000 in
set_option maxHeartbeats 2000000 in
theorem rtaken_true (P Q : RP) (x n d : Int) (w : World) (K : Hid (∀ w, Calls Try.prog 45 #[.agg #[.int .i64 P.f, .int .i64 P.vn, .int .i64 P.vd, .int .i64 P.sn, .int .i64 P.sd], .int .i64 x] w fun e w' => e = .returned (.agg #[.int .i64 n, .int .i64 d]) ∧ RowKit.Below w.heap.size w w')) :
    Calls Try.prog 55 #[.agg #[.int .i64 P.f, .int .i64 P.vn, .int .i64 P.vd, .int .i64 P.sn, .int .i64 P.sd], .agg #[.int .i64 Q.f, .int .i64 Q.vn, .int .i64 Q.vd, .int .i64 Q.sn, .int .i64 Q.sd], .bool true, .int .i64 x] w fun e w' =>
      e = .returned (.agg #[.int .i64 x, .int .i64 n, .int .i64 d, .int .i64 P.sn, .int .i64 P.sd]) ∧ RowKit.Below w.heap.size w w' := by
  go_enter Try.func55, Try.ntmps55
  go_wp2_with fail
  refine wp_region_dr mixed ?_
  have pA : PcB (((w.alloc (.cells #[.int .i64 P.f, .int .i64 P.vn, .int .i64 P.vd, .int .i64 P.sn, .int .i64 P.sd] 51)).alloc (.cells #[.int .i64 Q.f, .int .i64 Q.vn, .int .i64 Q.vd, .int .i64 Q.sn, .int .i64 Q.sd] 51)).alloc (.cells #[.int .i64 0, .int .i64 0, .int .i64 0, .int .i64 0, .int .i64 0] 51)) w.heap.size P := by
    unfold PcB
    rw [Below.heap_alloc _ _ _ (by simp; omega), Below.heap_alloc _ _ _ (by simp)]
    exact World.alloc_heap_new w _
  have qA : PcB (((w.alloc (.cells #[.int .i64 P.f, .int .i64 P.vn, .int .i64 P.vd, .int .i64 P.sn, .int .i64 P.sd] 51)).alloc (.cells #[.int .i64 Q.f, .int .i64 Q.vn, .int .i64 Q.vd, .int .i64 Q.sn, .int .i64 Q.sd] 51)).alloc (.cells #[.int .i64 0, .int .i64 0, .int .i64 0, .int .i64 0, .int .i64 0] 51)) (w.heap.size + 1) Q := by
    unfold PcB
    rw [Below.heap_alloc _ _ _ (by simp)]
    have := World.alloc_heap_new (w.alloc (.cells #[.int .i64 P.f, .int .i64 P.vn, .int .i64 P.vd, .int .i64 P.sn, .int .i64 P.sd] 51)) (.cells #[.int .i64 Q.f, .int .i64 Q.vn, .int .i64 Q.vd, .int .i64 Q.sn, .int .i64 Q.sd] 51)
    rwa [World.size_alloc] at this
  have zA : PcB (((w.alloc (.cells #[.int .i64 P.f, .int .i64 P.vn, .int .i64 P.vd, .int .i64 P.sn, .int .i64 P.sd] 51)).alloc (.cells #[.int .i64 Q.f, .int .i64 Q.vn, .int .i64 Q.vd, .int .i64 Q.sn, .int .i64 Q.sd] 51)).alloc (.cells #[.int .i64 0, .int .i64 0, .int .i64 0, .int .i64 0, .int .i64 0] 51)) (w.heap.size + 1 + 1) ⟨0, 0, 0, 0, 0⟩ := by
    have := World.alloc_heap_new ((w.alloc (.cells #[.int .i64 P.f, .int .i64 P.vn, .int .i64 P.vd, .int .i64 P.sn, .int .i64 P.sd] 51)).alloc (.cells #[.int .i64 Q.f, .int .i64 Q.vn, .int .i64 Q.vd, .int .i64 Q.sn, .int .i64 Q.sd] 51)) (.cells #[.int .i64 0, .int .i64 0, .int .i64 0, .int .i64 0, .int .i64 0] 51)
    rwa [World.size_alloc, World.size_alloc] at this
  have hbA : RowKit.Below w.heap.size w (((w.alloc (.cells #[.int .i64 P.f, .int .i64 P.vn, .int .i64 P.vd, .int .i64 P.sn, .int .i64 P.sd] 51)).alloc (.cells #[.int .i64 Q.f, .int .i64 Q.vn, .int .i64 Q.vd, .int .i64 Q.sn, .int .i64 Q.sd] 51)).alloc (.cells #[.int .i64 0, .int .i64 0, .int .i64 0, .int .i64 0, .int .i64 0] 51)) := (by repeat' (first | (with_reducible refine Below.setCell ?_ ?_ _) | (with_reducible refine Below.alloc ?_ ?_ _) | (with_reducible refine Below.drew ?_) | (with_reducible refine below_drewN ?_ _) | (with_reducible exact Below.refl _ _) | omega | (simp; done) | (simp; omega)))
  obtain ⟨A, hA⟩ : ∃ A, A = ((w.alloc (.cells #[.int .i64 P.f, .int .i64 P.vn, .int .i64 P.vd, .int .i64 P.sn, .int .i64 P.sd] 51)).alloc (.cells #[.int .i64 Q.f, .int .i64 Q.vn, .int .i64 Q.vd, .int .i64 Q.sn, .int .i64 Q.sd] 51)).alloc (.cells #[.int .i64 0, .int .i64 0, .int .i64 0, .int .i64 0, .int .i64 0] 51) := ⟨_, rfl⟩
  rw [← hA] at pA qA zA hbA ⊢
  clear hA
  have hd : RowKit.Below A.heap.size A A.drew := (Below.refl _ A).drew
  have p1 := pA.below hd
  have z1 := zA.below hd
  have hb1 := hbA.trans (hd.mono hbA.size)
  have hS1 := p1.all
  generalize A.drew = V at *
  clear hd pA qA zA hbA
  refine wpAny_of_held (S := (fun w' => w'.cell? ⟨w.heap.size, 0, none⟩ = some (.int .i64 P.f) ∧ w'.cell? ⟨w.heap.size, 1, none⟩ = some (.int .i64 P.vn) ∧ w'.cell? ⟨w.heap.size, 2, none⟩ = some (.int .i64 P.vd) ∧ w'.cell? ⟨w.heap.size, 3, none⟩ = some (.int .i64 P.sn) ∧ w'.cell? ⟨w.heap.size, 4, none⟩ = some (.int .i64 P.sd))) _ _ _ _ ?_
  refine tk0 (v := ?_) (by kernel_rfl) (by kernel_rfl) (by kernel_rfl) (fun _ _ _ h => h) (Or.inl ⟨by rfl, ?_⟩) hS1 ?_
  rotate_left
  · (intro w hSw; (try dsimp only at hSw); go_simp; try with_reducible rfl)
  simp only [Act.put, List.setIfInBounds_toArray, List.set_cons_zero, List.set_cons_succ]
  refine tk1 (v := ?_) (by kernel_rfl) (by kernel_rfl) (by kernel_rfl) (fun _ _ _ h => h) (Or.inl ⟨by rfl, ?_⟩) hS1 ?_
  rotate_left
  · (intro w hSw; (try dsimp only at hSw); go_simp; try with_reducible rfl)
  simp only [Act.put, List.setIfInBounds_toArray, List.set_cons_zero, List.set_cons_succ]
  refine tk2 (v := ?_) (by kernel_rfl) (by kernel_rfl) (by kernel_rfl) (fun _ _ _ h => h) (Or.inl ⟨by rfl, ?_⟩) hS1 ?_
  rotate_left
  · (intro w hSw; (try dsimp only at hSw); go_simp; try with_reducible rfl)
  simp only [Act.put, List.setIfInBounds_toArray, List.set_cons_zero, List.set_cons_succ]
  refine tk4 (v := ?_) (by kernel_rfl) (by kernel_rfl) (by kernel_rfl) (fun _ _ _ h => h) (Or.inl ⟨by rfl, ?_⟩) hS1 ?_
  rotate_left
  · (intro w hSw; (try dsimp only at hSw); go_simp; try with_reducible rfl)
  simp only [Act.put, List.setIfInBounds_toArray, List.set_cons_zero, List.set_cons_succ]
  refine tk5 (v := ?_) (by kernel_rfl) (by kernel_rfl) (by kernel_rfl) (fun _ _ _ h => h) (Or.inl ⟨by rfl, ?_⟩) hS1 ?_
  rotate_left
  · (intro w hSw; (try dsimp only at hSw); go_simp; try with_reducible rfl)
  simp only [Act.put, List.setIfInBounds_toArray, List.set_cons_zero, List.set_cons_succ]
  refine wpAnyH_ready (rs := [3]) (by kernel_rfl) (by simp) (st3 (fun K' hK => ?_) AllReadyH.nil)
  go_simp
  refine (K.out _).mono ?_
  rintro _ V2 ⟨rfl, hb⟩
  go_wp2_with fail
  have p2 := p1.below hb
  have z2 := z1.below hb
  have hb2 := hb1.trans (hb.mono hb1.size)
  clear hb
  refine hK.out _ _ ?_ (fun hHeld => ?_)
  · exact p2.all
  clear hK K'
  try simp only [Act.put, List.setIfInBounds_toArray, List.set_cons_zero, List.set_cons_succ]
  refine tk6 (v := ?_) (by kernel_rfl) (by kernel_rfl) (by kernel_rfl) (fun _ _ _ h => h) (Or.inl ⟨by rfl, ?_⟩) hHeld ?_
  rotate_left
  · (intro w hSw; (try dsimp only at hSw); go_simp; try with_reducible rfl)
  simp only [Act.put, List.setIfInBounds_toArray, List.set_cons_zero, List.set_cons_succ]
  refine wpAnyH_ready (rs := [7]) (by kernel_rfl) (by simp) (st7 (fun K' hK => ?_) AllReadyH.nil)
  obtain ⟨f0, f1, f2, f3, f4⟩ := z2.fz
  obtain ⟨c0, c1, c2, c3, c4⟩ := z2.all
  go_simp
  have p3 : PcB (putP V2 (w.heap.size + 1 + 1) ⟨x, n, d, P.sn, P.sd⟩) (w.heap.size) P := (putP_other V2 _ (by omega)).trans p2
  refine hK.out _ _ ?_ (fun hHeld => ?_)
  · exact p3.all
  clear hK K'
  try simp only [Act.put, List.setIfInBounds_toArray, List.set_cons_zero, List.set_cons_succ]
  refine wpAnyH_done (by kernel_rfl) ?_ _
  go_wp2
  exact bodyPost_ret (v := .agg #[.int .i64 x, .int .i64 n, .int .i64 d, .int .i64 P.sn, .int .i64 P.sd]) (by simp [results, Try.results55, go_sem, c0, c1, c2, c3, c4]) rfl ⟨rfl, (by repeat' (first | (with_reducible exact hb2) | (with_reducible refine Below.setCell ?_ ?_ _) | (with_reducible refine Below.alloc ?_ ?_ _) | (with_reducible refine Below.drew ?_) | (with_reducible refine below_drewN ?_ _) | (with_reducible exact Below.refl _ _) | omega | (simp; done) | (simp; omega)))⟩
set_option maxRecDepth 100000 in
set_option maxHeartbeats 2000000 in
theorem rtaken_false (P Q : RP) (x n d : Int) (w : World) (K : Hid (∀ w, Calls Try.prog 45 #[.agg #[.int .i64 Q.f, .int .i64 Q.vn, .int .i64 Q.vd, .int .i64 Q.sn, .int .i64 Q.sd], .int .i64 x] w fun e w' => e = .returned (.agg #[.int .i64 n, .int .i64 d]) ∧ RowKit.Below w.heap.size w w')) :
    Calls Try.prog 55 #[.agg #[.int .i64 P.f, .int .i64 P.vn, .int .i64 P.vd, .int .i64 P.sn, .int .i64 P.sd], .agg #[.int .i64 Q.f, .int .i64 Q.vn, .int .i64 Q.vd, .int .i64 Q.sn, .int .i64 Q.sd], .bool false, .int .i64 x] w fun e w' =>
      e = .returned (.agg #[.int .i64 x, .int .i64 n, .int .i64 d, .int .i64 Q.sn, .int .i64 Q.sd]) ∧ RowKit.Below w.heap.size w w' := by
  go_enter Try.func55, Try.ntmps55
  go_wp2_with fail
  refine wp_region_dr mixed ?_
  have pA : PcB (((w.alloc (.cells #[.int .i64 P.f, .int .i64 P.vn, .int .i64 P.vd, .int .i64 P.sn, .int .i64 P.sd] 51)).alloc (.cells #[.int .i64 Q.f, .int .i64 Q.vn, .int .i64 Q.vd, .int .i64 Q.sn, .int .i64 Q.sd] 51)).alloc (.cells #[.int .i64 0, .int .i64 0, .int .i64 0, .int .i64 0, .int .i64 0] 51)) w.heap.size P := by
    unfold PcB
    rw [Below.heap_alloc _ _ _ (by simp; omega), Below.heap_alloc _ _ _ (by simp)]
    exact World.alloc_heap_new w _
  have qA : PcB (((w.alloc (.cells #[.int .i64 P.f, .int .i64 P.vn, .int .i64 P.vd, .int .i64 P.sn, .int .i64 P.sd] 51)).alloc (.cells #[.int .i64 Q.f, .int .i64 Q.vn, .int .i64 Q.vd, .int .i64 Q.sn, .int .i64 Q.sd] 51)).alloc (.cells #[.int .i64 0, .int .i64 0, .int .i64 0, .int .i64 0, .int .i64 0] 51)) (w.heap.size + 1) Q := by
    unfold PcB
    rw [Below.heap_alloc _ _ _ (by simp)]
    have := World.alloc_heap_new (w.alloc (.cells #[.int .i64 P.f, .int .i64 P.vn, .int .i64 P.vd, .int .i64 P.sn, .int .i64 P.sd] 51)) (.cells #[.int .i64 Q.f, .int .i64 Q.vn, .int .i64 Q.vd, .int .i64 Q.sn, .int .i64 Q.sd] 51)
    rwa [World.size_alloc] at this
  have zA : PcB (((w.alloc (.cells #[.int .i64 P.f, .int .i64 P.vn, .int .i64 P.vd, .int .i64 P.sn, .int .i64 P.sd] 51)).alloc (.cells #[.int .i64 Q.f, .int .i64 Q.vn, .int .i64 Q.vd, .int .i64 Q.sn, .int .i64 Q.sd] 51)).alloc (.cells #[.int .i64 0, .int .i64 0, .int .i64 0, .int .i64 0, .int .i64 0] 51)) (w.heap.size + 1 + 1) ⟨0, 0, 0, 0, 0⟩ := by
    have := World.alloc_heap_new ((w.alloc (.cells #[.int .i64 P.f, .int .i64 P.vn, .int .i64 P.vd, .int .i64 P.sn, .int .i64 P.sd] 51)).alloc (.cells #[.int .i64 Q.f, .int .i64 Q.vn, .int .i64 Q.vd, .int .i64 Q.sn, .int .i64 Q.sd] 51)) (.cells #[.int .i64 0, .int .i64 0, .int .i64 0, .int .i64 0, .int .i64 0] 51)
    rwa [World.size_alloc, World.size_alloc] at this
  have hbA : RowKit.Below w.heap.size w (((w.alloc (.cells #[.int .i64 P.f, .int .i64 P.vn, .int .i64 P.vd, .int .i64 P.sn, .int .i64 P.sd] 51)).alloc (.cells #[.int .i64 Q.f, .int .i64 Q.vn, .int .i64 Q.vd, .int .i64 Q.sn, .int .i64 Q.sd] 51)).alloc (.cells #[.int .i64 0, .int .i64 0, .int .i64 0, .int .i64 0, .int .i64 0] 51)) := (by repeat' (first | (with_reducible refine Below.setCell ?_ ?_ _) | (with_reducible refine Below.alloc ?_ ?_ _) | (with_reducible refine Below.drew ?_) | (with_reducible refine below_drewN ?_ _) | (with_reducible exact Below.refl _ _) | omega | (simp; done) | (simp; omega)))
  obtain ⟨A, hA⟩ : ∃ A, A = ((w.alloc (.cells #[.int .i64 P.f, .int .i64 P.vn, .int .i64 P.vd, .int .i64 P.sn, .int .i64 P.sd] 51)).alloc (.cells #[.int .i64 Q.f, .int .i64 Q.vn, .int .i64 Q.vd, .int .i64 Q.sn, .int .i64 Q.sd] 51)).alloc (.cells #[.int .i64 0, .int .i64 0, .int .i64 0, .int .i64 0, .int .i64 0] 51) := ⟨_, rfl⟩
  rw [← hA] at pA qA zA hbA ⊢
  clear hA
  have hd : RowKit.Below A.heap.size A A.drew := (Below.refl _ A).drew
  have p1 := qA.below hd
  have z1 := zA.below hd
  have hb1 := hbA.trans (hd.mono hbA.size)
  have hS1 := p1.all
  generalize A.drew = V at *
  clear hd pA qA zA hbA
  refine wpAny_of_held (S := (fun w' => w'.cell? ⟨w.heap.size + 1, 0, none⟩ = some (.int .i64 Q.f) ∧ w'.cell? ⟨w.heap.size + 1, 1, none⟩ = some (.int .i64 Q.vn) ∧ w'.cell? ⟨w.heap.size + 1, 2, none⟩ = some (.int .i64 Q.vd) ∧ w'.cell? ⟨w.heap.size + 1, 3, none⟩ = some (.int .i64 Q.sn) ∧ w'.cell? ⟨w.heap.size + 1, 4, none⟩ = some (.int .i64 Q.sd))) _ _ _ _ ?_
  refine tk0 (v := ?_) (by kernel_rfl) (by kernel_rfl) (by kernel_rfl) (fun _ _ _ h => h) (Or.inl ⟨by rfl, ?_⟩) hS1 ?_
  rotate_left
  · (intro w hSw; (try dsimp only at hSw); go_simp; try with_reducible rfl)
  simp only [Act.put, List.setIfInBounds_toArray, List.set_cons_zero, List.set_cons_succ]
  refine tk1 (v := ?_) (by kernel_rfl) (by kernel_rfl) (by kernel_rfl) (fun _ _ _ h => h) (Or.inl ⟨by rfl, ?_⟩) hS1 ?_
  rotate_left
  · (intro w hSw; (try dsimp only at hSw); go_simp; try with_reducible rfl)
  simp only [Act.put, List.setIfInBounds_toArray, List.set_cons_zero, List.set_cons_succ]
  refine tk2 (v := ?_) (by kernel_rfl) (by kernel_rfl) (by kernel_rfl) (fun _ _ _ h => h) (Or.inl ⟨by rfl, ?_⟩) hS1 ?_
  rotate_left
  · (intro w hSw; (try dsimp only at hSw); go_simp; try with_reducible rfl)
  simp only [Act.put, List.setIfInBounds_toArray, List.set_cons_zero, List.set_cons_succ]
  refine tk4 (v := ?_) (by kernel_rfl) (by kernel_rfl) (by kernel_rfl) (fun _ _ _ h => h) (Or.inl ⟨by rfl, ?_⟩) hS1 ?_
  rotate_left
  · (intro w hSw; (try dsimp only at hSw); go_simp; try with_reducible rfl)
  simp only [Act.put, List.setIfInBounds_toArray, List.set_cons_zero, List.set_cons_succ]
  refine tk5 (v := ?_) (by kernel_rfl) (by kernel_rfl) (by kernel_rfl) (fun _ _ _ h => h) (Or.inl ⟨by rfl, ?_⟩) hS1 ?_
  rotate_left
  · (intro w hSw; (try dsimp only at hSw); go_simp; try with_reducible rfl)
  simp only [Act.put, List.setIfInBounds_toArray, List.set_cons_zero, List.set_cons_succ]
  refine wpAnyH_ready (rs := [3]) (by kernel_rfl) (by simp) (st3 (fun K' hK => ?_) AllReadyH.nil)
  go_simp
  refine (K.out _).mono ?_
  rintro _ V2 ⟨rfl, hb⟩
  go_wp2_with fail
  have p2 := p1.below hb
  have z2 := z1.below hb
  have hb2 := hb1.trans (hb.mono hb1.size)
  clear hb
  refine hK.out _ _ ?_ (fun hHeld => ?_)
  · exact p2.all
  clear hK K'
  try simp only [Act.put, List.setIfInBounds_toArray, List.set_cons_zero, List.set_cons_succ]
  refine tk6 (v := ?_) (by kernel_rfl) (by kernel_rfl) (by kernel_rfl) (fun _ _ _ h => h) (Or.inl ⟨by rfl, ?_⟩) hHeld ?_
  rotate_left
  · (intro w hSw; (try dsimp only at hSw); go_simp; try with_reducible rfl)
  simp only [Act.put, List.setIfInBounds_toArray, List.set_cons_zero, List.set_cons_succ]
  refine wpAnyH_ready (rs := [7]) (by kernel_rfl) (by simp) (st7 (fun K' hK => ?_) AllReadyH.nil)
  obtain ⟨f0, f1, f2, f3, f4⟩ := z2.fz
  obtain ⟨c0, c1, c2, c3, c4⟩ := z2.all
  go_simp
  have p3 : PcB (putP V2 (w.heap.size + 1 + 1) ⟨x, n, d, Q.sn, Q.sd⟩) (w.heap.size + 1) Q := (putP_other V2 _ (by omega)).trans p2
  refine hK.out _ _ ?_ (fun hHeld => ?_)
  · exact p3.all
  clear hK K'
  try simp only [Act.put, List.setIfInBounds_toArray, List.set_cons_zero, List.set_cons_succ]
  refine wpAnyH_done (by kernel_rfl) ?_ _
  go_wp2
  exact bodyPost_ret (v := .agg #[.int .i64 x, .int .i64 n, .int .i64 d, .int .i64 Q.sn, .int .i64 Q.sd]) (by simp [results, Try.results55, go_sem, c0, c1, c2, c3, c4]) rfl ⟨rfl, (by repeat' (first | (with_reducible exact hb2) | (with_reducible refine Below.setCell ?_ ?_ _) | (with_reducible refine Below.alloc ?_ ?_ _) | (with_reducible refine Below.drew ?_) | (with_reducible refine below_drewN ?_ _) | (with_reducible exact Below.refl _ _) | omega | (simp; done) | (simp; omega)))⟩
end Go.Proofs.Ytmjdolgcgbiajaa
