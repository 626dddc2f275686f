/-
  Contract of the reference: SameCodex, for by-laws whose facts and rules are equal one by one.
  What Parse gives, in one form for by-laws and for errors.
  By-laws as rows of values: when SameCodex says that they are equal, but for their places.
-/
import Derived.Test.YtedbpjcglnkjmaaGreatDoorZO
import Derived.Test.YtedbpjcglnkjmaaGreatDoorZP
import Derived.Test.YtedbpjcglnkjmaaGreatDoorZQ
namespace Go.Proofs.YtedbpjcglnkjmaaGreatDoor
open Go.RowKit Lx Pa

theorem load_row_at (T n : Nat) (hu : (Tryz.prog.underlying T).map (fun d => match d with | .struct _ | .array _ _ => true | _ => false) = some true) (hi : (Tryz.prog.info? T).map (·.size) = some n) (w : World) (b o : Nat) (l : List Value) (hl : l.length = n) (h : ∀ j v, l[j]? = some v → w.cell? ⟨b, o + j, none⟩ = some v) : (Instr.loadAt T (.pointer (some ⟨b, o, none⟩))).run Tryz.prog w = .ok (.agg l.toArray) w := by
  have hc : (loadCells ⟨b, o, none⟩ l.length).run Tryz.prog w = .ok l.toArray w := run_loadCells_list (P := Tryz.prog) w ⟨b, o, none⟩ l (fun j v hv => by
      rw [addr_add]; exact h j v hv)
  obtain ⟨d, hd, hd2⟩ := Option.map_eq_some_iff.1 hu
  obtain ⟨i, hi1, hi2⟩ := Option.map_eq_some_iff.1 hi
  subst hl
  have hagg : (isAgg T).run Tryz.prog w = .ok true w := by
    unfold isAgg
    rw [Sem.run_bind, run_underlying hd w]
    cases d <;> simp_all
  simp [Instr.loadAt, Instr.sureAddr, loadVar, Sem.run_bind, hagg, sizeOf, typeInfo, hi1, hi2, hc]
theorem flat_len {s : Nat} : ∀ (L : List (List Value)), (∀ l ∈ L, l.length = s) → L.flatten.length = L.length * s
  | [], _ => by simp
  | l :: L, h => by
    rw [List.flatten_cons, List.length_append, flat_len L (fun x hx => h x (List.mem_cons_of_mem _ hx)), h l (List.mem_cons_self ..), List.length_cons, Nat.succ_mul, Nat.add_comm]
theorem flat_at {s : Nat} : ∀ (L : List (List Value)) (i : Nat) (h : i < L.length), (∀ l ∈ L, l.length = s) → ∀ (j : Nat) (v : Value), L[i][j]? = some v → L.flatten[i * s + j]? = some v
  | l :: L, 0, _, hs, j, v, h => by
    have h : l[j]? = some v := h
    rw [List.flatten_cons, Nat.zero_mul, Nat.zero_add, List.getElem?_append_left (List.getElem?_eq_some_iff.1 h).1]; exact h
  | l :: L, i + 1, hi, hs, j, v, h => by
    have := flat_at L i (by simpa using hi) (fun x hx => hs x (List.mem_cons_of_mem _ hx)) j v h
    rw [List.flatten_cons, List.getElem?_append_right (by rw [hs l (List.mem_cons_self ..), Nat.succ_mul]; omega), hs l (List.mem_cons_self ..), show (i + 1) * s + j - s = i * s + j by rw [Nat.succ_mul]; omega]
    exact this
theorem flat_pos {w : World} {b : Nat} {l : List Value} (_ : RowAt w b l) {j : Nat} {v : Value} (h : l[j]? = some v) : 0 < l.length := by
  have := (List.getElem?_eq_some_iff.1 h).1
  omega
set_option maxRecDepth 100000 in
set_option maxHeartbeats 12000000 in
theorem sameCodex_any (t : Bool) (LD LE LR LS : List (List Value)) (n m : Nat) (hD : LD.length = n) (hE : LE.length = n) (hR : LR.length = m) (hS : LS.length = m) (s1 : ∀ l ∈ LD, l.length = 8) (s2 : ∀ l ∈ LE, l.length = 8) (s3 : ∀ l ∈ LR, l.length = 28) (s4 : ∀ l ∈ LS, l.length = 28)
    (p1 p2 p3 p4 : Option Addr) (g1 g2 g3 g4 c1 c2 c3 c4 : Nat) (w : World)
    (q1 : 0 < n → p1 = some ⟨g1, 0, none⟩ ∧ RowAt w g1 LD.flatten) (q2 : 0 < m → p2 = some ⟨g2, 0, none⟩ ∧ RowAt w g2 LR.flatten) (q3 : 0 < n → p3 = some ⟨g3, 0, none⟩ ∧ RowAt w g3 LE.flatten) (q4 : 0 < m → p4 = some ⟨g4, 0, none⟩ ∧ RowAt w g4 LS.flatten)
    (KD : ∀ (i : Nat) (h : i < LD.length) (h' : i < LE.length) (v : World), RowKit.Below w.heap.size w v → Calls Tryz.prog 21 #[.agg LD[i].toArray, .agg LE[i].toArray, .bool t] v fun e w' => e = .returned (.bool true) ∧ RowKit.Below v.heap.size v w')
    (KR : ∀ (i : Nat) (h : i < LR.length) (h' : i < LS.length) (v : World), RowKit.Below w.heap.size w v → Calls Tryz.prog 22 #[.agg LR[i].toArray, .agg LS[i].toArray, .bool t] v fun e w' => e = .returned (.bool true) ∧ RowKit.Below v.heap.size v w')
    (hn : n ≤ 1000000) (hm : m ≤ 1000000) :
    Calls Tryz.prog 15 #[.agg #[.slice p1 n c1, .slice p2 m c2], .agg #[.slice p3 n c3, .slice p4 m c4], .bool t] w fun e w' => e = .returned (.bool true) ∧ RowKit.Below w.heap.size w w' := by
  have al : ∀ (V : World) (o : Obj), RowKit.Below V.heap.size V (V.alloc o) := fun V o => (Below.refl _ _).alloc (Nat.le_refl _) o
  obtain ⟨W, hW⟩ : ∃ W, W = (w.alloc (.cells #[.slice p1 n c1, .slice p2 m c2] 26)).alloc (.cells #[.slice p3 n c3, .slice p4 m c4] 26) := ⟨_, rfl⟩
  have AX : Hid (At2 W w.heap.size (.slice p1 n c1) (.slice p2 m c2)) := by
    show At2 _ _ _ _
    rw [hW]; exact (At2.new w _ _ 26).bel (al _ _)
  have AY : Hid (At2 W (w.heap.size + 1) (.slice p3 n c3) (.slice p4 m c4)) := by
    have := At2.new (w.alloc (.cells #[.slice p1 n c1, .slice p2 m c2] 26)) (.slice p3 n c3) (.slice p4 m c4) 26
    rw [World.size_alloc] at this
    show At2 _ _ _ _
    rw [hW]; exact this
  have HB : Hid (RowKit.Below w.heap.size w W) := by
    show RowKit.Below _ _ _
    rw [hW]; exact (al w _).trans ((al _ _).mono (by simp))
  have HZ7 : Hid (RowKit.Below W.heap.size W W) := Below.refl _ _
  have HLD := Lib.hid hD
  have HLE := Lib.hid hE
  have HLR := Lib.hid hR
  have HLS := Lib.hid hS
  have SLD := Lib.hid s1
  have SLE := Lib.hid s2
  have SLR := Lib.hid s3
  have SLS := Lib.hid s4
  have Q1 := Lib.hid q1
  have Q2 := Lib.hid q2
  have Q3 := Lib.hid q3
  have Q4 := Lib.hid q4
  have HKD := Lib.hid KD
  have HKR := Lib.hid KR
  clear hD hE hR hS s1 s2 s3 s4 q1 q2 q3 q4 KD KR al
  go_enter Tryz.func15, Tryz.ntmps15
  go_wp2_with fail
  rw [← hW]
  clear hW
  go_loopg [7] n (fun g s7 wr => ∃ i : Nat, s7 = .int .i64 (i : Nat) ∧ i ≤ n ∧ n - i ≤ g ∧ Hid (RowKit.Below W.heap.size W wr))
  case atStart => exact ⟨0, by first | rfl | simp, by omega, by omega, Below.refl _ _⟩
  case round =>
    rename World => wa
    obtain ⟨i, rfl, hi, hg, HV⟩ := hrel
    have HW7 := Lib.hid (HZ7.out.trans (HV.out.mono HZ7.out.size))
    have HN7 := Lib.hid (HB.out.trans (HW7.out.mono HB.out.size))
    have x0 := (AX.out.bel HW7.out).c0
    have x1 := (AX.out.bel HW7.out).c1
    have y0 := (AY.out.bel HW7.out).c0
    have y1 := (AY.out.bel HW7.out).c1
    by_cases hlt : i < n
    · have hz : (i : Int) < (n : Int) := by omega
      have hk1 : IntKind.i64.wrap ((i : Int) + 1) = ((i + 1 : Nat) : Int) := by rw [IntWalk.i64_in _ (by omega)]; rfl
      obtain ⟨e1, r1⟩ := Q1.out (by omega)
      obtain ⟨e2, r2⟩ := Q3.out (by omega)
      have hl1 : (LD.flatten).length = n * 8 := by rw [flat_len _ SLD.out, HLD.out]
      have hl2 : (LE.flatten).length = n * 8 := by rw [flat_len _ SLE.out, HLE.out]
      have r1' := Lib.hid (r1.bel (by omega) HN7.out)
      have r2' := Lib.hid (r2.bel (by omega) HN7.out)
      subst e1 e2
      clear r1 r2 hl1 hl2
      have KQ := Lib.hid (fun v (hv : RowKit.Below wa.heap.size wa v) => HKD.out i (by have := HLD.out; omega) (by have := HLE.out; omega) v (HN7.out.trans (hv.mono HN7.out.size)))
      have F1 : Hid (∀ j v, (LD[i]'(by have := HLD.out; omega))[j]? = some v → LD.flatten[i * 8 + j]? = some v) := fun j v h => flat_at LD i (by have := HLD.out; omega) SLD.out j v h
      have F2 : Hid (∀ j v, (LE[i]'(by have := HLE.out; omega))[j]? = some v → LE.flatten[i * 8 + j]? = some v) := fun j v h => flat_at LE i (by have := HLE.out; omega) SLE.out j v h
      have G1 : Hid ((LD[i]'(by have := HLD.out; omega)).length = 8) := SLD.out _ (List.getElem_mem _)
      have G2 : Hid ((LE[i]'(by have := HLE.out; omega)).length = 8) := SLE.out _ (List.getElem_mem _)
      generalize (LD[i]'(by have := HLD.out; omega)) = M1 at *
      generalize (LE[i]'(by have := HLE.out; omega)) = M2 at *
      go_wp2_with fail
      have hS : Hid (RowKit.Below wa.heap.size wa wa.drew) := (Below.refl _ _).drew
      have hbx := World.block_lt_of_cell? _ _ x0
      have hby := World.block_lt_of_cell? _ _ y0
      refine wp_region_held (S := fun w' : World => Hid (RowKit.Below wa.heap.size wa w')) mixed ?_
      change wpAnyH _ _ _ _ _ _ _ _ wa.drew
      refine tk0 (v := .pointer (some ⟨w.heap.size, 0, none⟩)) (by kernel_rfl) (by kernel_rfl) (by kernel_rfl) (fun _ _ _ h => h) (Or.inl ⟨by kernel_rfl, ?_⟩) hS ?_
      · intro w' hSw
        go_simp; try with_reducible rfl
      simp only [Act.put, List.setIfInBounds_toArray, List.set_cons_zero, List.set_cons_succ]
      refine tk1 (v := .slice (some ⟨g1, 0, none⟩) n c1) (by kernel_rfl) (by kernel_rfl) (by kernel_rfl) (fun _ _ _ h => h) (Or.inl ⟨by kernel_rfl, ?_⟩) hS ?_
      · intro w' hSw
        have hc := (hSw.out.cell (p := ⟨w.heap.size, 0, none⟩) hbx).trans x0
        go_simp; try with_reducible rfl
      simp only [Act.put, List.setIfInBounds_toArray, List.set_cons_zero, List.set_cons_succ]
      refine tk2 (v := .int .i64 (i : Nat)) (by kernel_rfl) (by kernel_rfl) (by kernel_rfl) (fun _ _ _ h => h) (Or.inl ⟨by kernel_rfl, ?_⟩) hS ?_
      · intro w' hSw
        go_simp; try with_reducible rfl
      simp only [Act.put, List.setIfInBounds_toArray, List.set_cons_zero, List.set_cons_succ]
      refine tk3 (v := .pointer (some ⟨g1, i * 8, none⟩)) (by kernel_rfl) (by kernel_rfl) (by kernel_rfl) (fun _ _ _ h => h) (Or.inl ⟨by kernel_rfl, ?_⟩) hS ?_
      · intro w' hSw
        go_simp; try with_reducible rfl
      simp only [Act.put, List.setIfInBounds_toArray, List.set_cons_zero, List.set_cons_succ]
      refine tk4 (v := .agg M1.toArray) (by kernel_rfl) (by kernel_rfl) (by kernel_rfl) (fun _ _ _ h => h) (Or.inl ⟨by kernel_rfl, ?_⟩) hS ?_
      · intro w' hSw
        exact ex_load rfl rfl (load_row_at _ 8 (by kernel_rfl) (by kernel_rfl) _ g1 (i * 8) _ G1.out (fun j v h => (r1'.out.bel (flat_pos r1'.out (F1.out j v h)) hSw.out) _ _ (F1.out j v h)))
      simp only [Act.put, List.setIfInBounds_toArray, List.set_cons_zero, List.set_cons_succ]
      refine tk5 (v := .pointer (some ⟨w.heap.size + 1, 0, none⟩)) (by kernel_rfl) (by kernel_rfl) (by kernel_rfl) (fun _ _ _ h => h) (Or.inl ⟨by kernel_rfl, ?_⟩) hS ?_
      · intro w' hSw
        go_simp; try with_reducible rfl
      simp only [Act.put, List.setIfInBounds_toArray, List.set_cons_zero, List.set_cons_succ]
      refine tk6 (v := .slice (some ⟨g3, 0, none⟩) n c3) (by kernel_rfl) (by kernel_rfl) (by kernel_rfl) (fun _ _ _ h => h) (Or.inl ⟨by kernel_rfl, ?_⟩) hS ?_
      · intro w' hSw
        have hc := (hSw.out.cell (p := ⟨w.heap.size + 1, 0, none⟩) hby).trans y0
        go_simp; try with_reducible rfl
      simp only [Act.put, List.setIfInBounds_toArray, List.set_cons_zero, List.set_cons_succ]
      refine tk7 (v := .int .i64 (i : Nat)) (by kernel_rfl) (by kernel_rfl) (by kernel_rfl) (fun _ _ _ h => h) (Or.inl ⟨by kernel_rfl, ?_⟩) hS ?_
      · intro w' hSw
        go_simp; try with_reducible rfl
      simp only [Act.put, List.setIfInBounds_toArray, List.set_cons_zero, List.set_cons_succ]
      refine tk8 (v := .pointer (some ⟨g3, i * 8, none⟩)) (by kernel_rfl) (by kernel_rfl) (by kernel_rfl) (fun _ _ _ h => h) (Or.inl ⟨by kernel_rfl, ?_⟩) hS ?_
      · intro w' hSw
        go_simp; try with_reducible rfl
      simp only [Act.put, List.setIfInBounds_toArray, List.set_cons_zero, List.set_cons_succ]
      refine tk9 (v := .agg M2.toArray) (by kernel_rfl) (by kernel_rfl) (by kernel_rfl) (fun _ _ _ h => h) (Or.inl ⟨by kernel_rfl, ?_⟩) hS ?_
      · intro w' hSw
        exact ex_load rfl rfl (load_row_at _ 8 (by kernel_rfl) (by kernel_rfl) _ g3 (i * 8) _ G2.out (fun j v h => (r2'.out.bel (flat_pos r2'.out (F2.out j v h)) hSw.out) _ _ (F2.out j v h)))
      simp only [Act.put, List.setIfInBounds_toArray, List.set_cons_zero, List.set_cons_succ]
      refine tk10 (v := .bool t) (by kernel_rfl) (by kernel_rfl) (by kernel_rfl) (fun _ _ _ h => h) (Or.inl ⟨by kernel_rfl, ?_⟩) hS ?_
      · intro w' hSw
        go_simp; try with_reducible rfl
      simp only [Act.put, List.setIfInBounds_toArray, List.set_cons_zero, List.set_cons_succ]
      refine wpAnyH_ready (rs := [11]) (by kernel_rfl) (by simp) (st11 (fun K hK => ?_) AllReadyH.nil)
      refine (if_pos (by kernel_rfl)).mpr ?_
      refine wp_callv rfl (by rfl) ?_
      refine (KQ.out _ hS.out).mono ?_
      rintro _ w11 ⟨rfl, hb⟩
      have hSw11 : Hid (RowKit.Below wa.heap.size wa w11) := hS.out.trans (hb.mono hS.out.size)
      clear hb
      replace hS := hSw11
      refine hK.out _ _ ?_ (fun hHeld => ?_)
      · exact hS
      clear hK K
      try simp only [Act.put, List.setIfInBounds_toArray, List.set_cons_zero, List.set_cons_succ]
      refine tk12 (v := .bool false) (by kernel_rfl) (by kernel_rfl) (by kernel_rfl) (fun _ _ _ h => h) (Or.inl ⟨by kernel_rfl, ?_⟩) hS ?_
      · intro w' hSw
        go_simp; try with_reducible rfl
      simp only [Act.put, List.setIfInBounds_toArray, List.set_cons_zero, List.set_cons_succ]
      refine wpAnyH_done (by kernel_rfl) ?_ _
      have HF := Lib.hid (HV.out.trans (hS.out.mono HV.out.size))
      go_wp2_with fail
      go_roundg (n - (i + 1))
      case measure => omega
      case rel => exact ⟨i + 1, by first | rfl | simp, by omega, Nat.le_refl _, HF⟩
    · obtain rfl : i = n := by omega
      have hz : ¬ (i : Int) < (i : Int) := by omega
      have HZ8 := Lib.hid HW7.out
      go_wp2_with fail
      clear x0 x1 y0 y1
      go_loopg [8] m (fun g s8 wr => ∃ i : Nat, s8 = .int .i64 (i : Nat) ∧ i ≤ m ∧ m - i ≤ g ∧ Hid (RowKit.Below wa.heap.size wa wr))
      case atStart => exact ⟨0, by first | rfl | simp, by omega, by omega, Below.refl _ _⟩
      case round =>
        rename World => wb
        obtain ⟨i, rfl, hi, hg, HV⟩ := hrel
        have HW8 := Lib.hid (HZ8.out.trans (HV.out.mono HZ8.out.size))
        have HN8 := Lib.hid (HB.out.trans (HW8.out.mono HB.out.size))
        have x0 := (AX.out.bel HW8.out).c0
        have x1 := (AX.out.bel HW8.out).c1
        have y0 := (AY.out.bel HW8.out).c0
        have y1 := (AY.out.bel HW8.out).c1
        by_cases hlt : i < m
        · have hz : (i : Int) < (m : Int) := by omega
          have hk1 : IntKind.i64.wrap ((i : Int) + 1) = ((i + 1 : Nat) : Int) := by rw [IntWalk.i64_in _ (by omega)]; rfl
          obtain ⟨e1, r1⟩ := Q2.out (by omega)
          obtain ⟨e2, r2⟩ := Q4.out (by omega)
          have hl1 : (LR.flatten).length = m * 28 := by rw [flat_len _ SLR.out, HLR.out]
          have hl2 : (LS.flatten).length = m * 28 := by rw [flat_len _ SLS.out, HLS.out]
          have r1' := Lib.hid (r1.bel (by omega) HN8.out)
          have r2' := Lib.hid (r2.bel (by omega) HN8.out)
          subst e1 e2
          clear r1 r2 hl1 hl2
          have KQ := Lib.hid (fun v (hv : RowKit.Below wb.heap.size wb v) => HKR.out i (by have := HLR.out; omega) (by have := HLS.out; omega) v (HN8.out.trans (hv.mono HN8.out.size)))
          have F1 : Hid (∀ j v, (LR[i]'(by have := HLR.out; omega))[j]? = some v → LR.flatten[i * 28 + j]? = some v) := fun j v h => flat_at LR i (by have := HLR.out; omega) SLR.out j v h
          have F2 : Hid (∀ j v, (LS[i]'(by have := HLS.out; omega))[j]? = some v → LS.flatten[i * 28 + j]? = some v) := fun j v h => flat_at LS i (by have := HLS.out; omega) SLS.out j v h
          have G1 : Hid ((LR[i]'(by have := HLR.out; omega)).length = 28) := SLR.out _ (List.getElem_mem _)
          have G2 : Hid ((LS[i]'(by have := HLS.out; omega)).length = 28) := SLS.out _ (List.getElem_mem _)
          generalize (LR[i]'(by have := HLR.out; omega)) = M1 at *
          generalize (LS[i]'(by have := HLS.out; omega)) = M2 at *
          go_wp2_with fail
          have hS : Hid (RowKit.Below wb.heap.size wb wb.drew) := (Below.refl _ _).drew
          have hbx := World.block_lt_of_cell? _ _ x0
          have hby := World.block_lt_of_cell? _ _ y0
          refine wp_region_held (S := fun w' : World => Hid (RowKit.Below wb.heap.size wb w')) mixed ?_
          change wpAnyH _ _ _ _ _ _ _ _ wb.drew
          refine tk0 (v := .pointer (some ⟨w.heap.size, 1, none⟩)) (by kernel_rfl) (by kernel_rfl) (by kernel_rfl) (fun _ _ _ h => h) (Or.inl ⟨by kernel_rfl, ?_⟩) hS ?_
          · intro w' hSw
            go_simp; try with_reducible rfl
          simp only [Act.put, List.setIfInBounds_toArray, List.set_cons_zero, List.set_cons_succ]
          refine tk1 (v := .slice (some ⟨g2, 0, none⟩) m c2) (by kernel_rfl) (by kernel_rfl) (by kernel_rfl) (fun _ _ _ h => h) (Or.inl ⟨by kernel_rfl, ?_⟩) hS ?_
          · intro w' hSw
            have hc := (hSw.out.cell (p := ⟨w.heap.size, 1, none⟩) hbx).trans x1
            go_simp; try with_reducible rfl
          simp only [Act.put, List.setIfInBounds_toArray, List.set_cons_zero, List.set_cons_succ]
          refine tk2 (v := .int .i64 (i : Nat)) (by kernel_rfl) (by kernel_rfl) (by kernel_rfl) (fun _ _ _ h => h) (Or.inl ⟨by kernel_rfl, ?_⟩) hS ?_
          · intro w' hSw
            go_simp; try with_reducible rfl
          simp only [Act.put, List.setIfInBounds_toArray, List.set_cons_zero, List.set_cons_succ]
          refine tk3 (v := .pointer (some ⟨g2, i * 28, none⟩)) (by kernel_rfl) (by kernel_rfl) (by kernel_rfl) (fun _ _ _ h => h) (Or.inl ⟨by kernel_rfl, ?_⟩) hS ?_
          · intro w' hSw
            go_simp; try with_reducible rfl
          simp only [Act.put, List.setIfInBounds_toArray, List.set_cons_zero, List.set_cons_succ]
          refine tk4 (v := .agg M1.toArray) (by kernel_rfl) (by kernel_rfl) (by kernel_rfl) (fun _ _ _ h => h) (Or.inl ⟨by kernel_rfl, ?_⟩) hS ?_
          · intro w' hSw
            exact ex_load rfl rfl (load_row_at _ 28 (by kernel_rfl) (by kernel_rfl) _ g2 (i * 28) _ G1.out (fun j v h => (r1'.out.bel (flat_pos r1'.out (F1.out j v h)) hSw.out) _ _ (F1.out j v h)))
          simp only [Act.put, List.setIfInBounds_toArray, List.set_cons_zero, List.set_cons_succ]
          refine tk5 (v := .pointer (some ⟨w.heap.size + 1, 1, none⟩)) (by kernel_rfl) (by kernel_rfl) (by kernel_rfl) (fun _ _ _ h => h) (Or.inl ⟨by kernel_rfl, ?_⟩) hS ?_
          · intro w' hSw
            go_simp; try with_reducible rfl
          simp only [Act.put, List.setIfInBounds_toArray, List.set_cons_zero, List.set_cons_succ]
          refine tk6 (v := .slice (some ⟨g4, 0, none⟩) m c4) (by kernel_rfl) (by kernel_rfl) (by kernel_rfl) (fun _ _ _ h => h) (Or.inl ⟨by kernel_rfl, ?_⟩) hS ?_
          · intro w' hSw
            have hc := (hSw.out.cell (p := ⟨w.heap.size + 1, 1, none⟩) hby).trans y1
            go_simp; try with_reducible rfl
          simp only [Act.put, List.setIfInBounds_toArray, List.set_cons_zero, List.set_cons_succ]
          refine tk7 (v := .int .i64 (i : Nat)) (by kernel_rfl) (by kernel_rfl) (by kernel_rfl) (fun _ _ _ h => h) (Or.inl ⟨by kernel_rfl, ?_⟩) hS ?_
          · intro w' hSw
            go_simp; try with_reducible rfl
          simp only [Act.put, List.setIfInBounds_toArray, List.set_cons_zero, List.set_cons_succ]
          refine tk8 (v := .pointer (some ⟨g4, i * 28, none⟩)) (by kernel_rfl) (by kernel_rfl) (by kernel_rfl) (fun _ _ _ h => h) (Or.inl ⟨by kernel_rfl, ?_⟩) hS ?_
          · intro w' hSw
            go_simp; try with_reducible rfl
          simp only [Act.put, List.setIfInBounds_toArray, List.set_cons_zero, List.set_cons_succ]
          refine tk9 (v := .agg M2.toArray) (by kernel_rfl) (by kernel_rfl) (by kernel_rfl) (fun _ _ _ h => h) (Or.inl ⟨by kernel_rfl, ?_⟩) hS ?_
          · intro w' hSw
            exact ex_load rfl rfl (load_row_at _ 28 (by kernel_rfl) (by kernel_rfl) _ g4 (i * 28) _ G2.out (fun j v h => (r2'.out.bel (flat_pos r2'.out (F2.out j v h)) hSw.out) _ _ (F2.out j v h)))
          simp only [Act.put, List.setIfInBounds_toArray, List.set_cons_zero, List.set_cons_succ]
          refine tk10 (v := .bool t) (by kernel_rfl) (by kernel_rfl) (by kernel_rfl) (fun _ _ _ h => h) (Or.inl ⟨by kernel_rfl, ?_⟩) hS ?_
          · intro w' hSw
            go_simp; try with_reducible rfl
          simp only [Act.put, List.setIfInBounds_toArray, List.set_cons_zero, List.set_cons_succ]
          refine wpAnyH_ready (rs := [11]) (by kernel_rfl) (by simp) (st11 (fun K hK => ?_) AllReadyH.nil)
          refine (if_pos (by kernel_rfl)).mpr ?_
          refine wp_callv rfl (by rfl) ?_
          refine (KQ.out _ hS.out).mono ?_
          rintro _ w11 ⟨rfl, hb⟩
          have hSw11 : Hid (RowKit.Below wb.heap.size wb w11) := hS.out.trans (hb.mono hS.out.size)
          clear hb
          replace hS := hSw11
          refine hK.out _ _ ?_ (fun hHeld => ?_)
          · exact hS
          clear hK K
          try simp only [Act.put, List.setIfInBounds_toArray, List.set_cons_zero, List.set_cons_succ]
          refine tk12 (v := .bool false) (by kernel_rfl) (by kernel_rfl) (by kernel_rfl) (fun _ _ _ h => h) (Or.inl ⟨by kernel_rfl, ?_⟩) hS ?_
          · intro w' hSw
            go_simp; try with_reducible rfl
          simp only [Act.put, List.setIfInBounds_toArray, List.set_cons_zero, List.set_cons_succ]
          refine wpAnyH_done (by kernel_rfl) ?_ _
          have HF := Lib.hid (HV.out.trans (hS.out.mono HV.out.size))
          go_wp2_with fail
          go_roundg (m - (i + 1))
          case measure => omega
          case rel => exact ⟨i + 1, by first | rfl | simp, by omega, Nat.le_refl _, HF⟩
        · obtain rfl : i = m := by omega
          have hz : ¬ (i : Int) < (i : Int) := by omega
          go_wp2_with fail
          go_ret
          exact ⟨rfl, HN8.out⟩
end Go.Proofs.YtedbpjcglnkjmaaGreatDoor
namespace Go.Proofs.YtedbpjcglnkjmaaGreatDoor
open Go.RowKit Lx Pa

/-- How many facts and rules come back. -/
def dN (c : By) : Nat := if c.es.isEmpty then c.ds.length else 0
def rN (c : By) : Nat := if c.es.isEmpty then c.rs.length else 0
structure PSt (w : World) (ofs : Nat → Int) (c : By) (qd qr qg : Option Addr) (ns : List (NV × NV)) : Prop where
  dr : c.es = [] → 0 < c.ds.length → ∃ g, qd = some ⟨g, 0, none⟩ ∧ RowAt w g (c.ds.flatMap (dV ofs))
  rr : c.es = [] → 0 < c.rs.length → ∃ g, qr = some ⟨g, 0, none⟩ ∧ RowAt w g (rFlat ofs c.rs ns)
  nl : c.es = [] → ns.length = c.rs.length
  nd : c.es = [] → ∀ (i : Nat) (h : i < c.rs.length) (h' : i < ns.length), NodeA w (fun _ => True) ofs c.rs[i].whn ns[i].1 ∧ NodeA w (fun _ => True) ofs c.rs[i].give ns[i].2
  gr : 0 < c.es.length → ∃ g, qg = some ⟨g, 0, none⟩ ∧ RowAt w g (c.es.flatMap (gV ofs))
theorem RowAt.bel' {w w1 : World} {b : Nat} {l : List Value} (h : RowAt w b l) (hB : RowKit.Below w.heap.size w w1) : RowAt w1 b l := fun j v hv => by
  have := h j v hv
  exact (hB.cell (World.block_lt_of_cell? _ _ this)).trans this
theorem PSt.bel {w w1 : World} {ofs : Nat → Int} {c : By} {qd qr qg : Option Addr} {ns : List (NV × NV)} (h : PSt w ofs c qd qr qg ns) (hB : RowKit.Below w.heap.size w w1) : PSt w1 ofs c qd qr qg ns :=
  ⟨fun a b => by obtain ⟨g, h1, h2⟩ := h.dr a b; exact ⟨g, h1, h2.bel' hB⟩, fun a b => by obtain ⟨g, h1, h2⟩ := h.rr a b; exact ⟨g, h1, h2.bel' hB⟩, h.nl,
   fun a i h1 h2 => ⟨NodeA.bel hB _ _ (h.nd a i h1 h2).1, NodeA.bel hB _ _ (h.nd a i h1 h2).2⟩, fun a => by obtain ⟨g, h1, h2⟩ := h.gr a; exact ⟨g, h1, h2.bel' hB⟩⟩
theorem parS {s : ByteArray} {l : List UInt8} {c : By} {d r n : Nat} (w : World) (hs : s.data.toList = l) (hb : byR l = c) (hd : dN c = d) (hr : rN c = r) (hn : c.es.length = n) (hz : s.size ≤ 281474976710656) :
    Calls Tryz.prog 11 #[.string s] w fun e w' => ∃ qd cd qr cr qg cg ns, e = .returned (.tuple #[.agg #[.slice qd d cd, .slice qr r cr], .slice qg n cg]) ∧ PSt w' (ofsR l) c qd qr qg ns ∧ RowKit.Below w.heap.size w w' := by
  refine (parK w hs hb hz).mono ?_
  rintro e w' ⟨vd, vr, vg, rfl, hV, hB⟩
  by_cases he : c.es = []
  · obtain ⟨rfl, h1, ns, h2, h3, h4⟩ := hV.1 he
    have e1 : d = c.ds.length := by rw [← hd]; unfold dN; rw [he]; rfl
    have e2 : r = c.rs.length := by rw [← hr]; unfold rN; rw [he]; rfl
    have e3 : n = 0 := by rw [← hn, he]; rfl
    subst e1 e2 e3
    obtain ⟨q1, c1, rfl⟩ := own_slice h1
    obtain ⟨q2, c2, rfl⟩ := own_slice h3
    refine ⟨q1, c1, q2, c2, none, 0, ns, rfl, ⟨fun _ h0 => ?_, fun _ h0 => ?_, fun _ => h2, fun _ i a b => ?_, fun h0 => ?_⟩, hB⟩
    · obtain ⟨g, cap, e, -, -, hrow, -⟩ := own_at h1 h0
      simp only [Value.slice.injEq] at e
      exact ⟨g, e.1, hrow⟩
    · obtain ⟨g, cap, e, -, -, hrow, -⟩ := own_at h3 h0
      simp only [Value.slice.injEq] at e
      exact ⟨g, e.1, hrow⟩
    · exact ⟨NodeA.keep (Nat.le_refl _) (fun _ _ _ => rfl) (fun _ _ _ => trivial) _ _ (h4 i a b).1, NodeA.keep (Nat.le_refl _) (fun _ _ _ => rfl) (fun _ _ _ => trivial) _ _ (h4 i a b).2⟩
    · rw [he] at h0; exact absurd h0 (by decide)
  · obtain ⟨rfl, rfl, h1⟩ := hV.2 he
    have hee : c.es.isEmpty = false := by simpa using he
    have e1 : d = 0 := by rw [← hd]; unfold dN; rw [hee]; rfl
    have e2 : r = 0 := by rw [← hr]; unfold rN; rw [hee]; rfl
    rw [hn] at h1
    subst e1 e2
    obtain ⟨q1, c1, rfl⟩ := own_slice h1
    refine ⟨none, 0, none, 0, q1, c1, [], rfl, ⟨fun h => absurd h he, fun h => absurd h he, fun h => absurd h he, fun h => absurd h he, fun h0 => ?_⟩, hB⟩
    obtain ⟨g, cap, e, -, -, hrow, -⟩ := own_at h1 (by omega)
    simp only [Value.slice.injEq] at e
    exact ⟨g, e.1, hrow⟩
theorem dN_ok {c : By} (h : c.es = []) : dN c = c.ds.length ∧ rN c = c.rs.length := by unfold dN rN; rw [h]; exact ⟨rfl, rfl⟩
theorem dN_er {c : By} (h : c.es ≠ []) : dN c = 0 ∧ rN c = 0 := by
  have hee : c.es.isEmpty = false := by simpa using h
  unfold dN rN; rw [hee]; exact ⟨rfl, rfl⟩
end Go.Proofs.YtedbpjcglnkjmaaGreatDoor
namespace Go.Proofs.YtedbpjcglnkjmaaGreatDoor
open Go.RowKit Lx Pa

/-! ### The size of what a rule has -/
theorem limited_siz {ts r : List Tok} {n : Tree} (h : limited M0 ts = .ok n r) : n.siz ≤ 200 := by
  unfold limited at h
  obtain ⟨a, r1, -, h2⟩ := bind_inv h
  split at h2
  · cases h2
  · rename_i hb
    simp only [Out.ok.injEq] at h2
    obtain ⟨rfl, -⟩ := h2
    unfold big at hb
    simp only [Bool.or_eq_true, decide_eq_true_eq, not_or] at hb
    omega
theorem opt_siz {w : List UInt8} {d n : Tree} {ts r : List Tok} (hd : d.siz ≤ 200) (h : optO w (limited M0) d ts = .ok n r) : n.siz ≤ 200 := by
  unfold optO at h
  split at h
  · exact limited_siz h
  · simp only [Out.ok.injEq] at h
    rw [← h.1]; exact hd
theorem ruleB_siz {ts r : List Tok} {R : Rule} (h : ruleB M0 ts = .ok R r) : R.whn.siz ≤ 200 ∧ R.give.siz ≤ 200 := by
  unfold ruleB at h
  split at h
  · cases h
  · obtain ⟨_, _, -, h⟩ := bind_inv h
    obtain ⟨_, _, -, h⟩ := bind_inv h
    obtain ⟨_, _, -, h⟩ := bind_inv h
    obtain ⟨_, _, -, h⟩ := bind_inv h
    obtain ⟨_, _, -, h⟩ := bind_inv h
    obtain ⟨_, _, -, h⟩ := bind_inv h
    obtain ⟨_, _, -, h⟩ := bind_inv h
    obtain ⟨_, _, -, h⟩ := bind_inv h
    obtain ⟨_, _, h1, h⟩ := bind_inv h
    obtain ⟨_, _, h2, h⟩ := bind_inv h
    simp only [Out.ok.injEq] at h
    rw [← h.1]
    exact ⟨opt_siz (by simp [noWhen, Tree.siz, sizL]) h1, opt_siz (by simp [noGive, Tree.siz, sizL]) h2⟩
theorem item_siz {ts r : List Tok} {R : Rule} (h : item M0 ts = .ok (.rule R) r) : R.whn.siz ≤ 200 ∧ R.give.siz ≤ 200 := by
  unfold item at h
  obtain ⟨a, r1, h1, h⟩ := bind_inv h
  obtain ⟨_, _, -, h⟩ := bind_inv h
  simp only [Out.ok.injEq] at h
  obtain ⟨rfl, -⟩ := h
  unfold itemB at h1
  split at h1
  · obtain ⟨_, _, -, h1⟩ := bind_inv h1
    cases h1
  · obtain ⟨b, _, h2, h1⟩ := bind_inv h1
    simp only [Out.ok.injEq, Item.rule.injEq] at h1
    obtain ⟨rfl, -⟩ := h1
    exact ruleB_siz h2
theorem gof_siz (ts : List Tok) (c : By) : (∀ R ∈ c.rs, R.whn.siz ≤ 200 ∧ R.give.siz ≤ 200) → ∀ R ∈ (gof M0 ts c).rs, R.whn.siz ≤ 200 ∧ R.give.siz ≤ 200 := by
  refine gof_ind (M := M0) (P := fun ts c c' => (∀ R ∈ c.rs, R.whn.siz ≤ 200 ∧ R.give.siz ≤ 200) → ∀ R ∈ c'.rs, R.whn.siz ≤ 200 ∧ R.give.siz ≤ 200) ?_ ?_ ?_ ts.length ts c (Nat.le_refl _)
  · intro ts c _ h; exact h
  · intro ts r c d _ hi _ ih h
    refine ih fun R hR => ?_
    cases d with
    | fact d =>
      simp only [By.add] at hR
      split at hR <;> exact h R hR
    | rule d =>
      simp only [By.add] at hR
      split at hR
      · exact h R hR
      · rw [List.mem_append, List.mem_singleton] at hR
        rcases hR with hR | rfl
        · exact h R hR
        · exact item_siz hi
  · intro ts c e k m _ _ _ ih h
    exact ih h
theorem by_siz (l : List UInt8) : ∀ R ∈ (byR l).rs, R.whn.siz ≤ 200 ∧ R.give.siz ≤ 200 := by
  cases hx : lex Vh l with
  | er E a => rw [by_er hx]; intro R hR; cases hR
  | ok ts => rw [(by_lex hx).1]; exact gof_siz ts ⟨[], [], []⟩ (fun R hR => by cases hR)
theorem endsN_le' (l : List UInt8) : endsN l ≤ 2000 := by
  unfold endsN
  cases hx : lex Vh l with
  | er E a => show (-1 : Int) ≤ 2000; omega
  | ok ts =>
    have h1 := lex_short hx
    have h2 := List.countP_le_length (p := isT sSc) (l := ts)
    unfold semis
    show ((ts.countP (isT sSc) : Nat) : Int) ≤ 2000
    omega
theorem by_len {l : List UInt8} (h : (byR l).es = []) : (byR l).ds.length ≤ 2000 ∧ (byR l).rs.length ≤ 2000 := by
  obtain ⟨-, -, -, -, h1⟩ := by_ok h
  have h2 := endsN_le' l
  omega
/-! ### Rows -/
def dRows (f : Nat → Int) (ds : List Decl) : List (List Value) := ds.map (dV f)
def rRows (f : Nat → Int) (rs : List Rule) (ns : List (NV × NV)) : List (List Value) := List.zipWith (fun r x => rV f r x.1 x.2) rs ns
theorem rRows_flat (f : Nat → Int) : ∀ (rs : List Rule) (ns : List (NV × NV)), rFlat f rs ns = (rRows f rs ns).flatten
  | [], ns => by cases ns <;> simp [rFlat, rRows]
  | r :: rs, [] => by simp [rFlat, rRows]
  | r :: rs, x :: ns => by
    show rV f r x.1 x.2 ++ rFlat f rs ns = _
    rw [rRows_flat f rs ns]; simp [rRows]
theorem dRows_8 (f : Nat → Int) (ds : List Decl) : ∀ l ∈ dRows f ds, l.length = 8 := fun l hl => by
  obtain ⟨d, -, rfl⟩ := List.mem_map.1 hl; rfl
theorem rRows_28 (f : Nat → Int) : ∀ (rs : List Rule) (ns : List (NV × NV)), ∀ l ∈ rRows f rs ns, l.length = 28
  | [], ns, l, hl => by simp [rRows] at hl
  | r :: rs, [], l, hl => by simp [rRows] at hl
  | r :: rs, x :: ns, l, hl => by
    simp only [rRows, List.zipWith_cons_cons, List.mem_cons] at hl
    rcases hl with rfl | hl
    · exact rV_len f r x.1 x.2
    · exact rRows_28 f rs ns l hl
/-- Two rows of facts that are equal but for their places. -/
def DEq (v v' : List Value) : Prop := ∃ (d d' : Decl) (f g : Nat → Int), v = dV f d ∧ v' = dV g d' ∧ d.name = d'.name ∧ d.u = d'.u ∧ d.lo = d'.lo ∧ d.hi = d'.hi
/-- Two rows of rules that are equal but for their places. -/
def REq (w : World) (v v' : List Value) : Prop := ∃ (r r' : Rule) (f g : Nat → Int) (x x' : NV × NV), v = rV f r x.1 x.2 ∧ v' = rV g r' x'.1 x'.2 ∧ eqR false f g r r' ∧ r.whn.siz ≤ 1000000 ∧ r.give.siz ≤ 1000000 ∧ NodeA w (fun _ => True) f r.whn x.1 ∧ NodeA w (fun _ => True) f r.give x.2 ∧ NodeA w (fun _ => True) g r'.whn x'.1 ∧ NodeA w (fun _ => True) g r'.give x'.2
theorem decl_eq {v v' : List Value} (h : DEq v v') (w : World) : Calls Tryz.prog 21 #[.agg v.toArray, .agg v'.toArray, .bool false] w fun e w' => e = .returned (.bool true) ∧ RowKit.Below w.heap.size w w' := by
  obtain ⟨d, d', f, g, rfl, rfl, h1, h2, h3, h4⟩ := h
  refine (sameDecl_any false d.name d'.name (uF d.u) (uF d'.u) (uM d.u) (uA d.u) (uD d.u) (uM d'.u) (uA d'.u) (uD d'.u) d.lo d.hi (f d.pl) d'.lo d'.hi (g d'.pl) w).mono ?_
  rintro e w' ⟨k1, k2⟩
  refine ⟨?_, k2⟩
  rw [k1, h1, h2, h3, h4]
  simp
theorem rule_eq {w v : World} {l l' : List Value} (h : REq w l l') (hB : RowKit.Below w.heap.size w v) : Calls Tryz.prog 22 #[.agg l.toArray, .agg l'.toArray, .bool false] v fun e w' => e = .returned (.bool true) ∧ RowKit.Below v.heap.size v w' := by
  obtain ⟨r, r', f, g, x, x', rfl, rfl, h1, h2, h3, h4, h5, h6, h7⟩ := h
  exact sameRule_any false f g r r' (fun _ => True) (fun _ => True) x.1 x.2 x'.1 x'.2 v (NodeA.bel hB _ _ h4) (NodeA.bel hB _ _ h5) (NodeA.bel hB _ _ h6) (NodeA.bel hB _ _ h7) h2 h3 h1
theorem sh_eqR (f g : Nat → Int) (n : Nat) (r : Rule) : eqR false f g (r.sh n) r := ⟨rfl, rfl, rfl, rfl, rfl, rfl, rfl, fun h => (by cases h), eqT_z _ _ (z_sh n r.whn), eqT_z _ _ (z_sh n r.give)⟩
theorem rfl_eqR (f g : Nat → Int) (r : Rule) : eqR false f g r r := ⟨rfl, rfl, rfl, rfl, rfl, rfl, rfl, fun h => (by cases h), eqT_z _ _ rfl, eqT_z _ _ rfl⟩
/-- By-laws whose rows are equal one by one but for places. -/
theorem codexEq (LD LE LR LS : List (List Value)) (n m : Nat) (hD : LD.length = n) (hE : LE.length = n) (hR : LR.length = m) (hS : LS.length = m) (s1 : ∀ l ∈ LD, l.length = 8) (s2 : ∀ l ∈ LE, l.length = 8) (s3 : ∀ l ∈ LR, l.length = 28) (s4 : ∀ l ∈ LS, l.length = 28)
    (p1 p2 p3 p4 : Option Addr) (c1 c2 c3 c4 : Nat) (w : World)
    (q1 : 0 < n → ∃ g, p1 = some ⟨g, 0, none⟩ ∧ RowAt w g LD.flatten) (q2 : 0 < m → ∃ g, p2 = some ⟨g, 0, none⟩ ∧ RowAt w g LR.flatten) (q3 : 0 < n → ∃ g, p3 = some ⟨g, 0, none⟩ ∧ RowAt w g LE.flatten) (q4 : 0 < m → ∃ g, p4 = some ⟨g, 0, none⟩ ∧ RowAt w g LS.flatten)
    (KD : ∀ (i : Nat) (h : i < LD.length) (h' : i < LE.length), DEq LD[i] LE[i]) (KR : ∀ (i : Nat) (h : i < LR.length) (h' : i < LS.length), REq w LR[i] LS[i]) (hn : n ≤ 1000000) (hm : m ≤ 1000000) :
    Calls Tryz.prog 15 #[.agg #[.slice p1 n c1, .slice p2 m c2], .agg #[.slice p3 n c3, .slice p4 m c4], .bool false] w fun e w' => e = .returned (.bool true) ∧ RowKit.Below w.heap.size w w' := by
  have pick : ∀ {k : Nat} {p : Option Addr} {L : List Value}, (0 < k → ∃ g, p = some ⟨g, 0, none⟩ ∧ RowAt w g L) → ∃ g, 0 < k → p = some ⟨g, 0, none⟩ ∧ RowAt w g L := fun {k p L} h => by
    by_cases h0 : 0 < k
    · obtain ⟨g, hg⟩ := h h0; exact ⟨g, fun _ => hg⟩
    · exact ⟨0, fun h => absurd h h0⟩
  obtain ⟨g1, q1⟩ := pick q1
  obtain ⟨g2, q2⟩ := pick q2
  obtain ⟨g3, q3⟩ := pick q3
  obtain ⟨g4, q4⟩ := pick q4
  exact sameCodex_any false LD LE LR LS n m hD hE hR hS s1 s2 s3 s4 p1 p2 p3 p4 g1 g2 g3 g4 c1 c2 c3 c4 w q1 q2 q3 q4 (fun i h h' v _ => decl_eq (KD i h h') v) (fun i h h' v hv => rule_eq (KR i h h') hv) hn hm
/-- The same by-laws, with other places. -/
theorem codex_same {l : List UInt8} {c : By} {f g : Nat → Int} {qd qr qg qd' qr' qg' : Option Addr} {ns ns' : List (NV × NV)} {d r : Nat} (hc : byR l = c) (hd : dN c = d) (hr : rN c = r) (cd cr cd' cr' : Nat) (w : World) (h1 : PSt w f c qd qr qg ns) (h2 : PSt w g c qd' qr' qg' ns') :
    Calls Tryz.prog 15 #[.agg #[.slice qd d cd, .slice qr r cr], .agg #[.slice qd' d cd', .slice qr' r cr'], .bool false] w fun e w' => e = .returned (.bool true) ∧ RowKit.Below w.heap.size w w' := by
  by_cases he : c.es = []
  · obtain ⟨e1, e2⟩ := dN_ok he
    rw [hd] at e1
    rw [hr] at e2
    subst e1 e2
    obtain ⟨b1, b2⟩ := by_len (l := l) (by rw [hc]; exact he)
    rw [hc] at b1 b2
    have bz := by_siz l
    rw [hc] at bz
    have n1 := h1.nl he
    have n2 := h2.nl he
    refine codexEq (dRows f c.ds) (dRows g c.ds) (rRows f c.rs ns) (rRows g c.rs ns') _ _ (by simp [dRows]) (by simp [dRows]) (by simp [rRows, n1]) (by simp [rRows, n2]) (dRows_8 _ _) (dRows_8 _ _) (rRows_28 _ _ _) (rRows_28 _ _ _) _ _ _ _ _ _ _ _ w ?_ ?_ ?_ ?_ ?_ ?_ (by omega) (by omega)
    · intro h0; obtain ⟨g, e, hg⟩ := h1.dr he h0; exact ⟨g, e, by rw [List.flatMap_def] at hg; exact hg⟩
    · intro h0; obtain ⟨g, e, hg⟩ := h1.rr he h0; exact ⟨g, e, by rw [rRows_flat] at hg; exact hg⟩
    · intro h0; obtain ⟨g, e, hg⟩ := h2.dr he h0; exact ⟨g, e, by rw [List.flatMap_def] at hg; exact hg⟩
    · intro h0; obtain ⟨g, e, hg⟩ := h2.rr he h0; exact ⟨g, e, by rw [rRows_flat] at hg; exact hg⟩
    · intro i h h'
      simp only [dRows, List.getElem_map]
      exact ⟨_, _, f, g, rfl, rfl, rfl, rfl, rfl, rfl⟩
    · intro i h h'
      have hi : i < c.rs.length := by simp [rRows, n1] at h; omega
      simp only [rRows, List.getElem_zipWith]
      have z := bz _ (List.getElem_mem hi)
      exact ⟨_, _, f, g, _, _, rfl, rfl, rfl_eqR f g _, by omega, by omega, (h1.nd he i hi (by omega)).1, (h1.nd he i hi (by omega)).2, (h2.nd he i hi (by omega)).1, (h2.nd he i hi (by omega)).2⟩
  · obtain ⟨e1, e2⟩ := dN_er he
    rw [hd] at e1
    rw [hr] at e2
    subst e1 e2
    exact codexEq [] [] [] [] 0 0 rfl rfl rfl rfl (fun _ h => by cases h) (fun _ h => by cases h) (fun _ h => by cases h) (fun _ h => by cases h) _ _ _ _ _ _ _ _ w (fun h => by omega) (fun h => by omega) (fun h => by omega) (fun h => by omega) (fun i h => by cases h) (fun i h => by cases h) (by omega) (by omega)
end Go.Proofs.YtedbpjcglnkjmaaGreatDoor
