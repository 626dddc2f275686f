/- Texts on units: RCnt RVal LTwo LDcl LHdM -/
import Derived.Test.YtoaonficdkgfiaaY21
import Derived.Test.YtoaonficdkgfiaaY11
namespace Go.Proofs.Ytoaonficdkgfiaa
open Go.RowKit Un

theorem cnts_drop (g : Nat) (sm : Int) (ks : List Nd) (i : Nat) (h : i < ks.length) : cnts vld g sm (ks.drop i) = if cnt vld g ks[i] < 0 ∨ 200 < sm then -1 else cnts vld g (sm + cnt vld g ks[i]) (ks.drop (i + 1)) := by
 rw [List.drop_eq_getElem_cons h]
 rfl
mutual
theorem cnt_le : ∀ (g : Nat) (t : Nd), cnt vld g t ≤ 200 * (g : Int) + 1
 | g, .mk op pl nm n d u ks => by
  have := cnts_le (g - 1) ks 1
  simp only [cnt]
  split
  ·omega
  ·rename_i h
   have : ¬ g < 1 := fun e => h (.inl e)
   omega
theorem cnts_le : ∀ (g : Nat) (ks : List Nd) (s : Int), cnts vld g s ks ≤ max s (200 * (g : Int) + 201)
 | g, [], s => by simp only [cnts]; omega
 | g, k :: ks, s => by
  have h1 := cnt_le g k
  have h2 := cnts_le g ks (s + cnt vld g k)
  simp only [cnts]
  split
  ·omega
  ·rename_i h
   have : ¬ 200 < s := fun e => h (.inr e)
   omega
end
set_option maxRecDepth 100000 in
set_option maxHeartbeats 16000000 in
theorem rcount_any (N : Nat) : ∀ (t : Nd), size t ≤ N → nin t → ∀ (g : Nat), g ≤ 20 → ∀ (A : Nat → Prop) (x : Kd) (w : World), NdM w A t x → Calls Try.prog 49 #[nV t x, .int .i64 (g : Nat)] w fun e w' => e = .returned (.int .i64 (cnt vld g t)) ∧ RowKit.Below w.heap.size w w' := by
 induction N with
 | zero => intro t h; cases t; simp [size] at h
 | succ N ih =>
  intro t hN hin g hg A x w hx
  obtain ⟨op, pl, nm, n0, d0, u, ks⟩ := t
  simp only [size] at hN
  simp only [NdM] at hx
  simp only [nin] at hin
  obtain ⟨bq, off, hp, hkl, hK⟩ := hx
  obtain ⟨xq, xc⟩ := x
  have KM := Lib.hid (fun (i : Nat) (hi : i < ks.length) (h2 : 1 ≤ g) => ih ks[i] (by have := size_get ks i hi; omega) (nins_get ks i hi hin.2.2) (g - 1) (by omega) A)
  have KL := Lib.hid (fun (i : Nat) (hi : i < ks.length) => (cnt_eq (V := vld) (g - 1) ks[i]).1)
  have KE := Lib.hid (fun (i : Nat) (hi : i < ks.length) => cnt_le (g - 1) ks[i])
  have KO := Lib.hid (fun w => roperands_any op w)
  have KP := Lib.hid (fun w => rplain_any op pl nm n0 d0 u xq ks.length xc w)
  have KV := Lib.hid (fun w => rvalid_any n0 d0 w hin.1.1 hin.1.2 hin.2.1.1 hin.2.1.2)
  have KN := Lib.hid (fun w => rName_any nm w)
  have KB := Lib.hid (fun w => rbasic_any u w)
  obtain ⟨R, hR⟩ : ∃ R, R = cnt vld g (.mk op pl nm n0 d0 u ks) := ⟨_, rfl⟩
  rw [← hR]
  rw [cnt, okN_eq] at hR
  have HOKN : Hid (okN op nm n0 d0 u ks.length = (decide ((ks.length : Int) = arity op) && (if op = 1 then nm.isEmpty && (vld n0 d0 && decide (0 ≤ n0) && basic u) else if op = 2 then isName nm && (n0 == 0 && d0 == 0 && u == uNum) else nm.isEmpty && (n0 == 0 && d0 == 0 && u == uNum)))) := rfl
  have HAR : Hid (op = 1 ∨ op = 2 → arity op = 0) := fun h => by unfold arity; rcases h with rfl | rfl <;> rfl
  have HR := Lib.hid hR
  clear hR ih
  have HK := Lib.hid hK
  have HP := Lib.hid hp
  have HIN := Lib.hid hin
  clear hK hp hin
  have e1 := nm_test nm
  have HN := Lib.hid hN
  generalize okN op nm n0 d0 u ks.length = ok at *
  obtain ⟨uf, um, ua, ud⟩ := u
  simp only at KP KB
  simp only [nV, nC]
  obtain ⟨PB, hPB⟩ : ∃ PB, PB = (nm.isEmpty && (n0 == 0 && d0 == 0) && (⟨uf, um, ua, ud⟩ : U) == uNum) := ⟨_, rfl⟩
  rw [← hPB] at KP
  have HPB := Lib.hid hPB
  clear hPB
  generalize nm.isEmpty = E at *
  generalize isName nm = NM at *
  generalize bs nm = s at *
  have A1 := (Below.refl w.heap.size w).alloc (Nat.le_refl _) (.cells #[.int .i64 op, .int .i64 pl, .string s, .int .i64 n0, .int .i64 d0, .bool uf, .int .i64 um, .int .i64 ua, .int .i64 ud, .slice xq ks.length xc] 32)
  have X1 := Lib.hid (BoxL.new w [.int .i64 op, .int .i64 pl, .string s, .int .i64 n0, .int .i64 d0, .bool uf, .int .i64 um, .int .i64 ua, .int .i64 ud, .slice xq ks.length xc] 32)
  have HB := Lib.hid A1
  clear A1
  have HU2 : Hid (((⟨uf, um, ua, ud⟩ : U) == uNum) = (!uf && (um == 0 && (ua == 0 && ud == 0)))) := by
   show _ = _
   unfold uNum
   rw [Bool.eq_iff_iff, beq_iff_eq]
   simp
  generalize ((⟨uf, um, ua, ud⟩ : U) == uNum) = ZU at *
  generalize basic ⟨uf, um, ua, ud⟩ = BS at *
  generalize vld n0 d0 = VL at *
  have HZN : Hid ((n0 == 0 && d0 == 0) = decide (n0 = 0 ∧ d0 = 0)) := by show _ = _; rw [Bool.eq_iff_iff]; simp
  generalize hW1 : w.alloc (.cells #[.int .i64 op, .int .i64 pl, .string s, .int .i64 n0, .int .i64 d0, .bool uf, .int .i64 um, .int .i64 ua, .int .i64 ud, .slice xq ks.length xc] 32) = W1 at *
  obtain ⟨c0, c1, c2, c3, c4, c5, c6, c7, c8, c9⟩ := box10 X1.out
  by_cases hg1 : g < 1
  ·have hg0 : g = 0 := by omega
   subst hg0
   have HR2 : Hid (R = -1) := by show _ = _; rw [HR.out, if_pos (.inl (by omega))]
   clear HR
   go_enter Try.func49, Try.ntmps49
   go_wp2_with fail
   clear hW1
   have hS : W1.drew.cell? ⟨w.heap.size, 0, none⟩ = some (.int .i64 op) ∧ W1.drew.cell? ⟨w.heap.size, 1, none⟩ = some (.int .i64 pl) ∧ W1.drew.cell? ⟨w.heap.size, 2, none⟩ = some (.string s) ∧ W1.drew.cell? ⟨w.heap.size, 3, none⟩ = some (.int .i64 n0) ∧ W1.drew.cell? ⟨w.heap.size, 4, none⟩ = some (.int .i64 d0) ∧ W1.drew.cell? ⟨w.heap.size, 5, none⟩ = some (.bool uf) ∧ W1.drew.cell? ⟨w.heap.size, 6, none⟩ = some (.int .i64 um) ∧ W1.drew.cell? ⟨w.heap.size, 7, none⟩ = some (.int .i64 ua) ∧ W1.drew.cell? ⟨w.heap.size, 8, none⟩ = some (.int .i64 ud) ∧ W1.drew.cell? ⟨w.heap.size, 9, none⟩ = some (.slice xq ks.length xc) := ⟨c0, c1, c2, c3, c4, c5, c6, c7, c8, c9⟩
   refine wp_region_held (S := fun w' : World => w'.cell? ⟨w.heap.size, 0, none⟩ = some (.int .i64 op) ∧ w'.cell? ⟨w.heap.size, 1, none⟩ = some (.int .i64 pl) ∧ w'.cell? ⟨w.heap.size, 2, none⟩ = some (.string s) ∧ w'.cell? ⟨w.heap.size, 3, none⟩ = some (.int .i64 n0) ∧ w'.cell? ⟨w.heap.size, 4, none⟩ = some (.int .i64 d0) ∧ w'.cell? ⟨w.heap.size, 5, none⟩ = some (.bool uf) ∧ w'.cell? ⟨w.heap.size, 6, none⟩ = some (.int .i64 um) ∧ w'.cell? ⟨w.heap.size, 7, none⟩ = some (.int .i64 ua) ∧ w'.cell? ⟨w.heap.size, 8, none⟩ = some (.int .i64 ud) ∧ w'.cell? ⟨w.heap.size, 9, none⟩ = some (.slice xq ks.length xc)) mixed ?_
   change wpAnyH _ _ _ _ _ _ _ _ W1.drew
   have HHS := Lib.hid hS
   refine tk0 (v := ?_) (by kernel_rfl) (by kernel_rfl) (by kernel_rfl) (fun _ _ _ h => h) (Or.inl ⟨by rfl, ?_⟩) hS ?_
   rotate_left
   ·(intro w hSw; (try dsimp only at hSw); go_simp; try with_reducible rfl)
   simp only [Act.put, zA, zB, zC]
   refine tk1 (v := ?_) (by kernel_rfl) (by kernel_rfl) (by kernel_rfl) (fun _ _ _ h => h) (Or.inl ⟨by rfl, ?_⟩) hS ?_
   rotate_left
   ·(intro w hSw; (try dsimp only at hSw); go_simp; try with_reducible rfl)
   simp only [Act.put, zA, zB, zC]
   refine tk2 (v := ?_) (by kernel_rfl) (by kernel_rfl) (by kernel_rfl) (fun _ _ _ h => h) (Or.inl ⟨by rfl, ?_⟩) hS ?_
   rotate_left
   ·(intro w hSw; (try dsimp only at hSw); go_simp; try with_reducible rfl)
   simp only [Act.put, zA, zB, zC]
   refine tk3 (v := undef) (by kernel_rfl) (by kernel_rfl) (by kernel_rfl) (fun _ _ _ h => h) (Or.inr ⟨by rfl, by rfl⟩) hS ?_
   simp only [Act.put, zA, zB, zC]
   refine tk4 (v := undef) (by kernel_rfl) (by kernel_rfl) (by kernel_rfl) (fun _ _ _ h => h) (Or.inr ⟨by rfl, by rfl⟩) hS ?_
   simp only [Act.put, zA, zB, zC]
   refine tk5 (v := undef) (by kernel_rfl) (by kernel_rfl) (by kernel_rfl) (fun _ _ _ h => h) (Or.inr ⟨by rfl, by rfl⟩) hS ?_
   simp only [Act.put, zA, zB, zC]
   refine tk6 (v := undef) (by kernel_rfl) (by kernel_rfl) (by kernel_rfl) (fun _ _ _ h => h) (Or.inr ⟨by rfl, by rfl⟩) hS ?_
   simp only [Act.put, zA, zB, zC]
   refine tk7 (v := undef) (by kernel_rfl) (by kernel_rfl) (by kernel_rfl) (fun _ _ _ h => h) (Or.inr ⟨by rfl, by rfl⟩) hS ?_
   simp only [Act.put, zA, zB, zC]
   refine wpAnyH_ready (rs := [8]) (by kernel_rfl) (by simp) (st8 (fun K hK => ?_) AllReadyH.nil)
   go_simp
   refine hK.out _ _ ?_ (fun hHeld => ?_)
   ·exact HHS.out
   clear hK K
   try simp only [Act.put, zA, zB, zC]
   refine tk9 (v := undef) (by kernel_rfl) (by kernel_rfl) (by kernel_rfl) (fun _ _ _ h => h) (Or.inr ⟨by rfl, by rfl⟩) hHeld ?_
   simp only [Act.put, zA, zB, zC]
   refine tk10 (v := ?_) (by kernel_rfl) (by kernel_rfl) (by kernel_rfl) (fun _ _ _ h => h) (Or.inl ⟨by rfl, ?_⟩) hHeld ?_
   rotate_left
   ·(intro w hSw; (try dsimp only at hSw); go_simp; try with_reducible rfl)
   simp only [Act.put, zA, zB, zC]
   refine wpAnyH_done (by kernel_rfl) ?_ _
   go_wp2_with fail
   go_ret
   exact ⟨ret_i64 HR2.out.symm, (by repeat' (first | (with_reducible exact HB.out) | (with_reducible refine Below.setCell ?_ ?_ _) | (with_reducible refine Below.alloc ?_ ?_ _) | (with_reducible refine Below.drew ?_) | (with_reducible refine below_drewN ?_ _) | (with_reducible exact Below.refl _ _) | omega | (simp; done) | (simp; omega)))⟩
  ·have hgz : ¬ (g : Int) < 1 := by omega
   have HR2 : Hid (R = if ok = false then -1 else cnts vld (g - 1) 1 ks) := by
    show _ = _
    rw [HR.out]
    cases ok with
    | false => rw [if_pos (.inr rfl), if_pos rfl]
    | true => rw [if_neg (by rintro (h | h) <;> first | omega | cases h), if_neg (by simp)]
   clear HR
   by_cases ha : (ks.length : Int) = arity op
   ·have HOK2 := Lib.hid (HOKN.out.trans (by rw [decide_eq_true ha, Bool.true_and]))
    have hnb : ((ks.length : Int) != arity op) = false := by rw [bne_eq_false_iff_eq]; exact ha
    have HA0 : Hid (op = 1 ∨ op = 2 → ks = []) := fun h => by have := HAR.out h; exact List.length_eq_zero_iff.1 (by omega)
    clear ha HOKN HAR
    generalize arity op = ar at *
    go_enter Try.func49, Try.ntmps49
    go_wp2_with fail
    clear hW1
    have hS : W1.drew.cell? ⟨w.heap.size, 0, none⟩ = some (.int .i64 op) ∧ W1.drew.cell? ⟨w.heap.size, 1, none⟩ = some (.int .i64 pl) ∧ W1.drew.cell? ⟨w.heap.size, 2, none⟩ = some (.string s) ∧ W1.drew.cell? ⟨w.heap.size, 3, none⟩ = some (.int .i64 n0) ∧ W1.drew.cell? ⟨w.heap.size, 4, none⟩ = some (.int .i64 d0) ∧ W1.drew.cell? ⟨w.heap.size, 5, none⟩ = some (.bool uf) ∧ W1.drew.cell? ⟨w.heap.size, 6, none⟩ = some (.int .i64 um) ∧ W1.drew.cell? ⟨w.heap.size, 7, none⟩ = some (.int .i64 ua) ∧ W1.drew.cell? ⟨w.heap.size, 8, none⟩ = some (.int .i64 ud) ∧ W1.drew.cell? ⟨w.heap.size, 9, none⟩ = some (.slice xq ks.length xc) := ⟨c0, c1, c2, c3, c4, c5, c6, c7, c8, c9⟩
    refine wp_region_held (S := fun w' : World => w'.cell? ⟨w.heap.size, 0, none⟩ = some (.int .i64 op) ∧ w'.cell? ⟨w.heap.size, 1, none⟩ = some (.int .i64 pl) ∧ w'.cell? ⟨w.heap.size, 2, none⟩ = some (.string s) ∧ w'.cell? ⟨w.heap.size, 3, none⟩ = some (.int .i64 n0) ∧ w'.cell? ⟨w.heap.size, 4, none⟩ = some (.int .i64 d0) ∧ w'.cell? ⟨w.heap.size, 5, none⟩ = some (.bool uf) ∧ w'.cell? ⟨w.heap.size, 6, none⟩ = some (.int .i64 um) ∧ w'.cell? ⟨w.heap.size, 7, none⟩ = some (.int .i64 ua) ∧ w'.cell? ⟨w.heap.size, 8, none⟩ = some (.int .i64 ud) ∧ w'.cell? ⟨w.heap.size, 9, none⟩ = some (.slice xq ks.length xc)) mixed ?_
    change wpAnyH _ _ _ _ _ _ _ _ W1.drew
    have HHS := Lib.hid hS
    refine tk0 (v := ?_) (by kernel_rfl) (by kernel_rfl) (by kernel_rfl) (fun _ _ _ h => h) (Or.inl ⟨by rfl, ?_⟩) hS ?_
    rotate_left
    ·(intro w hSw; (try dsimp only at hSw); go_simp; try with_reducible rfl)
    simp only [Act.put, zA, zB, zC]
    refine tk1 (v := .bool false) (by kernel_rfl) (by kernel_rfl) (by kernel_rfl) (fun _ _ _ h => h) (Or.inl ⟨by rfl, (by intro w hSw; (try dsimp only at hSw); go_simp <;> (first | (with_reducible rfl) | (simp; done) | (simp; omega) | omega))⟩) hS ?_
    simp only [Act.put, zA, zB, zC]
    refine tk2 (v := ?_) (by kernel_rfl) (by kernel_rfl) (by kernel_rfl) (fun _ _ _ h => h) (Or.inl ⟨by rfl, ?_⟩) hS ?_
    rotate_left
    ·(intro w hSw; (try dsimp only at hSw); go_simp; try with_reducible rfl)
    simp only [Act.put, zA, zB, zC]
    refine tk3 (v := ?_) (by kernel_rfl) (by kernel_rfl) (by kernel_rfl) (fun _ _ _ h => h) (Or.inl ⟨by rfl, ?_⟩) hS ?_
    rotate_left
    ·(intro w hSw; (try dsimp only at hSw); go_simp; try with_reducible rfl)
    simp only [Act.put, zA, zB, zC]
    refine tk4 (v := ?_) (by kernel_rfl) (by kernel_rfl) (by kernel_rfl) (fun _ _ _ h => h) (Or.inl ⟨by rfl, ?_⟩) hS ?_
    rotate_left
    ·(intro w hSw; (try dsimp only at hSw); go_simp; try with_reducible rfl)
    simp only [Act.put, zA, zB, zC]
    refine tk5 (v := ?_) (by kernel_rfl) (by kernel_rfl) (by kernel_rfl) (fun _ _ _ h => h) (Or.inl ⟨by rfl, ?_⟩) hS ?_
    rotate_left
    ·(intro w hSw; (try dsimp only at hSw); go_simp; try with_reducible rfl)
    simp only [Act.put, zA, zB, zC]
    refine tk6 (v := ?_) (by kernel_rfl) (by kernel_rfl) (by kernel_rfl) (fun _ _ _ h => h) (Or.inl ⟨by rfl, ?_⟩) hS ?_
    rotate_left
    ·(intro w hSw; (try dsimp only at hSw); go_simp; try with_reducible rfl)
    simp only [Act.put, zA, zB, zC]
    refine tk7 (v := ?_) (by kernel_rfl) (by kernel_rfl) (by kernel_rfl) (fun _ _ _ h => h) (Or.inl ⟨by rfl, ?_⟩) hS ?_
    rotate_left
    ·(intro w hSw; (try dsimp only at hSw); go_simp; try with_reducible rfl)
    simp only [Act.put, zA, zB, zC]
    refine wpAnyH_ready (rs := [8]) (by kernel_rfl) (by simp) (st8 (fun K hK => ?_) AllReadyH.nil)
    go_simp
    refine (KO.out _).mono ?_
    rintro _ v ⟨rfl, hv⟩
    rw [hv]
    clear hv v
    go_wp2_with fail
    refine hK.out _ _ ?_ (fun hHeld => ?_)
    ·exact HHS.out
    clear hK K
    try simp only [Act.put, zA, zB, zC]
    refine tk9 (v := .bool false) (by kernel_rfl) (by kernel_rfl) (by kernel_rfl) (fun _ _ _ h => h) (Or.inl ⟨by rfl, (by intro w hSw; (try dsimp only at hSw); go_simp <;> (first | (with_reducible rfl) | (simp only [hnb]; done) | (rw [hnb])))⟩) hHeld ?_
    simp only [Act.put, zA, zB, zC]
    refine tk10 (v := ?_) (by kernel_rfl) (by kernel_rfl) (by kernel_rfl) (fun _ _ _ h => h) (Or.inl ⟨by rfl, ?_⟩) hHeld ?_
    rotate_left
    ·(intro w hSw; (try dsimp only at hSw); go_simp; try with_reducible rfl)
    simp only [Act.put, zA, zB, zC]
    refine wpAnyH_done (by kernel_rfl) ?_ _
    go_wp2_with fail
    refine (KP.out _).mono ?_
    rintro _ V1 ⟨rfl, hb⟩
    replace hb := (Below.refl W1.heap.size W1).drew.trans hb
    have B2 := Lib.hid (HB.out.trans (hb.mono HB.out.size))
    have X2 := Lib.hid (X1.out.bel (by simp) hb)
    clear hb HB X1
    clear HHS KO KP hnb
    clear c0 c1 c2 c3 c4 c5 c6 c7 c8 c9
    obtain ⟨c0, c1, c2, c3, c4, c5, c6, c7, c8, c9⟩ := box10 X2.out
    by_cases o1 : op = 1
    ·have hks := HA0.out (.inl o1)
     subst hks
     subst o1
     simp only [if_true] at HOK2
     go_wp2_with fail
     refine (KV.out _).mono ?_
     rintro _ V2 ⟨rfl, hb⟩
     have B3 := Lib.hid (B2.out.trans (hb.mono B2.out.size))
     have X3 := Lib.hid (X2.out.bel (by simp) hb)
     clear hb B2 X2
     clear c0 c1 c2 c3 c4 c5 c6 c7 c8 c9
     obtain ⟨c0, c1, c2, c3, c4, c5, c6, c7, c8, c9⟩ := box10 X3.out
     cases VL with
     | false =>
      have HR3 : Hid (R = -1) := by show _ = _; rw [HR2.out, if_pos (by rw [HOK2.out]; simp)]
      go_wp2_with fail
      go_ret
      exact ⟨ret_i64 HR3.out.symm, B3.out⟩
     | true =>
      by_cases hn0 : 0 ≤ n0
      ·cases E with
       | false =>
        have HR3 : Hid (R = -1) := by show _ = _; rw [HR2.out, if_pos (by rw [HOK2.out]; simp)]
        go_wp2_with fail
        go_ret
        exact ⟨ret_i64 HR3.out.symm, B3.out⟩
       | true =>
        go_wp2_with fail
        refine (KB.out _).mono ?_
        rintro _ VV ⟨rfl, hb⟩
        have B4 := Lib.hid (B3.out.trans (hb.mono B3.out.size))
        have X4 := Lib.hid (X3.out.bel (by simp) hb)
        clear hb B3 X3
        clear c0 c1 c2 c3 c4 c5 c6 c7 c8 c9
        obtain ⟨c0, c1, c2, c3, c4, c5, c6, c7, c8, c9⟩ := box10 X4.out
        cases BS with
        | false =>
         have HR3 : Hid (R = -1) := by show _ = _; rw [HR2.out, if_pos (by rw [HOK2.out]; simp)]
         go_wp2_with fail
         go_ret
         exact ⟨ret_i64 HR3.out.symm, B4.out⟩
        | true =>
         have HR3 : Hid (R = 1) := by show _ = _; rw [HR2.out, if_neg (by rw [HOK2.out]; simp [hn0])]; rfl
         go_wp2_with fail
         go_loopg [6, 7] 0 (fun g v6 v7 wr => v6 = .int .i64 1 ∧ v7 = .int .i64 0 ∧ wr = VV)
         case atStart => exact ⟨rfl, rfl, rfl⟩
         case round =>
          obtain ⟨rfl, rfl, rfl⟩ := hrel
          go_wp2_with fail
          go_ret
          exact ⟨ret_i64 HR3.out.symm, B4.out⟩
      ·have HR3 : Hid (R = -1) := by show _ = _; rw [HR2.out, if_pos (by rw [HOK2.out]; simp [hn0])]
       go_wp2_with fail
       go_ret
       exact ⟨ret_i64 HR3.out.symm, B3.out⟩
    ·have o1b : (op == 1) = false := by simpa using o1
     by_cases o2 : op = 2
     ·have hks := HA0.out (.inr o2)
      subst hks
      subst o2
      rw [if_neg (by decide), if_pos rfl] at HOK2
      go_wp2_with fail
      refine (KN.out _).mono ?_
      rintro _ VV ⟨rfl, hb⟩
      have B3 := Lib.hid (B2.out.trans (hb.mono B2.out.size))
      have X3 := Lib.hid (X2.out.bel (by simp) hb)
      clear hb B2 X2
      clear c0 c1 c2 c3 c4 c5 c6 c7 c8 c9
      obtain ⟨c0, c1, c2, c3, c4, c5, c6, c7, c8, c9⟩ := box10 X3.out
      cases NM with
      | false =>
       have HR3 : Hid (R = -1) := by show _ = _; rw [HR2.out, if_pos (by rw [HOK2.out]; simp)]
       go_wp2_with fail
       go_ret
       exact ⟨ret_i64 HR3.out.symm, B3.out⟩
      | true =>
       by_cases z1 : n0 = 0
       ·by_cases z2 : d0 = 0
        ·subst z1
         subst z2
         have hu2 := HU2.out
         clear HU2
         cases uf with
         | true =>
          have hzu : ZU = false := by rw [hu2]; rfl
          clear hu2
          have HR3 : Hid (R = -1) := by show _ = _; rw [HR2.out, if_pos (by rw [HOK2.out]; rw [hzu]; simp)]
          go_wp2_with fail
          go_ret
          exact ⟨ret_i64 HR3.out.symm, B3.out⟩
         | false =>
          by_cases y_um : um = 0
          ·subst y_um
           by_cases y_ua : ua = 0
           ·subst y_ua
            by_cases y_ud : ud = 0
            ·subst y_ud
             have hzu : ZU = true := by rw [hu2]; rfl
             clear hu2
             have HR3 : Hid (R = 1) := by show _ = _; rw [HR2.out, if_neg (by rw [HOK2.out]; rw [hzu]; simp)]; rfl
             go_wp2_with fail
             go_loopg [6, 7] 0 (fun g v6 v7 wr => v6 = .int .i64 1 ∧ v7 = .int .i64 0 ∧ wr = VV)
             case atStart => exact ⟨rfl, rfl, rfl⟩
             case round =>
              obtain ⟨rfl, rfl, rfl⟩ := hrel
              go_wp2_with fail
              go_ret
              exact ⟨ret_i64 HR3.out.symm, B3.out⟩
            ·have hzu : ZU = false := by rw [hu2]; simp [y_ud]
             have yb : (ud == 0) = false := by simpa using y_ud
             clear hu2
             have HR3 : Hid (R = -1) := by show _ = _; rw [HR2.out, if_pos (by rw [HOK2.out]; rw [hzu]; simp)]
             go_wp2_with fail
             go_ret
             exact ⟨ret_i64 HR3.out.symm, B3.out⟩
           ·have hzu : ZU = false := by rw [hu2]; simp [y_ua]
            have yb : (ua == 0) = false := by simpa using y_ua
            clear hu2
            have HR3 : Hid (R = -1) := by show _ = _; rw [HR2.out, if_pos (by rw [HOK2.out]; rw [hzu]; simp)]
            go_wp2_with fail
            go_ret
            exact ⟨ret_i64 HR3.out.symm, B3.out⟩
          ·have hzu : ZU = false := by rw [hu2]; simp [y_um]
           have yb : (um == 0) = false := by simpa using y_um
           clear hu2
           have HR3 : Hid (R = -1) := by show _ = _; rw [HR2.out, if_pos (by rw [HOK2.out]; rw [hzu]; simp)]
           go_wp2_with fail
           go_ret
           exact ⟨ret_i64 HR3.out.symm, B3.out⟩
        ·have zb : (d0 == 0) = false := by simpa using z2
         have HR3 : Hid (R = -1) := by show _ = _; rw [HR2.out, if_pos (by rw [HOK2.out]; rw [zb]; simp)]
         go_wp2_with fail
         go_ret
         exact ⟨ret_i64 HR3.out.symm, B3.out⟩
       ·have zb : (n0 == 0) = false := by simpa using z1
        have HR3 : Hid (R = -1) := by show _ = _; rw [HR2.out, if_pos (by rw [HOK2.out]; rw [zb]; simp)]
        go_wp2_with fail
        go_ret
        exact ⟨ret_i64 HR3.out.symm, B3.out⟩
     ·have o2b : (op == 2) = false := by simpa using o2
      rw [if_neg o1, if_neg o2] at HOK2
      have HO : Hid (ok = PB) := by show _ = _; rw [HOK2.out, HPB.out]; simp only [Bool.and_assoc]
      clear HOK2 HPB
      cases PB with
      | false =>
       have HR3 : Hid (R = -1) := by show _ = _; rw [HR2.out, if_pos (by exact HO.out)]
       go_wp2_with fail
       go_ret
       exact ⟨ret_i64 HR3.out.symm, B2.out⟩
      | true =>
       have HR3 : Hid (R = cnts vld (g - 1) 1 ks) := by show _ = _; rw [HR2.out, if_neg (by rw [HO.out]; simp)]
       go_wp2_with fail
       clear c0 c1 c2 c3 c4 c5 c6 c7 c8
       go_loopg [6, 7] ks.length (fun g' v6 v7 wr => ∃ (i : Nat) (sm : Int), i ≤ ks.length ∧ ks.length - i ≤ g' ∧ v7 = .int .i64 (i : Nat) ∧ v6 = .int .i64 sm ∧ Hid (cnts vld (g - 1) 1 ks = cnts vld (g - 1) sm (ks.drop i)) ∧ 1 ≤ sm ∧ sm ≤ 10000 ∧ Hid (RowKit.Below V1.heap.size V1 wr))
       case atStart => exact ⟨0, 1, Nat.zero_le _, by omega, by simp, rfl, by show _ = _; rw [List.drop_zero], by omega, by omega, Below.refl _ _⟩
       case round =>
        obtain ⟨i, sm, hi, hg2, rfl, rfl, HM, hs1, hs2, HW⟩ := hrel
        have B5 := Lib.hid (B2.out.trans (HW.out.mono B2.out.size))
        have X5 := Lib.hid (X2.out.bel (by simp) HW.out)
        clear c9
        obtain ⟨c9, -⟩ := X5.out 9 _ rfl
        by_cases hlt : i < ks.length
        ·have hz : (i : Int) < (ks.length : Int) := by omega
         have hq := (HP.out (by omega)).1
         have hbq := (HP.out (by omega)).2.2
         have hAb := (HP.out (by omega)).2.1
         subst hq
         obtain ⟨⟨yq, yc⟩, hc, hn⟩ := KdM.get (KdM.keep B5.out.size (fun j _ hj => B5.out.block j hj) (fun _ h _ => h) bq hAb hbq off ks HK.out) i hlt
         have KQ := Lib.hid (KM.out i hlt (by omega) _ _ hn)
         have hke := KE.out i hlt
         have hkl := KL.out i hlt
         have E3 := Lib.hid (HM.out.trans (cnts_drop (g - 1) sm ks i hlt))
         clear hn HM
         have hsz1 := size_pos ks[i]
         generalize ks[i] = k at *
         generalize size k = szk at *
         obtain ⟨op', pl', nm', n', d', ⟨uf', um', ua', ud'⟩, ks'⟩ := k
         generalize cnt vld (g - 1) (.mk op' pl' nm' n' d' ⟨uf', um', ua', ud'⟩ ks') = ck at *
         simp only [nC] at hc
         simp only [nV, nC] at KQ
         have z0 := hc 0 _ rfl
         have z1 := hc 1 _ rfl
         have z2 := hc 2 _ rfl
         have z3 := hc 3 _ rfl
         have z4 := hc 4 _ rfl
         have z5 := hc 5 _ rfl
         have z6 := hc 6 _ rfl
         have z7 := hc 7 _ rfl
         have z8 := hc 8 _ rfl
         have z9 := hc 9 _ rfl
         rw [Nat.add_zero] at z0
         have e2 : IntKind.i64.wrap ((i : Int) + 1) = ((i + 1 : Nat) : Int) := by rw [IntWalk.i64_in _ (by omega)]; rfl
         have e3 : IntKind.i64.wrap ((g : Int) - 1) = ((g - 1 : Nat) : Int) := by rw [IntWalk.i64_in _ (by omega)]; omega
         have hcb : ck ≤ 5000 := by omega
         have hcl : -1 ≤ ck := by omega
         clear hc hke hkl hsz1
         generalize bs nm' = s' at *
         go_wp2_with fail
         refine KQ.out.mono ?_
         rintro _ V3 ⟨rfl, hb⟩
         have HW3 := Lib.hid (HW.out.trans (hb.mono HW.out.size))
         have B6 := Lib.hid (B5.out.trans (hb.mono B5.out.size))
         clear hb KQ z0 z1 z2 z3 z4 z5 z6 z7 z8 z9 c9
         by_cases hneg : ck < 0
         ·have HX : Hid (R = -1) := by show _ = _; rw [HR3.out, E3.out, if_pos (.inl hneg)]
          go_wp2_with fail
          go_ret
          exact ⟨ret_i64 HX.out.symm, B6.out⟩
         ·by_cases h200 : 200 < sm
          ·have HX : Hid (R = -1) := by show _ = _; rw [HR3.out, E3.out, if_pos (.inr h200)]
           go_wp2_with fail
           go_ret
           exact ⟨ret_i64 HX.out.symm, B6.out⟩
          ·have HX : Hid (cnts vld (g - 1) 1 ks = cnts vld (g - 1) (sm + ck) (ks.drop (i + 1))) := by show _ = _; rw [E3.out, if_neg (by rintro (h | h) <;> omega)]
           have e4 : IntKind.i64.wrap (sm + ck) = sm + ck := IntWalk.i64_in _ (by omega)
           go_wp2_with fail
           go_roundg (ks.length - (i + 1))
           case measure => omega
           case rel => exact ⟨i + 1, sm + ck, by omega, Nat.le_refl _, by simp, rfl, HX, by omega, by omega, HW3⟩
        ·have hz : ¬ (i : Int) < (ks.length : Int) := by omega
         have hie : i = ks.length := by omega
         have HX : Hid (R = sm) := by show _ = _; rw [HR3.out, HM.out, hie, List.drop_length]; rfl
         go_wp2_with fail
         go_ret
         exact ⟨ret_i64 HX.out.symm, B5.out⟩
   ·have HOK2 : Hid (ok = false) := by show _ = _; rw [HOKN.out, decide_eq_false ha]; rfl
    have HR3 : Hid (R = -1) := by show _ = _; rw [HR2.out, HOK2.out, if_pos rfl]
    have hnb : ((ks.length : Int) != arity op) = true := by rw [bne_iff_ne]; exact ha
    clear ha HOKN HAR HOK2 HR2
    generalize arity op = ar at *
    go_enter Try.func49, Try.ntmps49
    go_wp2_with fail
    clear hW1
    have hS : W1.drew.cell? ⟨w.heap.size, 0, none⟩ = some (.int .i64 op) ∧ W1.drew.cell? ⟨w.heap.size, 1, none⟩ = some (.int .i64 pl) ∧ W1.drew.cell? ⟨w.heap.size, 2, none⟩ = some (.string s) ∧ W1.drew.cell? ⟨w.heap.size, 3, none⟩ = some (.int .i64 n0) ∧ W1.drew.cell? ⟨w.heap.size, 4, none⟩ = some (.int .i64 d0) ∧ W1.drew.cell? ⟨w.heap.size, 5, none⟩ = some (.bool uf) ∧ W1.drew.cell? ⟨w.heap.size, 6, none⟩ = some (.int .i64 um) ∧ W1.drew.cell? ⟨w.heap.size, 7, none⟩ = some (.int .i64 ua) ∧ W1.drew.cell? ⟨w.heap.size, 8, none⟩ = some (.int .i64 ud) ∧ W1.drew.cell? ⟨w.heap.size, 9, none⟩ = some (.slice xq ks.length xc) := ⟨c0, c1, c2, c3, c4, c5, c6, c7, c8, c9⟩
    refine wp_region_held (S := fun w' : World => w'.cell? ⟨w.heap.size, 0, none⟩ = some (.int .i64 op) ∧ w'.cell? ⟨w.heap.size, 1, none⟩ = some (.int .i64 pl) ∧ w'.cell? ⟨w.heap.size, 2, none⟩ = some (.string s) ∧ w'.cell? ⟨w.heap.size, 3, none⟩ = some (.int .i64 n0) ∧ w'.cell? ⟨w.heap.size, 4, none⟩ = some (.int .i64 d0) ∧ w'.cell? ⟨w.heap.size, 5, none⟩ = some (.bool uf) ∧ w'.cell? ⟨w.heap.size, 6, none⟩ = some (.int .i64 um) ∧ w'.cell? ⟨w.heap.size, 7, none⟩ = some (.int .i64 ua) ∧ w'.cell? ⟨w.heap.size, 8, none⟩ = some (.int .i64 ud) ∧ w'.cell? ⟨w.heap.size, 9, none⟩ = some (.slice xq ks.length xc)) mixed ?_
    change wpAnyH _ _ _ _ _ _ _ _ W1.drew
    have HHS := Lib.hid hS
    refine tk0 (v := ?_) (by kernel_rfl) (by kernel_rfl) (by kernel_rfl) (fun _ _ _ h => h) (Or.inl ⟨by rfl, ?_⟩) hS ?_
    rotate_left
    ·(intro w hSw; (try dsimp only at hSw); go_simp; try with_reducible rfl)
    simp only [Act.put, zA, zB, zC]
    refine tk1 (v := .bool false) (by kernel_rfl) (by kernel_rfl) (by kernel_rfl) (fun _ _ _ h => h) (Or.inl ⟨by rfl, (by intro w hSw; (try dsimp only at hSw); go_simp <;> (first | (with_reducible rfl) | (simp; done) | (simp; omega) | omega))⟩) hS ?_
    simp only [Act.put, zA, zB, zC]
    refine tk2 (v := ?_) (by kernel_rfl) (by kernel_rfl) (by kernel_rfl) (fun _ _ _ h => h) (Or.inl ⟨by rfl, ?_⟩) hS ?_
    rotate_left
    ·(intro w hSw; (try dsimp only at hSw); go_simp; try with_reducible rfl)
    simp only [Act.put, zA, zB, zC]
    refine tk3 (v := ?_) (by kernel_rfl) (by kernel_rfl) (by kernel_rfl) (fun _ _ _ h => h) (Or.inl ⟨by rfl, ?_⟩) hS ?_
    rotate_left
    ·(intro w hSw; (try dsimp only at hSw); go_simp; try with_reducible rfl)
    simp only [Act.put, zA, zB, zC]
    refine tk4 (v := ?_) (by kernel_rfl) (by kernel_rfl) (by kernel_rfl) (fun _ _ _ h => h) (Or.inl ⟨by rfl, ?_⟩) hS ?_
    rotate_left
    ·(intro w hSw; (try dsimp only at hSw); go_simp; try with_reducible rfl)
    simp only [Act.put, zA, zB, zC]
    refine tk5 (v := ?_) (by kernel_rfl) (by kernel_rfl) (by kernel_rfl) (fun _ _ _ h => h) (Or.inl ⟨by rfl, ?_⟩) hS ?_
    rotate_left
    ·(intro w hSw; (try dsimp only at hSw); go_simp; try with_reducible rfl)
    simp only [Act.put, zA, zB, zC]
    refine tk6 (v := ?_) (by kernel_rfl) (by kernel_rfl) (by kernel_rfl) (fun _ _ _ h => h) (Or.inl ⟨by rfl, ?_⟩) hS ?_
    rotate_left
    ·(intro w hSw; (try dsimp only at hSw); go_simp; try with_reducible rfl)
    simp only [Act.put, zA, zB, zC]
    refine tk7 (v := ?_) (by kernel_rfl) (by kernel_rfl) (by kernel_rfl) (fun _ _ _ h => h) (Or.inl ⟨by rfl, ?_⟩) hS ?_
    rotate_left
    ·(intro w hSw; (try dsimp only at hSw); go_simp; try with_reducible rfl)
    simp only [Act.put, zA, zB, zC]
    refine wpAnyH_ready (rs := [8]) (by kernel_rfl) (by simp) (st8 (fun K hK => ?_) AllReadyH.nil)
    go_simp
    refine (KO.out _).mono ?_
    rintro _ v ⟨rfl, hv⟩
    rw [hv]
    clear hv v
    go_wp2_with fail
    refine hK.out _ _ ?_ (fun hHeld => ?_)
    ·exact HHS.out
    clear hK K
    try simp only [Act.put, zA, zB, zC]
    refine tk9 (v := .bool true) (by kernel_rfl) (by kernel_rfl) (by kernel_rfl) (fun _ _ _ h => h) (Or.inl ⟨by rfl, (by intro w hSw; (try dsimp only at hSw); go_simp <;> (first | (with_reducible rfl) | (simp only [hnb]; done) | (rw [hnb])))⟩) hHeld ?_
    simp only [Act.put, zA, zB, zC]
    refine tk10 (v := ?_) (by kernel_rfl) (by kernel_rfl) (by kernel_rfl) (fun _ _ _ h => h) (Or.inl ⟨by rfl, ?_⟩) hHeld ?_
    rotate_left
    ·(intro w hSw; (try dsimp only at hSw); go_simp; try with_reducible rfl)
    simp only [Act.put, zA, zB, zC]
    refine wpAnyH_done (by kernel_rfl) ?_ _
    go_wp2_with fail
    go_ret
    exact ⟨ret_i64 HR3.out.symm, (by repeat' (first | (with_reducible exact HB.out) | (with_reducible refine Below.setCell ?_ ?_ _) | (with_reducible refine Below.alloc ?_ ?_ _) | (with_reducible refine Below.drew ?_) | (with_reducible refine below_drewN ?_ _) | (with_reducible exact Below.refl _ _) | omega | (simp; done) | (simp; omega)))⟩
end Go.Proofs.Ytoaonficdkgfiaa
namespace Go.Proofs.Ytoaonficdkgfiaa
open Go.RowKit Un

set_option maxRecDepth 100000 in
set_option maxHeartbeats 8000000 in
theorem rForm_any (t : Nd) (hn : nin t) (A : Nat → Prop) (x : Kd) (w : World) (hx : NdM w A t x) :
  Calls Try.prog 23 #[nV t x] w fun e w' => e = .returned (.bool (form vld t)) ∧ RowKit.Below w.heap.size w w' := by
 have KC := Lib.hid (fun V h => rcount_any (size t) t (Nat.le_refl _) hn 20 (by omega) A x V h)
 obtain ⟨R, hR⟩ : ∃ R, R = form vld t := ⟨_, rfl⟩
 rw [← hR]
 have HR : Hid (R = (decide (0 < cnt vld 20 t) && decide (cnt vld 20 t ≤ 200))) := by show _ = _; rw [hR, cnt_form]
 have HX := Lib.hid hx
 clear hR hx hn
 generalize cnt vld 20 t = k at *
 obtain ⟨op, pl, nm, n0, d0, ⟨uf, um, ua, ud⟩, ks⟩ := t
 obtain ⟨xq, xc⟩ := x
 simp only [nV, nC] at KC ⊢
 have A1 := (Below.refl w.heap.size w).alloc (Nat.le_refl _) (.cells #[.int .i64 op, .int .i64 pl, .string (bs nm), .int .i64 n0, .int .i64 d0, .bool uf, .int .i64 um, .int .i64 ua, .int .i64 ud, .slice xq ks.length xc] 32)
 have KQ := Lib.hid (KC.out _ (HX.out.bel A1))
 have HB := Lib.hid A1
 clear A1 KC HX
 generalize bs nm = s at *
 go_enter Try.func23, Try.ntmps23
 go_wp2_with fail
 refine KQ.out.mono ?_
 rintro _ V ⟨rfl, hb⟩
 have HB2 := Lib.hid (HB.out.trans (hb.mono HB.out.size))
 clear hb KQ
 by_cases h1 : 0 < k
 ·by_cases h2 : k ≤ 200
  ·go_wp2_with fail
   go_ret
   exact ⟨ret_bool (by rw [HR.out, decide_eq_true h1, decide_eq_true h2]; rfl), HB2.out⟩
  ·go_wp2_with fail
   go_ret
   exact ⟨ret_bool (by rw [HR.out, decide_eq_false (p := k ≤ 200) (by omega), Bool.and_false]), HB2.out⟩
 ·go_wp2_with fail
  go_ret
  exact ⟨ret_bool (by rw [HR.out, decide_eq_false (p := 0 < k) (by omega), Bool.false_and]), HB2.out⟩
set_option maxRecDepth 100000 in
set_option maxHeartbeats 8000000 in
theorem rValid_any (L : List Dc) (t : Nd) (hn : nin t) (p : Option Addr) (b off c : Nat) (A : Nat → Prop) (x : Kd) (w : World) (hS : SlR w p b off L.length 8 (L.map dC)) (hx : NdM w A t x) :
  Calls Try.prog 16 #[.slice p L.length c, nV t x] w fun e w' => e = .returned (.bool (rightD L && form vld t)) ∧ RowKit.Below w.heap.size w w' := by
 have KD := Lib.hid (fun V h => rDecls_any L p b off c V h)
 have KF := Lib.hid (fun V h => rForm_any t hn A x V h)
 have HS := Lib.hid hS
 have HX := Lib.hid hx
 clear hS hx hn
 generalize rightD L = a at *
 generalize form vld t = f at *
 obtain ⟨op, pl, nm, n0, d0, ⟨uf, um, ua, ud⟩, ks⟩ := t
 obtain ⟨xq, xc⟩ := x
 simp only [nV, nC] at KF ⊢
 have A1 := (Below.refl w.heap.size w).alloc (Nat.le_refl _) (.cells #[.int .i64 op, .int .i64 pl, .string (bs nm), .int .i64 n0, .int .i64 d0, .bool uf, .int .i64 um, .int .i64 ua, .int .i64 ud, .slice xq ks.length xc] 32)
 have X1 := Lib.hid (BoxL.new w [.int .i64 op, .int .i64 pl, .string (bs nm), .int .i64 n0, .int .i64 d0, .bool uf, .int .i64 um, .int .i64 ua, .int .i64 ud, .slice xq ks.length xc] 32)
 have HB := Lib.hid A1
 have KQ := Lib.hid (KD.out _ (HS.out.bel A1))
 have N1 := Lib.hid (HX.out.bel A1)
 clear A1 KD HS HX
 generalize bs nm = s at *
 go_enter Try.func16, Try.ntmps16
 go_wp2_with fail
 refine KQ.out.mono ?_
 rintro _ V ⟨rfl, hb⟩
 have HB2 := Lib.hid (HB.out.trans (hb.mono HB.out.size))
 have N2 := Lib.hid (N1.out.bel hb)
 obtain ⟨c0, c1, c2, c3, c4, c5, c6, c7, c8, c9⟩ := box10 (X1.out.bel (by simp) hb)
 clear hb KQ N1 X1 HB
 go_wp2_with fail
 refine (KF.out _ N2.out).mono ?_
 rintro _ V2 ⟨rfl, hb⟩
 have HB3 := Lib.hid (HB2.out.trans (hb.mono HB2.out.size))
 clear hb KF c0 c1 c2 c3 c4 c5 c6 c7 c8 c9
 cases a <;> cases f <;> (go_wp2_with fail; go_ret; exact ⟨rfl, HB3.out⟩)
end Go.Proofs.Ytoaonficdkgfiaa
namespace Go.Proofs.Ytoaonficdkgfiaa
open Go.RowKit Un

set_option maxRecDepth 100000 in
set_option maxHeartbeats 8000000 in
theorem ltwo_any (op pl : Int) (ta tb : Nd) (xa xb : Kd) (A : Nat → Prop) (w : World) (ha : NdM w A ta xa) (hb : NdM w A tb xb) :
  Calls Try.prog 24 #[.int .i64 op, .int .i64 pl, nV ta xa, nV tb xb] w fun e w' => ∃ x, e = .returned (nV (.mk op pl [] 0 0 uNum [ta, tb]) x) ∧ NdM w' (fun j => A j ∨ w.heap.size ≤ j) (.mk op pl [] 0 0 uNum [ta, tb]) x ∧ RowKit.Below w.heap.size w w' := by
 have HA := Lib.hid ha
 have HB := Lib.hid hb
 have HB0 := Lib.hid (Below.refl w.heap.size w)
 have HE : Hid (∀ V : World, RowKit.Below w.heap.size w V → BoxL V (w.heap.size + 3) (nC ta xa ++ nC tb xb) → w.heap.size + 3 < V.heap.size → NdM V (fun j => A j ∨ w.heap.size ≤ j) (.mk op pl [] 0 0 uNum [ta, tb]) ⟨some ⟨w.heap.size + 3, 0, none⟩, 2⟩) := fun V hV hx hl => by
  have la := nC_len ta xa
  have kp : ∀ t x, NdM w A t x → NdM V (fun j => A j ∨ w.heap.size ≤ j) t x := fun t x h => NdM.keep hV.size (fun j _ hj => hV.block j hj) (fun j hj _ => .inl hj) t x h
  simp only [NdM, KdM]
  refine ⟨w.heap.size + 3, 0, fun _ => ⟨by first | rfl | trivial, .inr (by omega), hl⟩, by simp, ⟨xa, fun j v hv => ?_, kp _ _ HA.out⟩, ⟨xb, fun j v hv => ?_, kp _ _ HB.out⟩, by first | trivial | simp⟩
  ·have hj := (List.getElem?_eq_some_iff.1 hv).1
   rw [Nat.zero_add]
   exact (hx j v (by rw [List.getElem?_append_left (by omega)]; exact hv)).1
  ·exact (hx (0 + 10 + j) v (by rw [List.getElem?_append_right (by omega), la]; rw [show 0 + 10 + j - 10 = j by omega]; exact hv)).1
 clear ha hb HA HB
 obtain ⟨op1, pl1, nm1, n1, d1, ⟨f1, m1, a1, t1⟩, ks1⟩ := ta
 obtain ⟨op2, pl2, nm2, n2, d2, ⟨f2, m2, a2, t2⟩, ks2⟩ := tb
 obtain ⟨q1, c1⟩ := xa
 obtain ⟨q2, c2⟩ := xb
 simp only [nC, List.cons_append, List.nil_append] at HE
 simp only [nV, nC]
 generalize bs nm1 = s1 at *
 generalize bs nm2 = s2 at *
 obtain ⟨W1, hW1⟩ : ∃ W1, w.alloc (.cells #[.int .i64 op1, .int .i64 pl1, .string s1, .int .i64 n1, .int .i64 d1, .bool f1, .int .i64 m1, .int .i64 a1, .int .i64 t1, .slice q1 ks1.length c1] 32) = W1 := ⟨_, rfl⟩
 have a1' := (Below.refl w.heap.size w).alloc (Nat.le_refl _) (.cells #[.int .i64 op1, .int .i64 pl1, .string s1, .int .i64 n1, .int .i64 d1, .bool f1, .int .i64 m1, .int .i64 a1, .int .i64 t1, .slice q1 ks1.length c1] 32)
 have y1 : BoxL W1 w.heap.size [.int .i64 op1, .int .i64 pl1, .string s1, .int .i64 n1, .int .i64 d1, .bool f1, .int .i64 m1, .int .i64 a1, .int .i64 t1, .slice q1 ks1.length c1] := by rw [← hW1]; exact box_new _ _ rfl
 rw [hW1] at a1'
 have z1 : W1.heap.size = w.heap.size + 1 := by rw [← hW1]; simp
 obtain ⟨W2, hW2⟩ : ∃ W2, W1.alloc (.cells #[.int .i64 op2, .int .i64 pl2, .string s2, .int .i64 n2, .int .i64 d2, .bool f2, .int .i64 m2, .int .i64 a2, .int .i64 t2, .slice q2 ks2.length c2] 32) = W2 := ⟨_, rfl⟩
 have a2' := (Below.refl W1.heap.size W1).alloc (Nat.le_refl _) (.cells #[.int .i64 op2, .int .i64 pl2, .string s2, .int .i64 n2, .int .i64 d2, .bool f2, .int .i64 m2, .int .i64 a2, .int .i64 t2, .slice q2 ks2.length c2] 32)
 have y2 : BoxL W2 (w.heap.size + 1) [.int .i64 op2, .int .i64 pl2, .string s2, .int .i64 n2, .int .i64 d2, .bool f2, .int .i64 m2, .int .i64 a2, .int .i64 t2, .slice q2 ks2.length c2] := by rw [← hW2]; exact box_new _ _ z1
 rw [hW2] at a2'
 have z2 : W2.heap.size = w.heap.size + 2 := by rw [← hW2]; simp; omega
 obtain ⟨W3, hW3⟩ : ∃ W3, W2.alloc (.cells #[.int .i64 0, .int .i64 0, .string ⟨#[]⟩, .int .i64 0, .int .i64 0, .bool false, .int .i64 0, .int .i64 0, .int .i64 0, .slice none 0 0] 32) = W3 := ⟨_, rfl⟩
 have a3' := (Below.refl W2.heap.size W2).alloc (Nat.le_refl _) (.cells #[.int .i64 0, .int .i64 0, .string ⟨#[]⟩, .int .i64 0, .int .i64 0, .bool false, .int .i64 0, .int .i64 0, .int .i64 0, .slice none 0 0] 32)
 have y3 : BoxL W3 (w.heap.size + 2) [.int .i64 0, .int .i64 0, .string ⟨#[]⟩, .int .i64 0, .int .i64 0, .bool false, .int .i64 0, .int .i64 0, .int .i64 0, .slice none 0 0] := by rw [← hW3]; exact box_new _ _ z2
 rw [hW3] at a3'
 have z3 : W3.heap.size = w.heap.size + 3 := by rw [← hW3]; simp; omega
 obtain ⟨W4, hW4⟩ : ∃ W4, W3.alloc (.cells #[.int .i64 op1, .int .i64 pl1, .string s1, .int .i64 n1, .int .i64 d1, .bool f1, .int .i64 m1, .int .i64 a1, .int .i64 t1, .slice q1 ks1.length c1, .int .i64 op2, .int .i64 pl2, .string s2, .int .i64 n2, .int .i64 d2, .bool f2, .int .i64 m2, .int .i64 a2, .int .i64 t2, .slice q2 ks2.length c2] 32) = W4 := ⟨_, rfl⟩
 have a4' := (Below.refl W3.heap.size W3).alloc (Nat.le_refl _) (.cells #[.int .i64 op1, .int .i64 pl1, .string s1, .int .i64 n1, .int .i64 d1, .bool f1, .int .i64 m1, .int .i64 a1, .int .i64 t1, .slice q1 ks1.length c1, .int .i64 op2, .int .i64 pl2, .string s2, .int .i64 n2, .int .i64 d2, .bool f2, .int .i64 m2, .int .i64 a2, .int .i64 t2, .slice q2 ks2.length c2] 32)
 have y4 : BoxL W4 (w.heap.size + 3) [.int .i64 op1, .int .i64 pl1, .string s1, .int .i64 n1, .int .i64 d1, .bool f1, .int .i64 m1, .int .i64 a1, .int .i64 t1, .slice q1 ks1.length c1, .int .i64 op2, .int .i64 pl2, .string s2, .int .i64 n2, .int .i64 d2, .bool f2, .int .i64 m2, .int .i64 a2, .int .i64 t2, .slice q2 ks2.length c2] := by rw [← hW4]; exact box_new _ _ z3
 rw [hW4] at a4'
 have z4 : W4.heap.size = w.heap.size + 4 := by rw [← hW4]; simp; omega
 have Y4 := Lib.hid y4
 have Y3 := Lib.hid (y3.bel (by simp) a4')
 have B4 := Lib.hid (((a1'.trans (a2'.mono (by omega))).trans (a3'.mono (by omega))).trans (a4'.mono (by omega)))
 have YA := y1.bel (by simp) (a2'.trans (a3'.mono (by omega)))
 have YB := y2.bel (by simp) a3'
 obtain ⟨u0, u1, u2, u3, u4, u5, u6, u7, u8, u9⟩ := box10 YA
 obtain ⟨v0, v1, v2, v3, v4, v5, v6, v7, v8, v9⟩ := box10 YB
 clear y1 y2 y3 y4 a1' a2' a3' a4' YA YB
 have r := Y3.out
 obtain ⟨r0, r1, r2, r3, r4, r5, r6, r7, r8, r9⟩ := box10 r
 have g : ∀ j, j < 10 → W4.frozen? ⟨w.heap.size + 2, j, none⟩ = false := fun j hj => (r j _ (List.getElem?_eq_getElem (by simpa using hj))).2
 have g0 := g 0 (by decide)
 have g1 := g 1 (by decide)
 have g2 := g 2 (by decide)
 have g3 := g 3 (by decide)
 have g4 := g 4 (by decide)
 have g5 := g 5 (by decide)
 have g6 := g 6 (by decide)
 have g7 := g 7 (by decide)
 have g8 := g 8 (by decide)
 have g9 := g 9 (by decide)
 clear g r
 go_enter Try.func24, Try.ntmps24
 go_wp2_with fail
 clear hW1 hW2 hW3 hW4 z1 z2 z3 u0 u1 u2 u3 u4 u5 u6 u7 u8 u9 v0 v1 v2 v3 v4 v5 v6 v7 v8 v9
 clear r0 r1 r2 r3 r4 r5 r6 r7 r8 r9 g0 g1 g2 g3 g4 g5 g6 g7 g8 g9
 refine (?_ : ∀ F : World, BoxL F (w.heap.size + 2) [.int .i64 op, .int .i64 pl, .string ⟨#[]⟩, .int .i64 0, .int .i64 0, .bool false, .int .i64 0, .int .i64 0, .int .i64 0, .slice (some ⟨w.heap.size + 3, 0, none⟩) 2 2] → BoxL F (w.heap.size + 3) [.int .i64 op1, .int .i64 pl1, .string s1, .int .i64 n1, .int .i64 d1, .bool f1, .int .i64 m1, .int .i64 a1, .int .i64 t1, .slice q1 ks1.length c1, .int .i64 op2, .int .i64 pl2, .string s2, .int .i64 n2, .int .i64 d2, .bool f2, .int .i64 m2, .int .i64 a2, .int .i64 t2, .slice q2 ks2.length c2] → RowKit.Below w.heap.size w F → F.heap.size = w.heap.size + 4 → bodyPost _ _ _ _ _ F) _ ((((((((((Y3.out.set 0 (.int .i64 op)).set 1 (.int .i64 pl)).set 2 (.string ⟨#[]⟩)).set 3 (.int .i64 0)).set 4 (.int .i64 0)).set 5 (.bool false)).set 6 (.int .i64 0)).set 7 (.int .i64 0)).set 8 (.int .i64 0)).set 9 (.slice (some ⟨w.heap.size + 3, 0, none⟩) 2 2)) ((((((((((Y4.out.other (r := w.heap.size + 2) (by omega) 0 (.int .i64 op)).other (r := w.heap.size + 2) (by omega) 1 (.int .i64 pl)).other (r := w.heap.size + 2) (by omega) 2 (.string ⟨#[]⟩)).other (r := w.heap.size + 2) (by omega) 3 (.int .i64 0)).other (r := w.heap.size + 2) (by omega) 4 (.int .i64 0)).other (r := w.heap.size + 2) (by omega) 5 (.bool false)).other (r := w.heap.size + 2) (by omega) 6 (.int .i64 0)).other (r := w.heap.size + 2) (by omega) 7 (.int .i64 0)).other (r := w.heap.size + 2) (by omega) 8 (.int .i64 0)).other (r := w.heap.size + 2) (by omega) 9 (.slice (some ⟨w.heap.size + 3, 0, none⟩) 2 2)) ?_ ?_
 ·intro F hr hx hB hs
  have HN := Lib.hid (HE.out F hB hx (by omega))
  have HBF := Lib.hid hB
  obtain ⟨r0, r1, r2, r3, r4, r5, r6, r7, r8, r9⟩ := box10 hr
  clear hr hx hB hs HE
  exact bodyPost_ret (v := .agg #[.int .i64 op, .int .i64 pl, .string ⟨#[]⟩, .int .i64 0, .int .i64 0, .bool false, .int .i64 0, .int .i64 0, .int .i64 0, .slice (some ⟨w.heap.size + 3, 0, none⟩) 2 2]) (by simp [results, Try.results24, go_sem, r0, r1, r2, r3, r4, r5, r6, r7, r8, r9]) rfl ⟨⟨some ⟨w.heap.size + 3, 0, none⟩, 2⟩, rfl, HN.out, HBF.out⟩
 ·exact (by repeat' (first | (with_reducible exact B4.out) | (with_reducible refine Below.setCell ?_ ?_ _) | (with_reducible refine Below.alloc ?_ ?_ _) | (with_reducible refine Below.drew ?_) | (with_reducible refine below_drewN ?_ _) | (with_reducible exact Below.refl _ _) | omega | (simp; done) | (simp; omega)))
 ·simp [World.setCell, z4]
end Go.Proofs.Ytoaonficdkgfiaa
namespace Go.Proofs.Ytoaonficdkgfiaa
open Go.RowKit Un

def sPersons : List UInt8 := [112, 101, 114, 115, 111, 110, 115]
def sRent : List UInt8 := [114, 101, 110, 116]
def sPerson : List UInt8 := [112, 101, 114, 115, 111, 110]
/-- The declarations of the example. -/
def L0 : List Dc := [⟨sPersons, uNum, 0, 6, 0⟩, ⟨sRent, uMoney, 0, 500, 0⟩]
set_option maxRecDepth 100000 in
set_option maxHeartbeats 4000000 in
theorem ldecls_any (w : World) : Calls Try.prog 30 #[] w fun e w' => ∃ b, e = .returned (.slice (some ⟨b, 0, none⟩) 2 2) ∧ SlR w' (some ⟨b, 0, none⟩) b 0 2 8 (L0.map dC) ∧ RowKit.Below w.heap.size w w' := by
 have KM := Lib.hid rMoney_any
 go_enter Try.func30, Try.ntmps30
 go_wp2_with fail
 refine (KM.out _).mono ?_
 rintro _ V ⟨rfl, hb⟩
 have hx := BoxL.new V [.string (bs sPersons), .bool false, .int .i64 0, .int .i64 0, .int .i64 0, .int .i64 0, .int .i64 6, .int .i64 0, .string (bs sRent), .bool false, .int .i64 1, .int .i64 0, .int .i64 0, .int .i64 0, .int .i64 500, .int .i64 0] 47
 have ha := (Below.refl V.heap.size V).alloc (Nat.le_refl _) (.cells #[.string (bs sPersons), .bool false, .int .i64 0, .int .i64 0, .int .i64 0, .int .i64 0, .int .i64 6, .int .i64 0, .string (bs sRent), .bool false, .int .i64 1, .int .i64 0, .int .i64 0, .int .i64 0, .int .i64 500, .int .i64 0] 47)
 have HS : Hid (SlR (V.alloc (.cells #[.string (bs sPersons), .bool false, .int .i64 0, .int .i64 0, .int .i64 0, .int .i64 0, .int .i64 6, .int .i64 0, .string (bs sRent), .bool false, .int .i64 1, .int .i64 0, .int .i64 0, .int .i64 0, .int .i64 500, .int .i64 0] 47)) (some ⟨V.heap.size, 0, none⟩) V.heap.size 0 2 8 (L0.map dC)) := by
  refine ⟨rfl, fun _ => rfl, fun i r hr => ?_, fun _ => by simp, by decide⟩
  match i, hr with
  | 0, hr =>
   cases hr
   refine ⟨rfl, fun j v hv => ?_⟩
   have hj := (List.getElem?_eq_some_iff.1 hv).1
   have hj : j < 8 := hj
   rw [show 0 + 0 * 8 + j = j by omega]
   refine (hx j v ?_).1
   rw [← hv]
   match j, hj with
   | 0, _ | 1, _ | 2, _ | 3, _ | 4, _ | 5, _ | 6, _ | 7, _ => rfl
  | 1, hr =>
   cases hr
   refine ⟨rfl, fun j v hv => ?_⟩
   have hj := (List.getElem?_eq_some_iff.1 hv).1
   have hj : j < 8 := hj
   rw [show 0 + 1 * 8 + j = 8 + j by omega]
   refine (hx (8 + j) v ?_).1
   rw [← hv]
   match j, hj with
   | 0, _ | 1, _ | 2, _ | 3, _ | 4, _ | 5, _ | 6, _ | 7, _ => rfl
  | i + 2, hr => simp [L0] at hr
 have HB := Lib.hid (hb.trans (ha.mono hb.size))
 clear hx ha hb KM
 go_wp2_with fail
 go_ret
 exact ⟨_, rfl, HS.out, HB.out⟩
end Go.Proofs.Ytoaonficdkgfiaa
namespace Go.Proofs.Ytoaonficdkgfiaa
open Go.RowKit Un

def nFact (s : List UInt8) (at0 : Int) : Nd := .mk 2 at0 s 0 0 uNum []
def nNum (n at0 : Int) : Nd := .mk 1 at0 [] n 1 uNum []
def nTwo (op at0 : Int) (a b : Nd) : Nd := .mk op at0 [] 0 0 uNum [a, b]
def nNil : Nd := .mk 0 0 [] 0 0 uNum []
def nTrue : Nd := .mk 17 0 [] 0 0 uNum []
def rFee : Ru := ⟨[102, 101, 101], 1, 1, [], 0, 10, 0, nTrue, nFact sRent 0, 0⟩
theorem hm1 : ofV vld L0 (nTwo 5 0 (nFact sRent 0) (nNum 2 7)) = .ok uMoney := by kernel_rfl
theorem hm2 : ofV vld L0 (nTwo 5 0 (nFact sRent 0) (nFact sRent 0)) = .ok ⟨false, 2, 0, 0⟩ := by kernel_rfl
theorem hm3 : ofV vld L0 (nTwo 11 0 (nFact sPersons 0) (nNum 3 9)) = .ok uFlag := by kernel_rfl
theorem hm4 : ofV vld L0 (nTwo 3 5 (nFact sRent 0) (nFact sPersons 7)) = .er 12 5 := by kernel_rfl
theorem hm5 : ofV vld L0 (nTwo 3 5 (nFact sRent 0) (nFact sPerson 7)) = .er 11 7 := by kernel_rfl
theorem hm6 : (rightD L0 && form vld (nFact sRent 0)) = true := by kernel_rfl
theorem hm7 : (rightD L0 && form vld nNil) = false := by kernel_rfl
theorem hm8 : checkV vld L0 [rFee, rFee] = [(0, 5)] := by kernel_rfl
theorem hm9 : checkV vld L0 [rFee] = [] := by kernel_rfl
end Go.Proofs.Ytoaonficdkgfiaa
