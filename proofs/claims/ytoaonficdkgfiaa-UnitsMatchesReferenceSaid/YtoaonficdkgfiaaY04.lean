/- Texts on units: UTree UExp UFct -/
import Derived.Test.YtoaonficdkgfiaaY03
import Derived.Test.YtoaonficdkgfiaaY01
namespace Go.Proofs.Ytoaonficdkgfiaa
open Go.RowKit Un

mutual
/-- Do all numbers of a node fit? -/
def nin : Nd → Prop
 | .mk _ _ _ n d _ ks => in64 n ∧ in64 d ∧ nins ks
def nins : List Nd → Prop
 | [] => True
 | k :: ks => nin k ∧ nins ks
end
theorem nins_get : ∀ (ks : List Nd) (i : Nat) (h : i < ks.length), nins ks → nin ks[i]
 | [], i, h, _ => absurd h (Nat.not_lt_zero _)
 | k :: _, 0, _, h => by simp only [nins] at h; exact h.1
 | _ :: ks, i + 1, hi, h => by
  simp only [nins] at h
  exact nins_get ks i (by simpa using hi) h.2
theorem trs_drop (dep : Int) (c : Nat) (ks : List Nd) (i : Nat) (h : i < ks.length) : trs vld dep c (ks.drop i) = if (tr vld dep c ks[i]).1 = false then (false, (tr vld dep c ks[i]).2) else trs vld dep (tr vld dep c ks[i]).2 (ks.drop (i + 1)) := by
 rw [List.drop_eq_getElem_cons h]
 rfl
set_option maxRecDepth 100000 in
set_option maxHeartbeats 12000000 in
theorem uisTree_any (N : Nat) : ∀ (t : Nd), size t ≤ N → nin t → ∀ (dep : Int) (c : Nat), 1 ≤ dep → dep ≤ 21 → c ≤ 200 → ∀ (A : Nat → Prop) (x : Kd) (cb : Nat) (w : World), NdM w A t x → ¬ A cb → w.cell? ⟨cb, 0, none⟩ = some (.int .i64 (c : Nat)) → w.frozen? ⟨cb, 0, none⟩ = false →
  Calls Try.prog 61 #[nV t x, .int .i64 dep, .pointer (some ⟨cb, 0, none⟩)] w fun e w' => e = .returned (.bool (tr vld dep c t).1) ∧ w'.cell? ⟨cb, 0, none⟩ = some (.int .i64 ((tr vld dep c t).2 : Nat)) ∧ w'.frozen? ⟨cb, 0, none⟩ = false ∧ Kept cb w w' := by
 induction N with
 | zero => intro t h; cases t; simp [size] at h
 | succ N ih =>
  intro t hN hin dep c hd1 hd2 hc A x cb w hx hA c0 f0
  obtain ⟨op, pl, nm, n0, d0, ⟨uf, um, ua, ud⟩, ks⟩ := t
  simp only [size] at hN
  simp only [NdM] at hx
  simp only [nin] at hin
  obtain ⟨bq, off, hp, hkl, hK⟩ := hx
  obtain ⟨xq, xc⟩ := x
  simp only at hp
  have hcb : cb < w.heap.size := World.block_lt_of_cell? _ _ c0
  have KM := Lib.hid (fun (i : Nat) (hi : i < ks.length) (ci : Nat) (h2 : dep ≤ 20) (h3 : ci ≤ 200) (x : Kd) (V : World) => ih ks[i] (by have := size_get ks i hi; omega) (nins_get ks i hi hin.2.2) (dep + 1) ci (by omega) (by omega) h3 A x cb V)
  clear ih
  have KN := Lib.hid (fun w => uisNode_any op pl nm n0 d0 ⟨uf, um, ua, ud⟩ xq ks.length xc hin.1 hin.2.1 hkl w)
  have HRB := Lib.hid (fun (ci : Nat) (i : Nat) (hi : i < ks.length) => (tr_eq (V := vld) (dep + 1) (by omega) ks[i] ci))
  obtain ⟨R, hR⟩ : ∃ R, R = tr vld dep c (.mk op pl nm n0 d0 ⟨uf, um, ua, ud⟩ ks) := ⟨_, rfl⟩
  rw [← hR]
  rw [tr, okN_eq] at hR
  show Calls _ _ #[.agg #[.int .i64 op, .int .i64 pl, .string (bs nm), .int .i64 n0, .int .i64 d0, .bool uf, .int .i64 um, .int .i64 ua, .int .i64 ud, .slice xq ks.length xc], .int .i64 dep, .pointer (some ⟨cb, 0, none⟩)] _ _
  generalize okN op nm n0 d0 ⟨uf, um, ua, ud⟩ ks.length = ok at *
  obtain ⟨c1, hc1⟩ : ∃ c1, c1 = c + 1 := ⟨_, rfl⟩
  rw [← hc1] at hR
  have e1 : IntKind.i64.wrap ((c : Int) + 1) = (c1 : Int) := by rw [IntWalk.i64_in _ (by omega)]; omega
  have HR := Lib.hid hR
  have HA := Lib.hid hA
  have H1 := Lib.hid hc1
  have hc2 : c1 ≤ 201 := by omega
  clear hR hin hA hc1
  simp only at KN
  generalize bs nm = s at *
  obtain ⟨W1, hW1⟩ : ∃ W1, W1 = (w.setCell ⟨cb, 0, none⟩ (.int .i64 (c1 : Nat))).alloc (.cells #[.int .i64 op, .int .i64 pl, .string s, .int .i64 n0, .int .i64 d0, .bool uf, .int .i64 um, .int .i64 ua, .int .i64 ud, .slice xq ks.length xc] 32) := ⟨_, rfl⟩
  have ha := Below.refl (w.setCell ⟨cb, 0, none⟩ (.int .i64 (c1 : Nat))).heap.size (w.setCell ⟨cb, 0, none⟩ (.int .i64 (c1 : Nat)))
  have ha := ha.alloc (Nat.le_refl _) (.cells #[.int .i64 op, .int .i64 pl, .string s, .int .i64 n0, .int .i64 d0, .bool uf, .int .i64 um, .int .i64 ua, .int .i64 ud, .slice xq ks.length xc] 32)
  have hcs : cb < (w.setCell ⟨cb, 0, none⟩ (.int .i64 (c1 : Nat))).heap.size := by simpa [World.setCell] using hcb
  have HB : Hid (Kept cb w W1) := by rw [hW1]; exact ((Kept.refl cb w).setCell _ _ _).bel ha
  have HC : Hid (W1.cell? ⟨cb, 0, none⟩ = some (.int .i64 (c1 : Nat)) ∧ W1.frozen? ⟨cb, 0, none⟩ = false) := by
   rw [hW1]
   exact ⟨(ha.cell (p := ⟨cb, 0, none⟩) hcs).trans (World.cell?_setCell_same _ _ _ c0), (ha.frozen (p := ⟨cb, 0, none⟩) hcs).trans (by rw [World.frozen?_setCell]; exact f0)⟩
  have HQ0 : Hid (W1.cell? ⟨w.heap.size, 9, none⟩ = some (.slice xq ks.length xc)) := by
   have h9 : ∀ V : World, (V.alloc (.cells #[.int .i64 op, .int .i64 pl, .string s, .int .i64 n0, .int .i64 d0, .bool uf, .int .i64 um, .int .i64 ua, .int .i64 ud, .slice xq ks.length xc] 32)).cell? ⟨V.heap.size, 9, none⟩ = some (.slice xq ks.length xc) := fun V => by simp
   have hs9 : (w.setCell ⟨cb, 0, none⟩ (.int .i64 (c1 : Nat))).heap.size = w.heap.size := by simp [World.setCell]
   have h10 := h9 (w.setCell ⟨cb, 0, none⟩ (.int .i64 (c1 : Nat)))
   rw [hs9] at h10
   rw [hW1]
   exact h10
  clear ha hcs
  have HK := Lib.hid hK
  have HP := Lib.hid hp
  clear hK hp
  by_cases h1 : 200 < c1
  ·have z1 : (200 : Int) < (c1 : Int) := by omega
   have HRF : Hid (R = (false, c1)) := by show _ = _; rw [HR.out, if_pos (.inl h1)]
   go_enter Try.func61, Try.ntmps61
   go_wp2_with fail
   go_ret
   rw [← hW1]
   exact ⟨ret_bool (by rw [HRF.out]), by rw [HRF.out]; exact HC.out.1, HC.out.2, HB.out⟩
  ·have z1 : ¬ (200 : Int) < (c1 : Int) := by omega
   by_cases h2 : 20 < dep
   ·have HRF : Hid (R = (false, c1)) := by show _ = _; rw [HR.out, if_pos (.inr (.inl h2))]
    go_enter Try.func61, Try.ntmps61
    go_wp2_with fail
    go_ret
    rw [← hW1]
    exact ⟨ret_bool (by rw [HRF.out]), by rw [HRF.out]; exact HC.out.1, HC.out.2, HB.out⟩
   ·go_enter Try.func61, Try.ntmps61
    go_wp2_with fail
    rw [← hW1]
    refine (KN.out _).mono ?_
    rintro _ v1 ⟨rfl, hb⟩
    have HB1 := Lib.hid (HB.out.bel hb)
    have hc1s : cb < W1.heap.size := World.block_lt_of_cell? _ _ HC.out.1
    have HC1 : Hid (v1.cell? ⟨cb, 0, none⟩ = some (.int .i64 (c1 : Nat)) ∧ v1.frozen? ⟨cb, 0, none⟩ = false) := ⟨(hb.cell (p := ⟨cb, 0, none⟩) hc1s).trans HC.out.1, (hb.frozen (p := ⟨cb, 0, none⟩) hc1s).trans HC.out.2⟩
    have hws : w.heap.size < W1.heap.size := by rw [hW1]; simp [World.setCell]
    have HQ9 : Hid (v1.cell? ⟨w.heap.size, 9, none⟩ = some (.slice xq ks.length xc)) := (hb.cell (p := ⟨w.heap.size, 9, none⟩) hws).trans HQ0.out
    have hvs := hb.size
    clear hb hW1
    cases ok with
    | false =>
     have HRF : Hid (R = (false, c1)) := by show _ = _; rw [HR.out, if_pos (.inr (.inr rfl))]
     go_wp2_with fail
     go_ret
     exact ⟨ret_bool (by rw [HRF.out]), by rw [HRF.out]; exact HC1.out.1, HC1.out.2, HB1.out⟩
    | true =>
     have HRF : Hid (R = trs vld (dep + 1) c1 ks) := by show _ = _; rw [HR.out, if_neg (by rintro (h | h | h) <;> first | omega | cases h)]
     clear HR
     have q9 := HQ9.out
     go_wp2_with fail
     clear q9
     go_loopg [30] ks.length (fun g v30 wr => ∃ (i ci : Nat), i ≤ ks.length ∧ ks.length - i ≤ g ∧ v30 = .int .i64 i ∧ ci ≤ 200 ∧ Hid (trs vld (dep + 1) c1 ks = trs vld (dep + 1) ci (ks.drop i)) ∧ Hid (wr.cell? ⟨cb, 0, none⟩ = some (.int .i64 (ci : Nat)) ∧ wr.frozen? ⟨cb, 0, none⟩ = false) ∧ Hid (Kept cb w wr))
     case atStart => exact ⟨0, c1, Nat.zero_le _, by omega, by simp, by omega, rfl, HC1, HB1⟩
     case round =>
      obtain ⟨i, ci, hi, hg, rfl, hci, HM, HW, HKp⟩ := hrel
      by_cases hlt : i < ks.length
      ·have hz : (i : Int) < (ks.length : Int) := by omega
       have hq := (HP.out (by omega)).1
       have hbq := (HP.out (by omega)).2.2
       have hAb := (HP.out (by omega)).2.1
       subst hq
       obtain ⟨⟨yq, yc⟩, hc, hn⟩ := KdM.get (KdM.keep HKp.out.size (fun j hj1 hj => HKp.out.block j hj (fun e => HA.out (e ▸ hj1))) (fun _ h _ => h) bq hAb hbq off ks HK.out) i hlt
       have hcr : cb < wr.heap.size := World.block_lt_of_cell? _ _ HW.out.1
       have KQ : Hid (∀ V, RowKit.Below wr.heap.size wr V → Calls Try.prog 61 #[nV ks[i] ⟨yq, yc⟩, .int .i64 (dep + 1), .pointer (some ⟨cb, 0, none⟩)] V fun e w' => e = .returned (.bool (tr vld (dep + 1) ci ks[i]).1) ∧ (w'.cell? ⟨cb, 0, none⟩ = some (.int .i64 ((tr vld (dep + 1) ci ks[i]).2 : Nat)) ∧ w'.frozen? ⟨cb, 0, none⟩ = false) ∧ Kept cb w w') := fun V hV =>
        (KM.out i hlt ci (by omega) hci _ V (NdM.bel hV hn) HA.out ((hV.cell (p := ⟨cb, 0, none⟩) hcr).trans HW.out.1) ((hV.frozen (p := ⟨cb, 0, none⟩) hcr).trans HW.out.2)).mono (fun _ _ ⟨a, b, c, d⟩ => ⟨a, ⟨b, c⟩, (HKp.out.bel hV).trans d⟩)
       have E3 := Lib.hid (HM.out.trans (trs_drop (dep + 1) ci ks i hlt))
       have E4 : Hid ((tr vld (dep + 1) ci ks[i]).1 = true → (tr vld (dep + 1) ci ks[i]).2 ≤ 200) := fun h => by
        have h1 := HRB.out ci i hlt
        have h2 := h1.1.1 h
        have h3 := h1.2 h
        omega
       clear hn hcr
       generalize ks[i] = k at *
       obtain ⟨op', pl', nm', n', d', ⟨uf', um', ua', ud'⟩, ks'⟩ := k
       generalize tr vld (dep + 1) ci (.mk op' pl' nm' n' d' ⟨uf', um', ua', ud'⟩ ks') = m at *
       obtain ⟨m1, m2⟩ := m
       simp only [nC] at hc
       simp only [nV, nC] at KQ
       have z0 := hc 0 _ rfl
       have z1 := hc 1 _ rfl
       have z2 := hc 2 _ rfl
       have z3 := hc 3 _ rfl
       have z4 := hc 4 _ rfl
       have z5 := hc 5 _ rfl
       have z6 := hc 6 _ rfl
       have z7 := hc 7 _ rfl
       have z8 := hc 8 _ rfl
       have z9 := hc 9 _ rfl
       rw [Nat.add_zero] at z0
       have e2 : IntKind.i64.wrap ((i : Int) + 1) = ((i + 1 : Nat) : Int) := by rw [IntWalk.i64_in _ (by omega)]; rfl
       have e3 : IntKind.i64.wrap (dep + 1) = dep + 1 := by rw [IntWalk.i64_in _ (by omega)]
       clear hc
       go_wp2_with fail
       clear z0 z1 z2 z3 z4 z5 z6 z7 z8 z9
       refine (KQ.out _ ((Below.refl _ _).alloc (Nat.le_refl _) _)).mono ?_
       rintro _ v ⟨rfl, hcc, hk⟩
       have HCC := Lib.hid hcc
       have HKK := Lib.hid hk
       clear hcc hk KQ
       cases m1 with
       | false =>
        have HRE : Hid (R = (false, m2)) := by show _ = _; rw [HRF.out, E3.out]; rfl
        go_wp2_with fail
        go_ret
        exact ⟨ret_bool (by rw [HRE.out]), by rw [HRE.out]; exact HCC.out.1, HCC.out.2, HKK.out⟩
       | true =>
        go_wp2_with fail
        all_goals
         go_roundg (ks.length - (i + 1))
         case measure => omega
         case rel => exact ⟨i + 1, m2, by omega, Nat.le_refl _, by simp, E4.out trivial, by rw [E3.out]; rfl, HCC, HKK⟩
      ·have hz : ¬ (i : Int) < (ks.length : Int) := by omega
       have hie : i = ks.length := by omega
       subst hie
       have HRE : Hid (R = (true, ci)) := by show _ = _; rw [HRF.out, HM.out, List.drop_length]; rfl
       go_wp2_with fail
       go_ret
       exact ⟨ret_bool (by rw [HRE.out]), by rw [HRE.out]; exact HW.out.1, HW.out.2, HKp.out⟩
end Go.Proofs.Ytoaonficdkgfiaa
namespace Go.Proofs.Ytoaonficdkgfiaa
open Go.RowKit Un

set_option maxRecDepth 100000 in
set_option maxHeartbeats 8000000 in
theorem uisExpr_any (t : Nd) (hn : nin t) (A : Nat → Prop) (x : Kd) (w : World) (hx : NdM w A t x) :
  Calls Try.prog 42 #[nV t x] w fun e w' => e = .returned (.bool (form vld t)) ∧ RowKit.Below w.heap.size w w' := by
 have KT : Hid (∀ V, RowKit.Below w.heap.size w V → ∀ cb, w.heap.size ≤ cb → V.cell? ⟨cb, 0, none⟩ = some (.int .i64 0) → V.frozen? ⟨cb, 0, none⟩ = false → Calls Try.prog 61 #[nV t x, .int .i64 1, .pointer (some ⟨cb, 0, none⟩)] V fun e w' => e = .returned (.bool (form vld t)) ∧ RowKit.Below w.heap.size w w') := fun V hV cb hcb c0 f0 =>
  (uisTree_any (size t) t (Nat.le_refl _) hn 1 0 (by omega) (by omega) (by omega) (fun j => A j ∧ j < w.heap.size) x cb V (NdM.keep hV.size (fun j _ hj => hV.block j hj) (fun j h hj => ⟨h, hj⟩) t x hx) (fun h => by have := h.2; omega) c0 f0).mono
   (fun _ _ ⟨a, _, _, d⟩ => ⟨by rw [a, tr_form], hV.trans (d.below hcb hV.size)⟩)
 clear hx hn
 obtain ⟨op, pl, nm, n0, d0, ⟨uf, um, ua, ud⟩, ks⟩ := t
 obtain ⟨xq, xc⟩ := x
 generalize form vld (.mk op pl nm n0 d0 ⟨uf, um, ua, ud⟩ ks) = R at *
 simp only [nV, nC] at KT ⊢
 have HB := Lib.hid (Below.refl w.heap.size w)
 go_enter Try.func42, Try.ntmps42
 go_wp2_with fail
 refine (KT.out _ (by repeat' (first | (with_reducible exact HB.out) | (with_reducible refine Below.setCell ?_ ?_ _) | (with_reducible refine Below.alloc ?_ ?_ _) | (with_reducible refine Below.drew ?_) | (with_reducible refine below_drewN ?_ _) | (with_reducible exact Below.refl _ _) | omega | (simp; done) | (simp; omega))) _ (by first | omega | (simp; done) | (simp; omega)) (by simp) (by simp)).mono ?_
 rintro _ v ⟨rfl, hb⟩
 have HBB := Lib.hid hb
 clear hb KT
 go_wp2_with fail
 go_ret
 exact ⟨rfl, HBB.out⟩
end Go.Proofs.Ytoaonficdkgfiaa
namespace Go.Proofs.Ytoaonficdkgfiaa
open Go.RowKit Un

/-- A declaration's eight cells. -/
def dC (d : Dc) : List Value := [.string (bs d.nm), .bool d.u.f, .int .i64 d.u.m, .int .i64 d.u.a, .int .i64 d.u.d, .int .i64 d.lo, .int .i64 d.hi, .int .i64 d.pl]
set_option maxRecDepth 100000 in
set_option maxHeartbeats 8000000 in
theorem uareFacts_any (L : List Dc) (p : Option Addr) (b off c : Nat) (w : World) (hS : SlR w p b off L.length 8 (L.map dC)) :
  Calls Try.prog 40 #[.slice p L.length c] w fun e w' => e = .returned (.bool (formD L)) ∧ RowKit.Below w.heap.size w w' := by
 have HB := Lib.hid (Below.refl w.heap.size w)
 have KN := Lib.hid uisName_any
 have KB := Lib.hid uisBasic_any
 have HS := Lib.hid hS
 have hmax := hS.max
 obtain ⟨R, hR⟩ : ∃ R, R = formD L := ⟨_, rfl⟩
 rw [← hR]
 have HR := Lib.hid hR
 clear hR hS
 by_cases hl : 12 < L.length
 ·have hz : (12 : Int) < (L.length : Int) := by omega
  have HRF : Hid (R = false) := by show _ = _; rw [HR.out, formD, decide_eq_false (by omega)]; rfl
  go_enter Try.func40, Try.ntmps40
  go_wp2_with fail
  go_ret
  exact ⟨ret_bool HRF.out.symm, HB.out⟩
 ·have hz : ¬ (12 : Int) < (L.length : Int) := by omega
  have HRF : Hid (R = L.all fun d => isName d.nm && basic d.u) := by show _ = _; rw [HR.out, formD, decide_eq_true (by omega), Bool.true_and]
  clear HR
  go_enter Try.func40, Try.ntmps40
  go_wp2_with fail
  clear hz
  go_loopg [10] L.length (fun g v10 wr => ∃ i : Nat, i ≤ L.length ∧ L.length - i ≤ g ∧ v10 = .int .i64 i ∧ Hid (R = (L.drop i).all fun d => isName d.nm && basic d.u) ∧ Hid (RowKit.Below w.heap.size w wr))
  case atStart => exact ⟨0, Nat.zero_le _, by omega, by simp, HRF, HB⟩
  case round =>
   obtain ⟨i, hi, hg, rfl, HM, HW⟩ := hrel
   have hws := HW.out.size
   by_cases hlt : i < L.length
   ·have hz : (i : Int) < (L.length : Int) := by omega
    have hq := HS.out.ptr (by omega)
    subst hq
    have hr := (HS.out.bel HW.out).at_ i (dC L[i]) (by rw [List.getElem?_map, List.getElem?_eq_getElem hlt]; rfl)
    have E3 : Hid (R = ((isName L[i].nm && basic L[i].u) && (L.drop (i + 1)).all fun d => isName d.nm && basic d.u)) := by
     show _ = _
     rw [HM.out, List.drop_eq_getElem_cons hlt]
     rfl
    clear HM
    generalize L[i] = d at *
    obtain ⟨nm, ⟨uf, um, ua, ud⟩, lo, hi', pl⟩ := d
    simp only [dC] at hr
    have hc := hr.2
    have z0 := hc 0 _ rfl
    have z1 := hc 1 _ rfl
    have z2 := hc 2 _ rfl
    have z3 := hc 3 _ rfl
    have z4 := hc 4 _ rfl
    have z5 := hc 5 _ rfl
    have z6 := hc 6 _ rfl
    have z7 := hc 7 _ rfl
    rw [Nat.add_zero] at z0
    have e2 : IntKind.i64.wrap ((i : Int) + 1) = ((i + 1 : Nat) : Int) := by rw [IntWalk.i64_in _ (by omega)]; rfl
    have K1 := Lib.hid (KN.out nm)
    have K2 := Lib.hid (KB.out ⟨uf, um, ua, ud⟩)
    simp only at E3 K2
    clear hc hr
    generalize bs nm = s at *
    generalize isName nm = a at *
    generalize basic ⟨uf, um, ua, ud⟩ = bb at *
    go_wp2_with fail
    clear z0 z1 z2 z3 z4 z5 z6 z7
    refine (K1.out _).mono ?_
    rintro _ v ⟨rfl, hw⟩
    cases a with
    | false =>
     subst hw
     go_wp2_with fail
     go_ret
     exact ⟨ret_bool (by rw [E3.out]; simp), (by repeat' (first | (with_reducible exact HW.out) | (with_reducible refine Below.setCell ?_ ?_ _) | (with_reducible refine Below.alloc ?_ ?_ _) | (with_reducible refine Below.drew ?_) | (with_reducible refine below_drewN ?_ _) | (with_reducible exact Below.refl _ _) | omega | (simp; done) | (simp; omega)))⟩
    | true =>
     subst hw
     go_wp2_with fail
     refine (K2.out _).mono ?_
     rintro _ v ⟨rfl, hb⟩
     have HW3 : Hid (RowKit.Below w.heap.size w v) := Below.trans (by repeat' (first | (with_reducible exact HW.out) | (with_reducible refine Below.setCell ?_ ?_ _) | (with_reducible refine Below.alloc ?_ ?_ _) | (with_reducible refine Below.drew ?_) | (with_reducible refine below_drewN ?_ _) | (with_reducible exact Below.refl _ _) | omega | (simp; done) | (simp; omega))) (hb.mono (by have := HW.out.size; simp; omega))
     clear hb
     cases bb with
     | false =>
      go_wp2_with fail
      go_ret
      exact ⟨ret_bool (by rw [E3.out]; simp), HW3.out⟩
     | true =>
      go_wp2_with fail
      all_goals
       go_roundg (L.length - (i + 1))
       case measure => omega
       case rel => exact ⟨i + 1, by omega, Nat.le_refl _, by simp, by show _ = _; rw [E3.out]; simp, HW3⟩
   ·have hz : ¬ (i : Int) < (L.length : Int) := by omega
    have hie : i = L.length := by omega
    subst hie
    go_wp2_with fail
    go_ret
    exact ⟨ret_bool (by rw [HM.out, List.drop_length]; rfl), HW.out⟩
end Go.Proofs.Ytoaonficdkgfiaa
