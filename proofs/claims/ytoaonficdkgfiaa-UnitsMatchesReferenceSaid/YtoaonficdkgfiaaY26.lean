/- Texts on units: RFew RCod UEql -/
import Derived.Test.YtoaonficdkgfiaaY25
import Derived.Test.YtoaonficdkgfiaaY22
import Derived.Test.YtoaonficdkgfiaaY16
namespace Go.Proofs.Ytoaonficdkgfiaa
open Go.RowKit Un MapKept

def fewR (r : Ru) : Bool := decide (0 ≤ left 30 400 r.whn) && decide (0 ≤ left 30 400 r.giv) && decide (r.nm.length ≤ 100) && decide (r.act.length ≤ 100)
def fewC (L : List Dc) (rs : List Ru) : Bool := decide (L.length ≤ 20) && decide (rs.length ≤ 30) && rs.all fewR
set_option maxRecDepth 100000 in
set_option maxHeartbeats 8000000 in
theorem rFew_any (L : List Dc) (rs : List Ru) (rows : List (List Value)) (pd pr : Option Addr) (bd od cd br orr cr : Nat) (A : Nat → Prop) (w : World) (hD : SlR w pd bd od L.length 8 (L.map dC)) (hR : RsM w A pr br orr rs rows) :
    Calls Try.prog 11 #[.agg #[.slice pd L.length cd, .slice pr rs.length cr]] w fun e w' => e = .returned (.bool (fewC L rs)) ∧ RowKit.Below w.heap.size w w' := by
  have hmd := hD.max
  have hmr := hR.sl.max
  have hln := hR.sl.ln
  have HS := Lib.hid hR.sl
  have KO : Hid (∀ (i : Nat) (hi : i < rs.length) (h' : i < rows.length), ∃ x y, RuC rs[i] x y rows[i] ∧ RuM w A rs[i] x y) := hR.ru
  obtain ⟨R, hRR⟩ : ∃ R, R = fewC L rs := ⟨_, rfl⟩
  rw [← hRR]
  have HR : Hid (R = (decide (L.length ≤ 20) && decide (rs.length ≤ 30) && rs.all fewR)) := hRR
  have X1 := Lib.hid (BoxL.new w [.slice pd L.length cd, .slice pr rs.length cr] 25)
  have HB := Lib.hid ((Below.refl w.heap.size w).alloc (Nat.le_refl _) (.cells #[.slice pd L.length cd, .slice pr rs.length cr] 25))
  clear hRR hD hR
  generalize hW1 : w.alloc (.cells #[.slice pd L.length cd, .slice pr rs.length cr] 25) = W1 at *
  obtain ⟨c0, -⟩ := X1.out 0 _ rfl
  obtain ⟨c1, -⟩ := X1.out 1 _ rfl
  have hsz : W1.heap.size = w.heap.size + 1 := by rw [← hW1]; simp
  have Q1 : Hid (W1.cell? ⟨w.heap.size, 1, none⟩ = some (.slice pr rs.length cr)) := c1
  by_cases hL : 20 < L.length
  · have hz : (20 : Int) < (L.length : Int) := by omega
    rw [decide_eq_false (by omega)] at HR
    go_enter Try.func11, Try.ntmps11
    go_wp2_with fail
    all_goals
      go_ret
      exact ⟨ret_bool (by rw [HR.out]; rfl), HB.out⟩
  have hz : ¬ (20 : Int) < (L.length : Int) := by omega
  rw [decide_eq_true (by omega)] at HR
  by_cases hL3 : 30 < rs.length
  · have hz3 : (30 : Int) < (rs.length : Int) := by omega
    rw [decide_eq_false (by omega)] at HR
    go_enter Try.func11, Try.ntmps11
    go_wp2_with fail
    all_goals
      go_ret
      exact ⟨ret_bool (by rw [HR.out]; rfl), HB.out⟩
  have hz3 : ¬ (30 : Int) < (rs.length : Int) := by omega
  rw [decide_eq_true (by omega)] at HR
  go_enter Try.func11, Try.ntmps11
  go_wp2_with fail
  clear hz hz3 c0 c1 hW1 X1
  go_loopg [3] rs.length (fun g v3 wr => ∃ i : Nat, i ≤ rs.length ∧ rs.length - i ≤ g ∧ v3 = .int .i64 i ∧ Hid (R = (rs.drop i).all fewR) ∧ Hid (RowKit.Below w.heap.size w wr) ∧ Hid (RowKit.Below W1.heap.size W1 wr))
  case atStart => exact ⟨0, Nat.zero_le _, by omega, by simp, by show _ = _; rw [HR.out]; simp, HB, Below.refl _ _⟩
  case round =>
    obtain ⟨i, hi, hg, rfl, HM, HW, HV⟩ := hrel
    have q1 : wr.cell? ⟨w.heap.size, 1, none⟩ = some (.slice pr rs.length cr) := (HV.out.cell (p := ⟨w.heap.size, 1, none⟩) (by show w.heap.size < W1.heap.size; omega)).trans Q1.out
    by_cases hlt : i < rs.length
    · have hz : (i : Int) < (rs.length : Int) := by omega
      have hq := HS.out.ptr (by omega)
      subst hq
      obtain ⟨⟨xq, xc⟩, ⟨yq, yc⟩, h1, h2⟩ := KO.out i hlt (by omega)
      have E3 : Hid (R = (fewR rs[i] && (rs.drop (i + 1)).all fewR)) := by
        show _ = _
        rw [HM.out, List.drop_eq_getElem_cons hlt]
        rfl
      have HA : Hid (∀ V, RowKit.Below w.heap.size w V → ∀ j v, rows[i][j]? = some v → V.cell? ⟨br, orr + i * 28 + j, none⟩ = some v) := fun V hV => ((HS.out.bel hV).at_ i rows[i] (List.getElem?_eq_getElem (by omega))).2
      have K1 : Hid (∀ V, RowKit.Below w.heap.size w V → Calls Try.prog 12 #[nV rs[i].whn ⟨xq, xc⟩] V fun e w' => e = .returned (.bool (decide (0 ≤ left 30 400 rs[i].whn))) ∧ RowKit.Below V.heap.size V w') := fun V hV => lFewNode_any _ A _ V (NdM.bel hV h2.1)
      have K2 : Hid (∀ V, RowKit.Below w.heap.size w V → Calls Try.prog 12 #[nV rs[i].giv ⟨yq, yc⟩] V fun e w' => e = .returned (.bool (decide (0 ≤ left 30 400 rs[i].giv))) ∧ RowKit.Below V.heap.size V w') := fun V hV => lFewNode_any _ A _ V (NdM.bel hV h2.2)
      have hs : Hid (∀ (j : Nat) (v : Value), (nC rs[i].whn ⟨xq, xc⟩)[j]? = some v → rows[i][7 + j]? = some v) := h1.wh
      have ht : Hid (∀ (j : Nat) (v : Value), (nC rs[i].giv ⟨yq, yc⟩)[j]? = some v → rows[i][17 + j]? = some v) := h1.gi
      have hn0 := Lib.hid h1.f0
      have hn3 := Lib.hid h1.f3
      have E4 : Hid (fewR rs[i] = (decide (0 ≤ left 30 400 rs[i].whn) && decide (0 ≤ left 30 400 rs[i].giv) && decide (rs[i].nm.length ≤ 100) && decide (rs[i].act.length ≤ 100))) := rfl
      have sz0 : (bs rs[i].nm).size = rs[i].nm.length := bs_size _
      have sz3 : (bs rs[i].act).size = rs[i].act.length := bs_size _
      clear h1 h2 HM
      generalize fewR rs[i] = fr at *
      generalize bs rs[i].nm = s0 at *
      generalize bs rs[i].act = s3 at *
      generalize rs[i].nm.length = n0 at *
      generalize rs[i].act.length = n3 at *
      generalize rs[i].whn = wt at *
      generalize rs[i].giv = gt at *
      generalize rows[i] = l at *
      generalize left 30 400 wt = m1 at *
      generalize left 30 400 gt = m2 at *
      obtain ⟨xo, xp, xn, xx, xd, ⟨xf, xm, xa, xy⟩, xk⟩ := wt
      obtain ⟨yo, yp, yn, yx, yd, ⟨yf, ym, ya, yy⟩, yk⟩ := gt
      have e2 : IntKind.i64.wrap ((i : Int) + 1) = ((i + 1 : Nat) : Int) := by rw [IntWalk.i64_in _ (by omega)]; rfl
      simp only [nV, nC] at K1 K2 hs ht
      have z0 := HA.out _ HW.out (7 + 0) _ (hs.out 0 _ rfl)
      rw [show orr + i * 28 + (7 + 0) = orr + i * 28 + 7 by omega] at z0
      have z1 := HA.out _ HW.out (7 + 1) _ (hs.out 1 _ rfl)
      rw [show orr + i * 28 + (7 + 1) = orr + i * 28 + 7 + 1 by omega] at z1
      have z2 := HA.out _ HW.out (7 + 2) _ (hs.out 2 _ rfl)
      rw [show orr + i * 28 + (7 + 2) = orr + i * 28 + 7 + 2 by omega] at z2
      have z3 := HA.out _ HW.out (7 + 3) _ (hs.out 3 _ rfl)
      rw [show orr + i * 28 + (7 + 3) = orr + i * 28 + 7 + 3 by omega] at z3
      have z4 := HA.out _ HW.out (7 + 4) _ (hs.out 4 _ rfl)
      rw [show orr + i * 28 + (7 + 4) = orr + i * 28 + 7 + 4 by omega] at z4
      have z5 := HA.out _ HW.out (7 + 5) _ (hs.out 5 _ rfl)
      rw [show orr + i * 28 + (7 + 5) = orr + i * 28 + 7 + 5 by omega] at z5
      have z6 := HA.out _ HW.out (7 + 6) _ (hs.out 6 _ rfl)
      rw [show orr + i * 28 + (7 + 6) = orr + i * 28 + 7 + 6 by omega] at z6
      have z7 := HA.out _ HW.out (7 + 7) _ (hs.out 7 _ rfl)
      rw [show orr + i * 28 + (7 + 7) = orr + i * 28 + 7 + 7 by omega] at z7
      have z8 := HA.out _ HW.out (7 + 8) _ (hs.out 8 _ rfl)
      rw [show orr + i * 28 + (7 + 8) = orr + i * 28 + 7 + 8 by omega] at z8
      have z9 := HA.out _ HW.out (7 + 9) _ (hs.out 9 _ rfl)
      rw [show orr + i * 28 + (7 + 9) = orr + i * 28 + 7 + 9 by omega] at z9
      go_wp2_with fail
      clear z0 z1 z2 z3 z4 z5 z6 z7 z8 z9 q1
      refine (K1.out _ HW.out).mono ?_
      rintro _ v1 ⟨rfl, hb⟩
      have HW1 : Hid (RowKit.Below w.heap.size w v1) := HW.out.trans (hb.mono HW.out.size)
      have HV1 : Hid (RowKit.Below W1.heap.size W1 v1) := HV.out.trans (hb.mono HV.out.size)
      clear hb K1
      have q1 : v1.cell? ⟨w.heap.size, 1, none⟩ = some (.slice _ rs.length cr) := (HV1.out.cell (p := ⟨w.heap.size, 1, none⟩) (by show w.heap.size < W1.heap.size; omega)).trans Q1.out
      have z0 := HA.out _ HW1.out (17 + 0) _ (ht.out 0 _ rfl)
      rw [show orr + i * 28 + (17 + 0) = orr + i * 28 + 17 by omega] at z0
      have z1 := HA.out _ HW1.out (17 + 1) _ (ht.out 1 _ rfl)
      rw [show orr + i * 28 + (17 + 1) = orr + i * 28 + 17 + 1 by omega] at z1
      have z2 := HA.out _ HW1.out (17 + 2) _ (ht.out 2 _ rfl)
      rw [show orr + i * 28 + (17 + 2) = orr + i * 28 + 17 + 2 by omega] at z2
      have z3 := HA.out _ HW1.out (17 + 3) _ (ht.out 3 _ rfl)
      rw [show orr + i * 28 + (17 + 3) = orr + i * 28 + 17 + 3 by omega] at z3
      have z4 := HA.out _ HW1.out (17 + 4) _ (ht.out 4 _ rfl)
      rw [show orr + i * 28 + (17 + 4) = orr + i * 28 + 17 + 4 by omega] at z4
      have z5 := HA.out _ HW1.out (17 + 5) _ (ht.out 5 _ rfl)
      rw [show orr + i * 28 + (17 + 5) = orr + i * 28 + 17 + 5 by omega] at z5
      have z6 := HA.out _ HW1.out (17 + 6) _ (ht.out 6 _ rfl)
      rw [show orr + i * 28 + (17 + 6) = orr + i * 28 + 17 + 6 by omega] at z6
      have z7 := HA.out _ HW1.out (17 + 7) _ (ht.out 7 _ rfl)
      rw [show orr + i * 28 + (17 + 7) = orr + i * 28 + 17 + 7 by omega] at z7
      have z8 := HA.out _ HW1.out (17 + 8) _ (ht.out 8 _ rfl)
      rw [show orr + i * 28 + (17 + 8) = orr + i * 28 + 17 + 8 by omega] at z8
      have z9 := HA.out _ HW1.out (17 + 9) _ (ht.out 9 _ rfl)
      rw [show orr + i * 28 + (17 + 9) = orr + i * 28 + 17 + 9 by omega] at z9
      go_wp2_with fail
      clear z0 z1 z2 z3 z4 z5 z6 z7 z8 z9 q1
      refine (K2.out _ HW1.out).mono ?_
      rintro _ v2 ⟨rfl, hb⟩
      have HW2 : Hid (RowKit.Below w.heap.size w v2) := HW1.out.trans (hb.mono HW1.out.size)
      have HV2 : Hid (RowKit.Below W1.heap.size W1 v2) := HV1.out.trans (hb.mono HV1.out.size)
      clear hb K2
      have q1 : v2.cell? ⟨w.heap.size, 1, none⟩ = some (.slice _ rs.length cr) := (HV2.out.cell (p := ⟨w.heap.size, 1, none⟩) (by show w.heap.size < W1.heap.size; omega)).trans Q1.out
      have y0 : v2.cell? ⟨br, orr + i * 28, none⟩ = some (.string s0) := HA.out _ HW2.out 0 _ hn0.out
      have y3 : v2.cell? ⟨br, orr + i * 28 + 3, none⟩ = some (.string s3) := HA.out _ HW2.out 3 _ hn3.out
      clear hs ht HA
      have E5 : Hid (R = ((decide (0 ≤ m1) && decide (0 ≤ m2) && decide (n0 ≤ 100) && decide (n3 ≤ 100)) && (rs.drop (i + 1)).all fewR)) := by show _ = _; rw [E3.out, E4.out]
      clear E3 E4
      generalize decide (0 ≤ m1) = d1 at *
      generalize decide (0 ≤ m2) = d2 at *
      go_wp2_with fail
      all_goals first
        | (go_ret
           exact ⟨ret_bool (by
             rw [E5.out]
             cases d1 <;> cases d2 <;> by_cases g0 : n0 ≤ 100 <;> by_cases g3 : n3 ≤ 100 <;> first | (simp [g0, g3]; done) | (exfalso; first | contradiction | omega | simp_all; done)), HW2.out⟩)
        | (go_roundg (rs.length - (i + 1))
           case measure => omega
           case rel =>
             refine ⟨i + 1, by omega, Nat.le_refl _, by simp, ?_, HW2, HV2⟩
             show _ = _
             rw [E5.out]
             cases d1 <;> cases d2 <;> by_cases g0 : n0 ≤ 100 <;> by_cases g3 : n3 ≤ 100 <;> first | (simp [g0, g3]; done) | (exfalso; first | contradiction | omega | simp_all; done))
    · have hz : ¬ (i : Int) < (rs.length : Int) := by omega
      have hie : i = rs.length := by omega
      subst hie
      go_wp2_with fail
      go_ret
      exact ⟨ret_bool (by rw [HM.out, List.drop_length]; rfl), HW.out⟩
end Go.Proofs.Ytoaonficdkgfiaa
namespace Go.Proofs.Ytoaonficdkgfiaa
open Go.RowKit Un MapKept

set_option maxRecDepth 100000 in
set_option maxHeartbeats 8000000 in
theorem rCodex_any (L : List Dc) (rs : List Ru) (rows : List (List Value)) (pd pr : Option Addr) (bd od cd br orr cr : Nat) (A : Nat → Prop) (w : World) (hD : SlR w pd bd od L.length 8 (L.map dC)) (hR : RsM w A pr br orr rs rows) :
  Calls Try.prog 26 #[.agg #[.slice pd L.length cd, .slice pr rs.length cr]] w fun e w' => e = .returned (.bool (formC vld L rs)) ∧ RowKit.Below w.heap.size w w' := by
 have hmd := hD.max
 have hmr := hR.sl.max
 have hln := hR.sl.ln
 have HS := Lib.hid hR.sl
 have KF := Lib.hid (fun V (hV : RowKit.Below w.heap.size w V) => rformed_any L pd bd od cd V (hD.bel hV))
 have KO : Hid (∀ (i : Nat) (hi : i < rs.length) (h' : i < rows.length), ∃ x y, RuC rs[i] x y rows[i] ∧ RuM w A rs[i] x y) := hR.ru
 have KN : Hid (∀ r ∈ rs, RuN r) := hR.nn
 obtain ⟨R, hRR⟩ : ∃ R, R = formC vld L rs := ⟨_, rfl⟩
 rw [← hRR]
 have HR : Hid (R = (formD L && decide (rs.length ≤ 100) && rs.all (formR vld))) := hRR
 have X1 := Lib.hid (BoxL.new w [.slice pd L.length cd, .slice pr rs.length cr] 25)
 have HB := Lib.hid ((Below.refl w.heap.size w).alloc (Nat.le_refl _) (.cells #[.slice pd L.length cd, .slice pr rs.length cr] 25))
 clear hRR hD hR
 generalize formD L = fd at *
 generalize L.length = m at *
 generalize hW1 : w.alloc (.cells #[.slice pd m cd, .slice pr rs.length cr] 25) = W1 at *
 obtain ⟨c0, -⟩ := X1.out 0 _ rfl
 have hsz : W1.heap.size = w.heap.size + 1 := by rw [← hW1]; simp
 go_enter Try.func26, Try.ntmps26
 go_wp2_with fail
 clear hW1 c0
 refine (KF.out _ HB.out).mono ?_
 rintro _ V1 ⟨rfl, hb⟩
 have BB := Lib.hid (HB.out.trans (hb.mono HB.out.size))
 replace X1 := Lib.hid (X1.out.bel (by simp) hb)
 have hs1 := hb.size
 clear hb KF HB
 cases fd with
 | false =>
  go_wp2_with fail
  go_ret
  exact ⟨ret_bool (by rw [HR.out]; rfl), BB.out⟩
 | true =>
  obtain ⟨c1, -⟩ := X1.out 1 _ rfl
  by_cases hL : 100 < rs.length
  ·have hz : (100 : Int) < (rs.length : Int) := by omega
   go_wp2_with fail
   go_ret
   exact ⟨ret_bool (by rw [HR.out, decide_eq_false (by omega)]; rfl), BB.out⟩
  have hz : ¬ (100 : Int) < (rs.length : Int) := by omega
  have HR1 : Hid (R = rs.all (formR vld)) := by show _ = _; rw [HR.out, decide_eq_true (by omega)]; simp
  go_wp2_with fail
  clear hz c1 HR
  go_loopg [4] rs.length (fun g v4 wr => ∃ i : Nat, i ≤ rs.length ∧ rs.length - i ≤ g ∧ v4 = .int .i64 i ∧ Hid (R = (rs.drop i).all (formR vld)) ∧ Hid (RowKit.Below w.heap.size w wr) ∧ Hid (BoxL wr w.heap.size [.slice pd m cd, .slice pr rs.length cr]))
  case atStart => exact ⟨0, Nat.zero_le _, by omega, by simp, by show _ = _; rw [HR1.out]; simp, BB, X1⟩
  clear BB X1
  case round =>
   obtain ⟨i, hi, hg, rfl, HM, BB, X1⟩ := hrel
   obtain ⟨q1, -⟩ := X1.out 1 _ rfl
   by_cases hlt : i < rs.length
   ·have hz : (i : Int) < (rs.length : Int) := by omega
    have hq := HS.out.ptr (by omega)
    subst hq
    obtain ⟨⟨xq, xc⟩, ⟨yq, yc⟩, h1, h2⟩ := KO.out i hlt (by omega)
    have hrn := KN.out rs[i] (List.getElem_mem _)
    have E3 : Hid (R = (formR vld rs[i] && (rs.drop (i + 1)).all (formR vld))) := by
     show _ = _
     rw [HM.out, List.drop_eq_getElem_cons hlt]
     rfl
    have HA : Hid (∀ V, RowKit.Below w.heap.size w V → ∀ j v, rows[i][j]? = some v → V.cell? ⟨br, orr + i * 28 + j, none⟩ = some v) := fun V hV => ((HS.out.bel hV).at_ i rows[i] (List.getElem?_eq_getElem (by omega))).2
    have K1 := Lib.hid (fun V (hV : RowKit.Below w.heap.size w V) => rForm_any rs[i].whn hrn.1 A ⟨xq, xc⟩ V (NdM.bel hV h2.1))
    have K2 := Lib.hid (fun V (hV : RowKit.Below w.heap.size w V) => rForm_any rs[i].giv hrn.2 A ⟨yq, yc⟩ V (NdM.bel hV h2.2))
    have N1 := Lib.hid (rName_any rs[i].nm)
    have N2 := Lib.hid (rName_any rs[i].act)
    have hs := Lib.hid h1.wh
    have ht := Lib.hid h1.gi
    have hl := h1.len
    have hn0 := Lib.hid h1.f0
    have hn2 := Lib.hid h1.f2
    have hn3 := Lib.hid h1.f3
    have E4 : Hid (formR vld rs[i] = (decide (1 ≤ rs[i].kind) && decide (rs[i].kind ≤ 7) && isName rs[i].nm && (rs[i].act.isEmpty || isName rs[i].act) && form vld rs[i].whn && form vld rs[i].giv)) := rfl
    have e3 := nm_test rs[i].act
    have hone : ∀ u ∈ rows[i], u.oneCell' = true := h1.one
    clear h1 h2 HM hrn
    generalize formR vld rs[i] = fr at *
    generalize isName rs[i].nm = a1 at *
    generalize isName rs[i].act = a2 at *
    generalize rs[i].act.isEmpty = em at *
    generalize form vld rs[i].whn = fw at *
    generalize form vld rs[i].giv = fg at *
    generalize bs rs[i].nm = s0 at *
    generalize bs rs[i].act = s3 at *
    generalize rs[i].kind = kd at *
    generalize rs[i].whn = wt at *
    generalize rs[i].giv = gt at *
    generalize rows[i] = l at *
    have hpl : 0 < l.length := by omega
    have e2 : IntKind.i64.wrap ((i : Int) + 1) = ((i + 1 : Nat) : Int) := by rw [IntWalk.i64_in _ (by omega)]; rfl
    obtain ⟨b5, hb5⟩ : ∃ b, b = wr.heap.size := ⟨_, rfl⟩
    go_wp2_with (first | ((with_reducible show wpList _ _ _ ({ dst := some 32, op := _, type := _, pos := _, after := _, guard := _ } :: _) _ _); refine wl_loadP rfl rfl rfl (load_rule _ _ _ l hl (HA.out _ BB.out)) ?_; simp only [Act.put, zA, zB, zC]) | ((with_reducible show wpList _ _ _ ({ dst := some 5, op := _, type := _, pos := _, after := _, guard := _ } :: _) _ _); refine wl_rbox (L := l) rfl rfl rfl rfl hl hone rfl rfl ?_; intro U1 hb hs5 hx; replace BB := Lib.hid (BB.out.trans (hb.mono BB.out.size)); replace X1 := Lib.hid (X1.out.bel (by simp) hb); have X5 := Lib.hid hx; clear hb hx hs5 q1; simp only [Act.put, zA, zB, zC]; rw [← hb5] at X5 ⊢; clear hb5; obtain ⟨p0, -⟩ := X5.out 0 _ hn0.out))
    refine (N1.out _).mono ?_
    rintro _ U2 ⟨rfl, hb⟩
    replace BB := Lib.hid (BB.out.trans (hb.mono BB.out.size))
    replace X1 := Lib.hid (X1.out.bel (by simp) hb)
    replace X5 := Lib.hid (X5.out.bel hpl hb)
    clear hb N1 p0
    obtain ⟨p3, -⟩ := X5.out 3 _ hn3.out
    go_wp2_with fail
    refine (N2.out _).mono ?_
    rintro _ U3 ⟨rfl, hb⟩
    replace BB := Lib.hid (BB.out.trans (hb.mono BB.out.size))
    replace X1 := Lib.hid (X1.out.bel (by simp) hb)
    replace X5 := Lib.hid (X5.out.bel hpl hb)
    clear hb N2 p3
    go_wp2_with ((with_reducible show wpList _ _ _ ({ dst := some 40, op := _, type := _, pos := _, after := _, guard := _ } :: _) _ _); refine wl_loadP rfl rfl rfl (load_rowAt 32 10 (by kernel_rfl) (by kernel_rfl) _ _ 7 (nC wt ⟨xq, xc⟩) (nC_len _ _) (fun j v hv => (X5.out (7 + j) v (hs.out j v hv)).1)) ?_; simp only [Act.put, zA, zB, zC])
    refine (K1.out _ BB.out).mono ?_
    rintro _ U4 ⟨rfl, hb⟩
    replace BB := Lib.hid (BB.out.trans (hb.mono BB.out.size))
    replace X1 := Lib.hid (X1.out.bel (by simp) hb)
    replace X5 := Lib.hid (X5.out.bel hpl hb)
    clear hb K1
    go_wp2_with ((with_reducible show wpList _ _ _ ({ dst := some 43, op := _, type := _, pos := _, after := _, guard := _ } :: _) _ _); refine wl_loadP rfl rfl rfl (load_rowAt 32 10 (by kernel_rfl) (by kernel_rfl) _ _ 17 (nC gt ⟨yq, yc⟩) (nC_len _ _) (fun j v hv => (X5.out (17 + j) v (ht.out j v hv)).1)) ?_; simp only [Act.put, zA, zB, zC])
    refine (K2.out _ BB.out).mono ?_
    rintro _ U5 ⟨rfl, hb⟩
    replace BB := Lib.hid (BB.out.trans (hb.mono BB.out.size))
    replace X1 := Lib.hid (X1.out.bel (by simp) hb)
    replace X5 := Lib.hid (X5.out.bel hpl hb)
    clear hb K2
    obtain ⟨p3, -⟩ := X5.out 3 _ hn3.out
    obtain ⟨p2, -⟩ := X5.out 2 _ hn2.out
    have E5 : Hid (R = ((decide (1 ≤ kd) && decide (kd ≤ 7) && a1 && (em || a2) && fw && fg) && (rs.drop (i + 1)).all (formR vld))) := by show _ = _; rw [E3.out, E4.out]
    clear E3 E4 hs ht HA hn0 hn2 hn3 hone
    by_cases k1 : kd < 1
    ·have E6 : Hid (R = false) := by show _ = _; rw [E5.out, decide_eq_false (by omega)]; rfl
     cases a1 <;> cases a2 <;> cases em <;> (go_wp2_with fail; go_ret; exact ⟨ret_bool E6.out.symm, BB.out⟩)
    by_cases k7 : 7 < kd
    ·have E6 : Hid (R = false) := by show _ = _; rw [E5.out, decide_eq_false (p := kd ≤ 7) (by omega)]; simp
     cases a1 <;> cases a2 <;> cases em <;> (go_wp2_with fail; go_ret; exact ⟨ret_bool E6.out.symm, BB.out⟩)
    rw [decide_eq_true (show 1 ≤ kd by omega), decide_eq_true (show kd ≤ 7 by omega)] at E5
    cases a1 with
    | false =>
     have E6 : Hid (R = false) := by show _ = _; rw [E5.out]; rfl
     go_wp2_with fail
     go_ret
     exact ⟨ret_bool E6.out.symm, BB.out⟩
    | true =>
     cases fw with
     | false =>
      have E6 : Hid (R = false) := by show _ = _; rw [E5.out]; simp
      cases a2 <;> cases em <;> (go_wp2_with fail; go_ret; exact ⟨ret_bool E6.out.symm, BB.out⟩)
     | true =>
      cases fg with
      | false =>
       have E6 : Hid (R = false) := by show _ = _; rw [E5.out]; simp
       cases a2 <;> cases em <;> (go_wp2_with fail; go_ret; exact ⟨ret_bool E6.out.symm, BB.out⟩)
      | true =>
       cases a2 <;> cases em
       ·have E6 : Hid (R = false) := by show _ = _; rw [E5.out]; rfl
        go_wp2_with fail
        go_ret
        exact ⟨ret_bool E6.out.symm, BB.out⟩
       all_goals
        have E6 : Hid (R = (rs.drop (i + 1)).all (formR vld)) := by show _ = _; rw [E5.out]; simp
        go_wp2_with fail
        all_goals
         go_roundg (rs.length - (i + 1))
         case measure => omega
         case rel => exact ⟨i + 1, by omega, Nat.le_refl _, by simp, E6, BB, X1⟩
   ·have hz : ¬ (i : Int) < (rs.length : Int) := by omega
    have hie : i = rs.length := by omega
    subst hie
    go_wp2_with fail
    go_ret
    exact ⟨ret_bool (by rw [HM.out, List.drop_length]; rfl), BB.out⟩
end Go.Proofs.Ytoaonficdkgfiaa
namespace Go.Proofs.Ytoaonficdkgfiaa
open Go.RowKit Un MapKept

section
variable {ρ : Operand → Value} {o : Oper} {x y : Operand} {u v : U}
set_option maxRecDepth 100000 in
set_option maxHeartbeats 2000000 in
theorem ex_eqU (ho : o.op = .binOp .eql 29 x y 29) (hx : ρ x = .agg (uC u).toArray) (hy : ρ y = .agg (uC v).toArray) (w : World) : (execOp ρ o).run Try.prog w = .ok (.value (.bool (decide (u = v)))) w := by
 obtain ⟨uf, um, ua, ud⟩ := u
 obtain ⟨vf, vm, va, vd⟩ := v
 have e : decide ((⟨uf, um, ua, ud⟩ : U) = ⟨vf, vm, va, vd⟩) = ((uf == vf) && (decide (um = vm) && (decide (ua = va) && decide (ud = vd)))) := by
  rw [Bool.eq_iff_iff]; simp
 rw [e]
 unfold execOp
 simp only [ho, hx, hy, uC]
 go_simp
 cases uf <;> cases vf <;> by_cases h1 : um = vm <;> by_cases h2 : ua = va <;> by_cases h3 : ud = vd <;> simp [h1, h2, h3]
set_option maxRecDepth 100000 in
set_option maxHeartbeats 2000000 in
theorem ex_neU (ho : o.op = .binOp .neq 29 x y 29) (hx : ρ x = .agg (uC u).toArray) (hy : ρ y = .agg (uC v).toArray) (w : World) : (execOp ρ o).run Try.prog w = .ok (.value (.bool (!decide (u = v)))) w := by
 obtain ⟨uf, um, ua, ud⟩ := u
 obtain ⟨vf, vm, va, vd⟩ := v
 have e : decide ((⟨uf, um, ua, ud⟩ : U) = ⟨vf, vm, va, vd⟩) = ((uf == vf) && (decide (um = vm) && (decide (ua = va) && decide (ud = vd)))) := by
  rw [Bool.eq_iff_iff]; simp
 rw [e]
 unfold execOp
 simp only [ho, hx, hy, uC]
 go_simp
 cases uf <;> cases vf <;> by_cases h1 : um = vm <;> by_cases h2 : ua = va <;> by_cases h3 : ud = vd <;> simp [h1, h2, h3]
end
section
variable {P : Program} {ops : Array Oper} {rest : List Oper} {o : Oper} {a : Act} {w w' : World} {Q : Exit → Act → World → Prop} {v : Value}
/-- An operation that only reads. -/
theorem wl_ex (hw : Region.wanted o (yielded ops a.tmps) = true) (hr : (execOp a.eval o).run P w = .ok (.value v) w') (h : wpList P ops Q rest (a.put o.dst v) w') : wpList P ops Q (o :: rest) a w :=
 wpList_step fun K hK => by
  rw [if_pos hw]
  unfold Oper.wp
  rw [hr]
  exact hK _ _ h
end
end Go.Proofs.Ytoaonficdkgfiaa
