/-
  The walk of the law on numbers of days.
-/
import Derived.Test.YtomcngnfdflkkaaSLaw
namespace Go.Proofs.Ytomcngnfdflkkaa
open Go.RowKit Spn Go.Sort

/-- The numbers of days of five sets. -/
def tt (a b U M V : List (Int × Int)) (j : Nat) : Int := if j = 0 then tot a else if j = 1 then tot b else if j = 2 then tot U else if j = 3 then tot M else tot V
/-- Five numbers, the first k of which are set. -/
def N5 (w : World) (D k : Nat) (T : Nat → Int) : Prop := ∀ j, j < 5 → w.cell? ⟨D, j, none⟩ = some (.int .i64 (if j < k then T j else 0)) ∧ w.frozen? ⟨D, j, none⟩ = false
theorem N5.new (w : World) (T : Nat → Int) (ty : TypeId) : N5 (w.alloc (.cells #[.int .i64 0, .int .i64 0, .int .i64 0, .int .i64 0, .int .i64 0] ty)) w.heap.size 0 T := fun j hj => by
  rw [World.cell?_alloc_new, World.frozen?_alloc_new, if_neg (by omega)]
  rcases (show j = 0 ∨ j = 1 ∨ j = 2 ∨ j = 3 ∨ j = 4 by omega) with rfl | rfl | rfl | rfl | rfl <;> exact ⟨rfl, rfl⟩
theorem N5.below {w w1 : World} {D k B : Nat} {T : Nat → Int} (h : N5 w D k T) (hB : RowKit.Below B w w1) (hb : D < B) : N5 w1 D k T := fun j hj =>
  ⟨(hB.cell (p := ⟨D, j, none⟩) hb).trans (h j hj).1, (hB.frozen (p := ⟨D, j, none⟩) hb).trans (h j hj).2⟩
theorem N5.set {w : World} {D k : Nat} {T : Nat → Int} (h : N5 w D k T) (hk : k < 5) : N5 (w.setCell ⟨D, k, none⟩ (.int .i64 (T k))) D (k + 1) T := fun j hj => by
  refine ⟨?_, by rw [World.frozen?_setCell]; exact (h j hj).2⟩
  by_cases e : j = k
  · subst e; rw [World.cell?_setCell_same _ _ _ (h j hj).1, if_pos (by omega)]
  · rw [World.cell?_setCell_other _ _ _ _ (fun x => by injection x with _ x _; exact e x.symm), (h j hj).1]
    by_cases l : j < k
    · rw [if_pos l, if_pos (by omega)]
    · rw [if_neg l, if_neg (by omega)]
/-- Five values in a block. -/
def SC (w : World) (B : Nat) (v0 v1 v2 v3 v4 : Value) : Prop := w.cell? ⟨B, 0, none⟩ = some v0 ∧ w.cell? ⟨B, 1, none⟩ = some v1 ∧ w.cell? ⟨B, 2, none⟩ = some v2 ∧ w.cell? ⟨B, 3, none⟩ = some v3 ∧ w.cell? ⟨B, 4, none⟩ = some v4
theorem SC.new (w : World) (n : Nat) (hn : n = w.heap.size) (v0 v1 v2 v3 v4 : Value) (ty : TypeId) : SC (w.alloc (.cells #[v0, v1, v2, v3, v4] ty)) n v0 v1 v2 v3 v4 := by
  subst hn; refine ⟨?_, ?_, ?_, ?_, ?_⟩ <;> rw [World.cell?_alloc_new] <;> rfl
theorem SC.below {w w1 : World} {B C : Nat} {v0 v1 v2 v3 v4 : Value} (h : SC w B v0 v1 v2 v3 v4) (hB : RowKit.Below C w w1) (hb : B < C) : SC w1 B v0 v1 v2 v3 v4 :=
  ⟨(hB.cell (p := ⟨B, 0, none⟩) hb).trans h.1, (hB.cell (p := ⟨B, 1, none⟩) hb).trans h.2.1, (hB.cell (p := ⟨B, 2, none⟩) hb).trans h.2.2.1, (hB.cell (p := ⟨B, 3, none⟩) hb).trans h.2.2.2.1, (hB.cell (p := ⟨B, 4, none⟩) hb).trans h.2.2.2.2⟩
theorem SC.set {w : World} {B D : Nat} {v0 v1 v2 v3 v4 : Value} (h : SC w B v0 v1 v2 v3 v4) (hb : B ≠ D) (k : Nat) (u : Value) : SC (w.setCell ⟨D, k, none⟩ u) B v0 v1 v2 v3 v4 := by
  have ne : ∀ j, (⟨D, k, none⟩ : Addr) ≠ ⟨B, j, none⟩ := fun j e => by injection e with e1 _ _; exact hb e1.symm
  unfold SC
  rw [World.cell?_setCell_other _ _ _ _ (ne _), World.cell?_setCell_other _ _ _ _ (ne _), World.cell?_setCell_other _ _ _ _ (ne _), World.cell?_setCell_other _ _ _ _ (ne _), World.cell?_setCell_other _ _ _ _ (ne _)]
  exact h
theorem vl_in {l : List (Int × Int)} (h : Vl l) : ∀ s, s ∈ l → 0 ≤ s.1 ∧ s.2 ≤ ((36525 : Nat) : Int) := fun s hs => by have := (st_iff s).1 (h.2.1 s hs); omega
theorem tot_is {l : List (Int × Int)} (h : Vl l) : tot l = nd (cov l) 36525 := tot_nd 36525 h.nf (vl_in h)
theorem nd_bound {l : List (Int × Int)} (h : Vl l) : 0 ≤ tot l ∧ tot l ≤ 36525 := by rw [tot_is h]; have := nd_le (cov l) 36525; omega
theorem counts_two {a b U M : List (Int × Int)} (ha : Vl a) (hb : Vl b) (hU : Good kU a b U) (hM : Good kM a b M) : tot U + tot M = tot a + tot b := by
  rw [tot_is ha, tot_is hb, tot_is hU.vl, tot_is hM.vl, nd_congr hU.cov, nd_congr hM.cov]
  exact nd_two _ _ _
theorem counts_part {a b M V : List (Int × Int)} (ha : Vl a) (_hb : Vl b) (hM : Good kM a b M) (hV : Good kW a b V) : tot V + tot M = tot a := by
  rw [tot_is ha, tot_is hV.vl, tot_is hM.vl, nd_congr hV.cov, nd_congr hM.cov]
  exact nd_part _ _ _

set_option maxRecDepth 100000 in
set_option maxHeartbeats 4000000 in
theorem counts_law (a : List (Int × Int)) (p : Option Addr) (bl off cap len : Nat) (b : List (Int × Int)) (p' : Option Addr) (bl' off' cap' len' : Nat) (w : World) (hS : Sl w p bl off len a) (hS' : Sl w p' bl' off' len' b) :
    Calls Try.prog 7 #[.slice p len cap, .slice p' len' cap'] w fun e w' => e = .returned (.bool true) ∧ RowKit.Below w.heap.size w w' := by
  have HL := Lib.hid hS.1
  have HL' := Lib.hid hS'.1
  have hm := hS.2.2.2.2.1
  have hm' := hS'.2.2.2.2.1
  cases hva : vl a with
  | false =>
    have KV := Lib.hid (fun w' (h : RowKit.Below w.heap.size w w') => valid_b a p bl off cap len false hva w' (hS.below h))
    clear hS hS' hva
    have HB0 : Hid (RowKit.Below w.heap.size w w) := Below.refl _ _
    go_enter Try.func7, Try.ntmps7
    go_wp2_with fail
    refine (head_any _).mono ?_
    rintro _ w1 ⟨rfl, hb⟩
    have HB1 := Lib.hid (HB0.out.trans (hb.mono HB0.out.size))
    clear hb HB0
    go_wp2_with fail
    refine (KV.out _ HB1.out).mono ?_
    rintro _ w2 ⟨rfl, hb⟩
    have HB2 := Lib.hid (HB1.out.trans (hb.mono HB1.out.size))
    clear hb HB1
    go_wp2
    go_ret
    exact ⟨rfl, HB2.out⟩
  | true =>
    have KV := Lib.hid (fun w' (h : RowKit.Below w.heap.size w w') => valid_b a p bl off cap len true hva w' (hS.below h))
    have HVA := Lib.hid (vl_iff.1 hva)
    cases hvb : vl b with
    | false =>
      have KV' := Lib.hid (fun w' (h : RowKit.Below w.heap.size w w') => valid_b b p' bl' off' cap' len' false hvb w' (hS'.below h))
      clear hS hS' hva hvb
      have HB0 : Hid (RowKit.Below w.heap.size w w) := Below.refl _ _
      go_enter Try.func7, Try.ntmps7
      go_wp2_with fail
      refine (head_any _).mono ?_
      rintro _ w1 ⟨rfl, hb⟩
      have HB1 := Lib.hid (HB0.out.trans (hb.mono HB0.out.size))
      clear hb HB0
      go_wp2_with fail
      refine (KV.out _ HB1.out).mono ?_
      rintro _ w2 ⟨rfl, hb⟩
      have HB2 := Lib.hid (HB1.out.trans (hb.mono HB1.out.size))
      clear hb HB1
      go_wp2_with fail
      refine (KV'.out _ HB2.out).mono ?_
      rintro _ w3 ⟨rfl, hb⟩
      have HB3 := Lib.hid (HB2.out.trans (hb.mono HB2.out.size))
      clear hb HB2
      go_wp2
      go_ret
      exact ⟨rfl, HB3.out⟩
    | true =>
      have KV' := Lib.hid (fun w' (h : RowKit.Below w.heap.size w w') => valid_b b p' bl' off' cap' len' true hvb w' (hS'.below h))
      have HVB := Lib.hid (vl_iff.1 hvb)
      have HRA := Lib.hid (hS.rd (cap := cap))
      have HRB := Lib.hid (hS'.rd (cap := cap'))
      clear hS hS' hva hvb
      by_cases hc : len ≤ 400 ∧ len' ≤ 400
      · have z1 : ¬ (400 : Int) < (len : Int) := by omega
        have z2 : ¬ (400 : Int) < (len' : Int) := by omega
        have z1' : decide ((400 : Int) < (len : Int)) = false := decide_eq_false z1
        have z2' : decide ((400 : Int) < (len' : Int)) = false := decide_eq_false z2
        have hsum : a.length + b.length ≤ 1000 := by have := HL.out; have := HL'.out; omega
        obtain ⟨U, gU⟩ := good opU HVA.out HVB.out hsum
        obtain ⟨M, gM⟩ := good opM HVA.out HVB.out hsum
        obtain ⟨V, gV⟩ := good opW HVA.out HVB.out hsum
        have GU := Lib.hid gU
        have GM := Lib.hid gM
        have GV := Lib.hid gV
        clear gU gM gV hsum hc
        have HB0 : Hid (RowKit.Below w.heap.size w w) := Below.refl _ _
        go_enter Try.func7, Try.ntmps7
        go_wp2_with fail
        refine (head_any _).mono ?_
        rintro _ w1 ⟨rfl, hb⟩
        have HB1 := Lib.hid (HB0.out.trans (hb.mono HB0.out.size))
        clear hb HB0
        go_wp2_with fail
        refine (KV.out _ HB1.out).mono ?_
        rintro _ w2 ⟨rfl, hb⟩
        have HB2 := Lib.hid (HB1.out.trans (hb.mono HB1.out.size))
        clear hb HB1
        go_wp2_with fail
        refine (KV'.out _ HB2.out).mono ?_
        rintro _ w3 ⟨rfl, hb⟩
        have HB3 := Lib.hid (HB2.out.trans (hb.mono HB2.out.size))
        clear hb HB2
        go_wp2_with fail
        refine (doneU GU.out _ _ _ (HRA.out.below HB3.out) (HRB.out.below HB3.out)).mono ?_
        rintro _ w4 ⟨_, rfl, ⟨q4, g4, o4, c4, rfl, hs⟩, hb⟩
        have HB4 := Lib.hid (HB3.out.trans (hb.mono HB3.out.size))
        clear hb HB3
        have R1 := Lib.hid (hs.rd (cap := c4))
        clear hs
        go_wp2_with fail
        refine (doneM GM.out _ _ _ (HRA.out.below HB4.out) (HRB.out.below HB4.out)).mono ?_
        rintro _ w5 ⟨_, rfl, ⟨q5, g5, o5, c5, rfl, hs⟩, hb⟩
        have HB5 := Lib.hid (HB4.out.trans (hb.mono HB4.out.size))
        have R1' := Lib.hid (R1.out.below hb)
        clear R1
        have R1 := R1'
        clear R1'
        clear hb HB4
        have R2 := Lib.hid (hs.rd (cap := c5))
        clear hs
        go_wp2_with fail
        refine (doneW GV.out _ _ _ (HRA.out.below HB5.out) (HRB.out.below HB5.out)).mono ?_
        rintro _ w6 ⟨_, rfl, ⟨q6, g6, o6, c6, rfl, hs⟩, hb⟩
        have HB6 := Lib.hid (HB5.out.trans (hb.mono HB5.out.size))
        have R1' := Lib.hid (R1.out.below hb)
        clear R1
        have R1 := R1'
        clear R1'
        have R2' := Lib.hid (R2.out.below hb)
        clear R2
        have R2 := R2'
        clear R2'
        clear hb HB5
        have R3 := Lib.hid (hs.rd (cap := c6))
        clear hs
        go_wp2_with fail
        have hb0 := ((Below.refl w6.heap.size w6).alloc (Nat.le_refl _) (.cells #[.int .i64 0, .int .i64 0, .int .i64 0, .int .i64 0, .int .i64 0] 42)).alloc (by simp) (.cells #[.slice p len cap, .slice p' len' cap', .slice q4 U.length c4, .slice q5 M.length c5, .slice q6 V.length c6] 22)
        have hn0 := (N5.new w6 (tt a b U M V) 42).below ((Below.refl _ _).alloc (Nat.le_refl _) (.cells #[.slice p len cap, .slice p' len' cap', .slice q4 U.length c4, .slice q5 M.length c5, .slice q6 V.length c6] 22)) (by simp)
        have hs0 := SC.new (w6.alloc (.cells #[.int .i64 0, .int .i64 0, .int .i64 0, .int .i64 0, .int .i64 0] 42)) (w6.heap.size + 1) (by simp) (.slice p len cap) (.slice p' len' cap') (.slice q4 U.length c4) (.slice q5 M.length c5) (.slice q6 V.length c6) 22
        have hz0 : w6.heap.size + 1 < ((w6.alloc (.cells #[.int .i64 0, .int .i64 0, .int .i64 0, .int .i64 0, .int .i64 0] 42)).alloc (.cells #[.slice p len cap, .slice p' len' cap', .slice q4 U.length c4, .slice q5 M.length c5, .slice q6 V.length c6] 22)).heap.size := by simp
        generalize ((w6.alloc (.cells #[.int .i64 0, .int .i64 0, .int .i64 0, .int .i64 0, .int .i64 0] 42)).alloc (.cells #[.slice p len cap, .slice p' len' cap', .slice q4 U.length c4, .slice q5 M.length c5, .slice q6 V.length c6] 22)) = W0 at hb0 hn0 hs0 hz0 ⊢
        obtain ⟨D, hD⟩ : ∃ D, D = w6.heap.size := ⟨_, rfl⟩
        rw [← hD] at hn0 hs0 hz0 ⊢
        have HD := Lib.hid hD
        have HRA6 := Lib.hid (HRA.out.below HB6.out)
        have HRB6 := Lib.hid (HRB.out.below HB6.out)
        clear hD
        have H0 : Hid (RowKit.Below w6.heap.size w6 W0) := hb0
        have H1 : Hid (N5 W0 D 0 (tt a b U M V)) := hn0
        have H2 : Hid (SC W0 (D + 1) (.slice p len cap) (.slice p' len' cap') (.slice q4 U.length c4) (.slice q5 M.length c5) (.slice q6 V.length c6)) := hs0
        have H3 : Hid (D + 1 < W0.heap.size) := hz0
        clear hb0 hn0 hs0 hz0
        go_loopg [64] (5 : Nat) (fun gg s64 wr => ∃ (k : Nat), s64 = .int .i64 k ∧ k ≤ 5 ∧ 5 - k ≤ gg ∧ Hid (RowKit.Below w6.heap.size w6 wr) ∧ Hid (N5 wr D k (tt a b U M V)) ∧ Hid (SC wr (D + 1) (.slice p len cap) (.slice p' len' cap') (.slice q4 U.length c4) (.slice q5 M.length c5) (.slice q6 V.length c6)) ∧ Hid (D + 1 < wr.heap.size))
        case atStart => exact ⟨0, rfl, by omega, by omega, H0.out, H1.out, H2.out, H3.out⟩
        case round =>
          obtain ⟨k, rfl, hk, hkg, HW, HN, HSC, HSZ⟩ := hrel
          clear H0 H1 H2 H3 W0
          by_cases hlt : k < 5
          · rcases (show k = 0 ∨ k = 1 ∨ k = 2 ∨ k = 3 ∨ k = 4 by omega) with rfl | rfl | rfl | rfl | rfl
            · have hltz : ((0 : Nat) : Int) < 5 := by omega
              have hcell := HSC.out.1
              have hlen : ¬ tot a < (len : Int) := by have := tot_len (l := a) (HVA.out.nf.1); have := HL.out; omega
              have hlenb : decide (tot a < (len : Int)) = false := decide_eq_false hlen
              have hfr := (HN.out 0 (by omega)).2
              go_wp2_with fail
              refine (countR (vl_iff.2 HVA.out) _ _ (HRA6.out.below HW.out)).mono ?_
              rintro _ W1 ⟨rfl, hb⟩
              have HN1 : Hid (N5 W1 D 0 (tt a b U M V)) := HN.out.below hb (by have := HSZ.out; omega)
              have HS1 : Hid (SC W1 (D + 1) (.slice p len cap) (.slice p' len' cap') (.slice q4 U.length c4) (.slice q5 M.length c5) (.slice q6 V.length c6)) := HSC.out.below hb HSZ.out
              have HW1 : Hid (RowKit.Below w6.heap.size w6 W1) := HW.out.trans (hb.mono HW.out.size)
              have HSZ1 : Hid (D + 1 < W1.heap.size) := Nat.lt_of_lt_of_le HSZ.out hb.size
              have hfr1 := (HN1.out 0 (by omega)).2
              have hc1 := (HN1.out 0 (by omega)).1
              clear hb hcell hfr
              have HN2 : Hid (N5 (W1.setCell ⟨D, 0, none⟩ (.int .i64 (tot a))) D (0 + 1) (tt a b U M V)) := HN1.out.set (by omega)
              have HS2 : Hid (SC (W1.setCell ⟨D, 0, none⟩ (.int .i64 (tot a))) (D + 1) (.slice p len cap) (.slice p' len' cap') (.slice q4 U.length c4) (.slice q5 M.length c5) (.slice q6 V.length c6)) := HS1.out.set (by omega) _ _
              have HW2 : Hid (RowKit.Below w6.heap.size w6 (W1.setCell ⟨D, 0, none⟩ (.int .i64 (tot a)))) := HW1.out.setCell (by show w6.heap.size ≤ D; have := HD.out; omega) _
              have HSZ2 : Hid (D + 1 < (W1.setCell ⟨D, 0, none⟩ (.int .i64 (tot a))).heap.size) := by show _ < _; rw [World.size_setCell]; exact HSZ1.out
              clear HN1 HS1 HW1 HSZ1
              go_wp2
              go_roundg (5 - (0 + 1))
              case measure => omega
              case rel => exact ⟨0 + 1, rfl, by omega, by omega, HW2.out, HN2.out, HS2.out, HSZ2.out⟩
            · have hltz : ((1 : Nat) : Int) < 5 := by omega
              have hcell := HSC.out.2.1
              have hlen : ¬ tot b < (len' : Int) := by have := tot_len (l := b) (HVB.out.nf.1); have := HL'.out; omega
              have hlenb : decide (tot b < (len' : Int)) = false := decide_eq_false hlen
              have hfr := (HN.out 1 (by omega)).2
              go_wp2_with fail
              refine (countR (vl_iff.2 HVB.out) _ _ (HRB6.out.below HW.out)).mono ?_
              rintro _ W1 ⟨rfl, hb⟩
              have HN1 : Hid (N5 W1 D 1 (tt a b U M V)) := HN.out.below hb (by have := HSZ.out; omega)
              have HS1 : Hid (SC W1 (D + 1) (.slice p len cap) (.slice p' len' cap') (.slice q4 U.length c4) (.slice q5 M.length c5) (.slice q6 V.length c6)) := HSC.out.below hb HSZ.out
              have HW1 : Hid (RowKit.Below w6.heap.size w6 W1) := HW.out.trans (hb.mono HW.out.size)
              have HSZ1 : Hid (D + 1 < W1.heap.size) := Nat.lt_of_lt_of_le HSZ.out hb.size
              have hfr1 := (HN1.out 1 (by omega)).2
              have hc1 := (HN1.out 1 (by omega)).1
              clear hb hcell hfr
              have HN2 : Hid (N5 (W1.setCell ⟨D, 1, none⟩ (.int .i64 (tot b))) D (1 + 1) (tt a b U M V)) := HN1.out.set (by omega)
              have HS2 : Hid (SC (W1.setCell ⟨D, 1, none⟩ (.int .i64 (tot b))) (D + 1) (.slice p len cap) (.slice p' len' cap') (.slice q4 U.length c4) (.slice q5 M.length c5) (.slice q6 V.length c6)) := HS1.out.set (by omega) _ _
              have HW2 : Hid (RowKit.Below w6.heap.size w6 (W1.setCell ⟨D, 1, none⟩ (.int .i64 (tot b)))) := HW1.out.setCell (by show w6.heap.size ≤ D; have := HD.out; omega) _
              have HSZ2 : Hid (D + 1 < (W1.setCell ⟨D, 1, none⟩ (.int .i64 (tot b))).heap.size) := by show _ < _; rw [World.size_setCell]; exact HSZ1.out
              clear HN1 HS1 HW1 HSZ1
              go_wp2
              go_roundg (5 - (1 + 1))
              case measure => omega
              case rel => exact ⟨1 + 1, rfl, by omega, by omega, HW2.out, HN2.out, HS2.out, HSZ2.out⟩
            · have hltz : ((2 : Nat) : Int) < 5 := by omega
              have hcell := HSC.out.2.2.1
              have hlen : ¬ tot U < (U.length : Int) := by have := tot_len (l := U) (GU.out.vl.nf.1);  omega
              have hlenb : decide (tot U < (U.length : Int)) = false := decide_eq_false hlen
              have hfr := (HN.out 2 (by omega)).2
              go_wp2_with fail
              refine (countR (vl_iff.2 GU.out.vl) _ _ (R1.out.below HW.out)).mono ?_
              rintro _ W1 ⟨rfl, hb⟩
              have HN1 : Hid (N5 W1 D 2 (tt a b U M V)) := HN.out.below hb (by have := HSZ.out; omega)
              have HS1 : Hid (SC W1 (D + 1) (.slice p len cap) (.slice p' len' cap') (.slice q4 U.length c4) (.slice q5 M.length c5) (.slice q6 V.length c6)) := HSC.out.below hb HSZ.out
              have HW1 : Hid (RowKit.Below w6.heap.size w6 W1) := HW.out.trans (hb.mono HW.out.size)
              have HSZ1 : Hid (D + 1 < W1.heap.size) := Nat.lt_of_lt_of_le HSZ.out hb.size
              have hfr1 := (HN1.out 2 (by omega)).2
              have hc1 := (HN1.out 2 (by omega)).1
              clear hb hcell hfr
              have HN2 : Hid (N5 (W1.setCell ⟨D, 2, none⟩ (.int .i64 (tot U))) D (2 + 1) (tt a b U M V)) := HN1.out.set (by omega)
              have HS2 : Hid (SC (W1.setCell ⟨D, 2, none⟩ (.int .i64 (tot U))) (D + 1) (.slice p len cap) (.slice p' len' cap') (.slice q4 U.length c4) (.slice q5 M.length c5) (.slice q6 V.length c6)) := HS1.out.set (by omega) _ _
              have HW2 : Hid (RowKit.Below w6.heap.size w6 (W1.setCell ⟨D, 2, none⟩ (.int .i64 (tot U)))) := HW1.out.setCell (by show w6.heap.size ≤ D; have := HD.out; omega) _
              have HSZ2 : Hid (D + 1 < (W1.setCell ⟨D, 2, none⟩ (.int .i64 (tot U))).heap.size) := by show _ < _; rw [World.size_setCell]; exact HSZ1.out
              clear HN1 HS1 HW1 HSZ1
              go_wp2
              go_roundg (5 - (2 + 1))
              case measure => omega
              case rel => exact ⟨2 + 1, rfl, by omega, by omega, HW2.out, HN2.out, HS2.out, HSZ2.out⟩
            · have hltz : ((3 : Nat) : Int) < 5 := by omega
              have hcell := HSC.out.2.2.2.1
              have hlen : ¬ tot M < (M.length : Int) := by have := tot_len (l := M) (GM.out.vl.nf.1);  omega
              have hlenb : decide (tot M < (M.length : Int)) = false := decide_eq_false hlen
              have hfr := (HN.out 3 (by omega)).2
              go_wp2_with fail
              refine (countR (vl_iff.2 GM.out.vl) _ _ (R2.out.below HW.out)).mono ?_
              rintro _ W1 ⟨rfl, hb⟩
              have HN1 : Hid (N5 W1 D 3 (tt a b U M V)) := HN.out.below hb (by have := HSZ.out; omega)
              have HS1 : Hid (SC W1 (D + 1) (.slice p len cap) (.slice p' len' cap') (.slice q4 U.length c4) (.slice q5 M.length c5) (.slice q6 V.length c6)) := HSC.out.below hb HSZ.out
              have HW1 : Hid (RowKit.Below w6.heap.size w6 W1) := HW.out.trans (hb.mono HW.out.size)
              have HSZ1 : Hid (D + 1 < W1.heap.size) := Nat.lt_of_lt_of_le HSZ.out hb.size
              have hfr1 := (HN1.out 3 (by omega)).2
              have hc1 := (HN1.out 3 (by omega)).1
              clear hb hcell hfr
              have HN2 : Hid (N5 (W1.setCell ⟨D, 3, none⟩ (.int .i64 (tot M))) D (3 + 1) (tt a b U M V)) := HN1.out.set (by omega)
              have HS2 : Hid (SC (W1.setCell ⟨D, 3, none⟩ (.int .i64 (tot M))) (D + 1) (.slice p len cap) (.slice p' len' cap') (.slice q4 U.length c4) (.slice q5 M.length c5) (.slice q6 V.length c6)) := HS1.out.set (by omega) _ _
              have HW2 : Hid (RowKit.Below w6.heap.size w6 (W1.setCell ⟨D, 3, none⟩ (.int .i64 (tot M)))) := HW1.out.setCell (by show w6.heap.size ≤ D; have := HD.out; omega) _
              have HSZ2 : Hid (D + 1 < (W1.setCell ⟨D, 3, none⟩ (.int .i64 (tot M))).heap.size) := by show _ < _; rw [World.size_setCell]; exact HSZ1.out
              clear HN1 HS1 HW1 HSZ1
              go_wp2
              go_roundg (5 - (3 + 1))
              case measure => omega
              case rel => exact ⟨3 + 1, rfl, by omega, by omega, HW2.out, HN2.out, HS2.out, HSZ2.out⟩
            · have hltz : ((4 : Nat) : Int) < 5 := by omega
              have hcell := HSC.out.2.2.2.2
              have hlen : ¬ tot V < (V.length : Int) := by have := tot_len (l := V) (GV.out.vl.nf.1);  omega
              have hlenb : decide (tot V < (V.length : Int)) = false := decide_eq_false hlen
              have hfr := (HN.out 4 (by omega)).2
              go_wp2_with fail
              refine (countR (vl_iff.2 GV.out.vl) _ _ (R3.out.below HW.out)).mono ?_
              rintro _ W1 ⟨rfl, hb⟩
              have HN1 : Hid (N5 W1 D 4 (tt a b U M V)) := HN.out.below hb (by have := HSZ.out; omega)
              have HS1 : Hid (SC W1 (D + 1) (.slice p len cap) (.slice p' len' cap') (.slice q4 U.length c4) (.slice q5 M.length c5) (.slice q6 V.length c6)) := HSC.out.below hb HSZ.out
              have HW1 : Hid (RowKit.Below w6.heap.size w6 W1) := HW.out.trans (hb.mono HW.out.size)
              have HSZ1 : Hid (D + 1 < W1.heap.size) := Nat.lt_of_lt_of_le HSZ.out hb.size
              have hfr1 := (HN1.out 4 (by omega)).2
              have hc1 := (HN1.out 4 (by omega)).1
              clear hb hcell hfr
              have HN2 : Hid (N5 (W1.setCell ⟨D, 4, none⟩ (.int .i64 (tot V))) D (4 + 1) (tt a b U M V)) := HN1.out.set (by omega)
              have HS2 : Hid (SC (W1.setCell ⟨D, 4, none⟩ (.int .i64 (tot V))) (D + 1) (.slice p len cap) (.slice p' len' cap') (.slice q4 U.length c4) (.slice q5 M.length c5) (.slice q6 V.length c6)) := HS1.out.set (by omega) _ _
              have HW2 : Hid (RowKit.Below w6.heap.size w6 (W1.setCell ⟨D, 4, none⟩ (.int .i64 (tot V)))) := HW1.out.setCell (by show w6.heap.size ≤ D; have := HD.out; omega) _
              have HSZ2 : Hid (D + 1 < (W1.setCell ⟨D, 4, none⟩ (.int .i64 (tot V))).heap.size) := by show _ < _; rw [World.size_setCell]; exact HSZ1.out
              clear HN1 HS1 HW1 HSZ1
              go_wp2
              go_roundg (5 - (4 + 1))
              case measure => omega
              case rel => exact ⟨4 + 1, rfl, by omega, by omega, HW2.out, HN2.out, HS2.out, HSZ2.out⟩
          · have hltz : ¬ (k : Int) < (5 : Int) := by omega
            obtain rfl : k = 5 := by omega
            have n0 : wr.cell? ⟨D, 0, none⟩ = some (.int .i64 (tot a)) := (HN.out 0 (by omega)).1
            have n1 : wr.cell? ⟨D, 1, none⟩ = some (.int .i64 (tot b)) := (HN.out 1 (by omega)).1
            have n2 : wr.cell? ⟨D, 2, none⟩ = some (.int .i64 (tot U)) := (HN.out 2 (by omega)).1
            have n3 : wr.cell? ⟨D, 3, none⟩ = some (.int .i64 (tot M)) := (HN.out 3 (by omega)).1
            have n4 : wr.cell? ⟨D, 4, none⟩ = some (.int .i64 (tot V)) := (HN.out 4 (by omega)).1
            have hA := nd_bound HVA.out
            have hB := nd_bound HVB.out
            have hU := nd_bound GU.out.vl
            have hM := nd_bound GM.out.vl
            have hV := nd_bound GV.out.vl
            have q1 := counts_two HVA.out HVB.out GU.out GM.out
            have q2 := counts_part HVA.out HVB.out GM.out GV.out
            have HBF : Hid (RowKit.Below w.heap.size w wr) := HB6.out.trans (HW.out.mono HB6.out.size)
            generalize tot a = ta at n0 hA q1 q2
            generalize tot b = tb at n1 hB q1 q2
            generalize tot U = tu at n2 hU q1 q2
            generalize tot M = tm at n3 hM q1 q2
            generalize tot V = tv at n4 hV q1 q2
            obtain ⟨a0, a1⟩ := hA
            obtain ⟨b0, b1⟩ := hB
            obtain ⟨u0, u1⟩ := hU
            obtain ⟨m0, m1⟩ := hM
            obtain ⟨v0, v1⟩ := hV
            have e1 : (ta + tb == tu + tm) = true := by simpa using q1.symm
            have e2 : (tv + tm == ta) = true := by simpa using q2
            clear q1 q2 HN HSC HSZ
            go_wp2
            go_ret
            exact ⟨rfl, HBF.out⟩
      · by_cases h1 : len ≤ 400
        · have z1 : ¬ (400 : Int) < (len : Int) := by omega
          have z1' : decide ((400 : Int) < (len : Int)) = false := decide_eq_false z1
          have z2 : (400 : Int) < (len' : Int) := by omega
          clear hc h1
          have HB0 : Hid (RowKit.Below w.heap.size w w) := Below.refl _ _
          go_enter Try.func7, Try.ntmps7
          go_wp2_with fail
          refine (head_any _).mono ?_
          rintro _ w1 ⟨rfl, hb⟩
          have HB1 := Lib.hid (HB0.out.trans (hb.mono HB0.out.size))
          clear hb HB0
          go_wp2_with fail
          refine (KV.out _ HB1.out).mono ?_
          rintro _ w2 ⟨rfl, hb⟩
          have HB2 := Lib.hid (HB1.out.trans (hb.mono HB1.out.size))
          clear hb HB1
          go_wp2_with fail
          refine (KV'.out _ HB2.out).mono ?_
          rintro _ w3 ⟨rfl, hb⟩
          have HB3 := Lib.hid (HB2.out.trans (hb.mono HB2.out.size))
          clear hb HB2
          go_wp2
          go_ret
          exact ⟨rfl, HB3.out⟩
        · have z1 : (400 : Int) < (len : Int) := by omega
          clear hc h1
          have HB0 : Hid (RowKit.Below w.heap.size w w) := Below.refl _ _
          go_enter Try.func7, Try.ntmps7
          go_wp2_with fail
          refine (head_any _).mono ?_
          rintro _ w1 ⟨rfl, hb⟩
          have HB1 := Lib.hid (HB0.out.trans (hb.mono HB0.out.size))
          clear hb HB0
          go_wp2_with fail
          refine (KV.out _ HB1.out).mono ?_
          rintro _ w2 ⟨rfl, hb⟩
          have HB2 := Lib.hid (HB1.out.trans (hb.mono HB1.out.size))
          clear hb HB1
          go_wp2_with fail
          refine (KV'.out _ HB2.out).mono ?_
          rintro _ w3 ⟨rfl, hb⟩
          have HB3 := Lib.hid (HB2.out.trans (hb.mono HB2.out.size))
          clear hb HB2
          go_wp2
          go_ret
          exact ⟨rfl, HB3.out⟩
end Go.Proofs.Ytomcngnfdflkkaa
