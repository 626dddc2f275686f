/-
  The walk of the law on moved sets.
-/
import Derived.Test.YtomcngnfdflkkaaSLaw
namespace Go.Proofs.Ytomcngnfdflkkaa
open Go.RowKit Spn Go.Sort

theorem cov_mv (c : Int) (l : List (Int × Int)) (d : Int) : cov (mv c l) d = cov l (d - c) := by
  unfold cov mv
  rw [List.any_map]
  congr 1
  funext s
  show (decide (s.1 + c ≤ d) && decide (d < s.2 + c)) = _
  congr 1 <;> simp only [decide_eq_decide] <;> omega
theorem nf_mv {l : List (Int × Int)} (c : Int) (h : Nf l) : Nf (mv c l) := by
  refine ⟨fun s hs => ?_, ?_⟩
  · unfold mv at hs
    obtain ⟨t, ht, rfl⟩ := List.mem_map.1 hs
    have := h.1 t ht
    show t.1 + c < t.2 + c
    omega
  · unfold mv
    rw [List.pairwise_map]
    exact h.2.imp fun h => by show _ + c < _ + c; omega
/-- The result for moved sets is the moved result. -/
theorem mv_same {kf : Bool → Bool → Bool} {a b X Y : List (Int × Int)} {c : Int} (h : Good kf a b X) (h' : Good kf (mv c a) (mv c b) Y) : decide (mv c X = Y) = true :=
  decide_eq_true (nf_uniq (nf_mv c h.vl.nf) h'.vl.nf fun d => by rw [cov_mv, h.cov, h'.cov, cov_mv, cov_mv])
theorem shiftR {l : List (Int × Int)} {c : Int} (h : Vl l) (hn : l.length ≤ 1000) (c0 : -36524 ≤ c) (c1 : c ≤ 36524) (s : Value) (w : World) (hS : Rd w s l) :
    Calls Try.prog 27 #[s, .int .i64 c] w fun e w' => ∃ q g cp, e = .returned (.slice q l.length cp) ∧ Sl w' q g 0 l.length (mv c l) ∧ RowKit.Below w.heap.size w w' := by
  obtain ⟨p, bl, off, cap, rfl, hs⟩ := hS
  refine (shift_any l c p bl off cap _ w hs h.2.1 c0 c1 hn).mono ?_
  rintro e w' ⟨q, g, len, cp, rfl, hs, hb⟩
  have hl := hs.1
  unfold mv at hl
  rw [List.length_map] at hl
  subst hl
  exact ⟨q, g, cp, rfl, hs, hb⟩

set_option maxRecDepth 100000 in
set_option maxHeartbeats 8000000 in
theorem shifts_law (a : List (Int × Int)) (p : Option Addr) (bl off cap len : Nat) (b : List (Int × Int)) (p' : Option Addr) (bl' off' cap' len' : Nat) (t : Int) (w : World) (hS : Sl w p bl off len a) (hS' : Sl w p' bl' off' len' b) (_t0 : -9223372036854775808 ≤ t) (_t1 : t ≤ 9223372036854775807) :
    Calls Try.prog 8 #[.slice p len cap, .slice p' len' cap', .int .i64 t] w fun e w' => e = .returned (.bool true) ∧ RowKit.Below w.heap.size w w' := by
  have HL := Lib.hid hS.1
  have HL' := Lib.hid hS'.1
  have hm := hS.2.2.2.2.1
  have hm' := hS'.2.2.2.2.1
  cases hva : vl a with
  | false =>
    have KA := Lib.hid (fun w' (h : RowKit.Below w.heap.size w w') => valid_b a p bl off cap len false hva w' (hS.below h))
    clear hS hS' hva
    have HB0 : Hid (RowKit.Below w.heap.size w w) := Below.refl _ _
    go_enter Try.func8, Try.ntmps8
    go_wp2_with fail
    refine (head_any _).mono ?_
    rintro _ w1 ⟨rfl, hb⟩
    have HB1 := Lib.hid (HB0.out.trans (hb.mono HB0.out.size))
    clear hb HB0
    go_wp2_with fail
    refine (KA.out _ HB1.out).mono ?_
    rintro _ w2 ⟨rfl, hb⟩
    have HB2 := Lib.hid (HB1.out.trans (hb.mono HB1.out.size))
    clear hb HB1
    go_wp2
    go_ret
    exact ⟨by first | rfl | (simp; done), HB2.out⟩
  | true =>
    have KA := Lib.hid (fun w' (h : RowKit.Below w.heap.size w w') => valid_b a p bl off cap len true hva w' (hS.below h))
    have HVA := Lib.hid (vl_iff.1 hva)
    cases hvb : vl b with
    | false =>
      have KB := Lib.hid (fun w' (h : RowKit.Below w.heap.size w w') => valid_b b p' bl' off' cap' len' false hvb w' (hS'.below h))
      clear hS hS' hva hvb
      have HB0 : Hid (RowKit.Below w.heap.size w w) := Below.refl _ _
      go_enter Try.func8, Try.ntmps8
      go_wp2_with fail
      refine (head_any _).mono ?_
      rintro _ w1 ⟨rfl, hb⟩
      have HB1 := Lib.hid (HB0.out.trans (hb.mono HB0.out.size))
      clear hb HB0
      go_wp2_with fail
      refine (KA.out _ HB1.out).mono ?_
      rintro _ w2 ⟨rfl, hb⟩
      have HB2 := Lib.hid (HB1.out.trans (hb.mono HB1.out.size))
      clear hb HB1
      go_wp2_with fail
      refine (KB.out _ HB2.out).mono ?_
      rintro _ w3 ⟨rfl, hb⟩
      have HB3 := Lib.hid (HB2.out.trans (hb.mono HB2.out.size))
      clear hb HB2
      go_wp2
      go_ret
      exact ⟨by first | rfl | (simp; done), HB3.out⟩
    | true =>
      have KB := Lib.hid (fun w' (h : RowKit.Below w.heap.size w w') => valid_b b p' bl' off' cap' len' true hvb w' (hS'.below h))
      have HVB := Lib.hid (vl_iff.1 hvb)
      have HRA := Lib.hid (hS.rd (cap := cap))
      have HRB := Lib.hid (hS'.rd (cap := cap'))
      clear hS hS' hva hvb
      by_cases t0 : -36524 ≤ t
      · have t0b : decide (t < -36524) = false := decide_eq_false (by omega)
        by_cases t1 : t ≤ 36524
        · have t1b : decide (36524 < t) = false := decide_eq_false (by omega)
          by_cases h1 : len ≤ 400
          · have z1 : decide ((400 : Int) < (len : Int)) = false := decide_eq_false (by omega)
            by_cases h2 : len' ≤ 400
            · have z2 : ¬ (400 : Int) < (len' : Int) := by omega
              have z2' : decide ((400 : Int) < (len' : Int)) = false := decide_eq_false (by omega)
              have hla : a.length ≤ 1000 := by have := HL.out; omega
              have hlb : b.length ≤ 1000 := by have := HL'.out; omega
              have hla4 : a.length ≤ 400 := by have := HL.out; omega
              have hlb4 : b.length ≤ 400 := by have := HL'.out; omega
              cases hc : vl (mv t a) with
              | false =>
                have HC := Lib.hid hc
                clear hc
                have HB0 : Hid (RowKit.Below w.heap.size w w) := Below.refl _ _
                go_enter Try.func8, Try.ntmps8
                go_wp2_with fail
                refine (head_any _).mono ?_
                rintro _ w1 ⟨rfl, hb⟩
                have HB1 := Lib.hid (HB0.out.trans (hb.mono HB0.out.size))
                clear hb HB0
                go_wp2_with fail
                refine (KA.out _ HB1.out).mono ?_
                rintro _ w2 ⟨rfl, hb⟩
                have HB2 := Lib.hid (HB1.out.trans (hb.mono HB1.out.size))
                clear hb HB1
                go_wp2_with fail
                refine (KB.out _ HB2.out).mono ?_
                rintro _ w3 ⟨rfl, hb⟩
                have HB3 := Lib.hid (HB2.out.trans (hb.mono HB2.out.size))
                clear hb HB2
                go_wp2_with fail
                refine (shiftR HVA.out hla t0 t1 _ _ (HRA.out.below HB3.out)).mono ?_
                rintro _ w4 ⟨q4, g4, c4, rfl, hs, hb⟩
                have HB4 := Lib.hid (HB3.out.trans (hb.mono HB3.out.size))
                clear hb HB3
                have RC := Lib.hid (hs.rd (cap := c4))
                clear hs
                go_wp2_with fail
                refine (shiftR HVB.out hlb t0 t1 _ _ (HRB.out.below HB4.out)).mono ?_
                rintro _ w5 ⟨q5, g5, c5, rfl, hs, hb⟩
                have HB5 := Lib.hid (HB4.out.trans (hb.mono HB4.out.size))
                have RC' := Lib.hid (RC.out.below hb)
                clear RC
                have RC := RC'
                clear RC'
                clear hb HB4
                have RD := Lib.hid (hs.rd (cap := c5))
                clear hs
                go_wp2_with fail
                refine (validR false (HC.out) _ _ RC.out).mono ?_
                rintro _ w6 ⟨rfl, hb⟩
                have HB6 := Lib.hid (HB5.out.trans (hb.mono HB5.out.size))
                have RC' := Lib.hid (RC.out.below hb)
                clear RC
                have RC := RC'
                clear RC'
                have RD' := Lib.hid (RD.out.below hb)
                clear RD
                have RD := RD'
                clear RD'
                clear hb HB5
                go_wp2
                go_ret
                exact ⟨by first | rfl | (simp; done), HB6.out⟩
              | true =>
                cases hd : vl (mv t b) with
                | false =>
                  have HC := Lib.hid hc
                  have HD := Lib.hid hd
                  clear hc hd
                  have HB0 : Hid (RowKit.Below w.heap.size w w) := Below.refl _ _
                  go_enter Try.func8, Try.ntmps8
                  go_wp2_with fail
                  refine (head_any _).mono ?_
                  rintro _ w1 ⟨rfl, hb⟩
                  have HB1 := Lib.hid (HB0.out.trans (hb.mono HB0.out.size))
                  clear hb HB0
                  go_wp2_with fail
                  refine (KA.out _ HB1.out).mono ?_
                  rintro _ w2 ⟨rfl, hb⟩
                  have HB2 := Lib.hid (HB1.out.trans (hb.mono HB1.out.size))
                  clear hb HB1
                  go_wp2_with fail
                  refine (KB.out _ HB2.out).mono ?_
                  rintro _ w3 ⟨rfl, hb⟩
                  have HB3 := Lib.hid (HB2.out.trans (hb.mono HB2.out.size))
                  clear hb HB2
                  go_wp2_with fail
                  refine (shiftR HVA.out hla t0 t1 _ _ (HRA.out.below HB3.out)).mono ?_
                  rintro _ w4 ⟨q4, g4, c4, rfl, hs, hb⟩
                  have HB4 := Lib.hid (HB3.out.trans (hb.mono HB3.out.size))
                  clear hb HB3
                  have RC := Lib.hid (hs.rd (cap := c4))
                  clear hs
                  go_wp2_with fail
                  refine (shiftR HVB.out hlb t0 t1 _ _ (HRB.out.below HB4.out)).mono ?_
                  rintro _ w5 ⟨q5, g5, c5, rfl, hs, hb⟩
                  have HB5 := Lib.hid (HB4.out.trans (hb.mono HB4.out.size))
                  have RC' := Lib.hid (RC.out.below hb)
                  clear RC
                  have RC := RC'
                  clear RC'
                  clear hb HB4
                  have RD := Lib.hid (hs.rd (cap := c5))
                  clear hs
                  go_wp2_with fail
                  refine (validR true (HC.out) _ _ RC.out).mono ?_
                  rintro _ w6 ⟨rfl, hb⟩
                  have HB6 := Lib.hid (HB5.out.trans (hb.mono HB5.out.size))
                  have RC' := Lib.hid (RC.out.below hb)
                  clear RC
                  have RC := RC'
                  clear RC'
                  have RD' := Lib.hid (RD.out.below hb)
                  clear RD
                  have RD := RD'
                  clear RD'
                  clear hb HB5
                  go_wp2_with fail
                  refine (validR false (HD.out) _ _ RD.out).mono ?_
                  rintro _ w7 ⟨rfl, hb⟩
                  have HB7 := Lib.hid (HB6.out.trans (hb.mono HB6.out.size))
                  have RC' := Lib.hid (RC.out.below hb)
                  clear RC
                  have RC := RC'
                  clear RC'
                  have RD' := Lib.hid (RD.out.below hb)
                  clear RD
                  have RD := RD'
                  clear RD'
                  clear hb HB6
                  go_wp2
                  go_ret
                  exact ⟨by first | rfl | (simp; done), HB7.out⟩
                | true =>
                  obtain ⟨NU, gU⟩ := good opU HVA.out HVB.out (by omega)
                  obtain ⟨MU, hU⟩ := good opU (vl_iff.1 hc) (vl_iff.1 hd) (by unfold mv; rw [List.length_map, List.length_map]; omega)
                  have lU : NU.length ≤ 1000 := gU.vl.1
                  have SU := Lib.hid (mv_same gU hU)
                  have GU := Lib.hid gU
                  have GU' := Lib.hid hU
                  obtain ⟨NM, gM⟩ := good opM HVA.out HVB.out (by omega)
                  obtain ⟨MM, hM⟩ := good opM (vl_iff.1 hc) (vl_iff.1 hd) (by unfold mv; rw [List.length_map, List.length_map]; omega)
                  have lM : NM.length ≤ 1000 := gM.vl.1
                  have SM := Lib.hid (mv_same gM hM)
                  have GM := Lib.hid gM
                  have GM' := Lib.hid hM
                  obtain ⟨NV, gV⟩ := good opW HVA.out HVB.out (by omega)
                  obtain ⟨MV, hV⟩ := good opW (vl_iff.1 hc) (vl_iff.1 hd) (by unfold mv; rw [List.length_map, List.length_map]; omega)
                  have lV : NV.length ≤ 1000 := gV.vl.1
                  have SV := Lib.hid (mv_same gV hV)
                  have GV := Lib.hid gV
                  have GV' := Lib.hid hV
                  clear gU hU gM hM gV hV
                  have HC := Lib.hid hc
                  have HD := Lib.hid hd
                  clear hc hd
                  have HB0 : Hid (RowKit.Below w.heap.size w w) := Below.refl _ _
                  go_enter Try.func8, Try.ntmps8
                  go_wp2_with fail
                  refine (head_any _).mono ?_
                  rintro _ w1 ⟨rfl, hb⟩
                  have HB1 := Lib.hid (HB0.out.trans (hb.mono HB0.out.size))
                  clear hb HB0
                  go_wp2_with fail
                  refine (KA.out _ HB1.out).mono ?_
                  rintro _ w2 ⟨rfl, hb⟩
                  have HB2 := Lib.hid (HB1.out.trans (hb.mono HB1.out.size))
                  clear hb HB1
                  go_wp2_with fail
                  refine (KB.out _ HB2.out).mono ?_
                  rintro _ w3 ⟨rfl, hb⟩
                  have HB3 := Lib.hid (HB2.out.trans (hb.mono HB2.out.size))
                  clear hb HB2
                  go_wp2_with fail
                  refine (shiftR HVA.out hla t0 t1 _ _ (HRA.out.below HB3.out)).mono ?_
                  rintro _ w4 ⟨q4, g4, c4, rfl, hs, hb⟩
                  have HB4 := Lib.hid (HB3.out.trans (hb.mono HB3.out.size))
                  clear hb HB3
                  have RC := Lib.hid (hs.rd (cap := c4))
                  clear hs
                  go_wp2_with fail
                  refine (shiftR HVB.out hlb t0 t1 _ _ (HRB.out.below HB4.out)).mono ?_
                  rintro _ w5 ⟨q5, g5, c5, rfl, hs, hb⟩
                  have HB5 := Lib.hid (HB4.out.trans (hb.mono HB4.out.size))
                  have RC' := Lib.hid (RC.out.below hb)
                  clear RC
                  have RC := RC'
                  clear RC'
                  clear hb HB4
                  have RD := Lib.hid (hs.rd (cap := c5))
                  clear hs
                  go_wp2_with fail
                  refine (validR true (HC.out) _ _ RC.out).mono ?_
                  rintro _ w6 ⟨rfl, hb⟩
                  have HB6 := Lib.hid (HB5.out.trans (hb.mono HB5.out.size))
                  have RC' := Lib.hid (RC.out.below hb)
                  clear RC
                  have RC := RC'
                  clear RC'
                  have RD' := Lib.hid (RD.out.below hb)
                  clear RD
                  have RD := RD'
                  clear RD'
                  clear hb HB5
                  go_wp2_with fail
                  refine (validR true (HD.out) _ _ RD.out).mono ?_
                  rintro _ w7 ⟨rfl, hb⟩
                  have HB7 := Lib.hid (HB6.out.trans (hb.mono HB6.out.size))
                  have RC' := Lib.hid (RC.out.below hb)
                  clear RC
                  have RC := RC'
                  clear RC'
                  have RD' := Lib.hid (RD.out.below hb)
                  clear RD
                  have RD := RD'
                  clear RD'
                  clear hb HB6
                  go_wp2_with fail
                  obtain ⟨W0, hW0⟩ : ∃ W, W = w7.alloc (.cells #[.func (.func 15) #[] #[], .func (.func 17) #[] #[], .func (.func 19) #[] #[]] 29) := ⟨_, rfl⟩
                  have hb0 := (Below.refl w7.heap.size w7).alloc (Nat.le_refl _) (.cells #[.func (.func 15) #[] #[], .func (.func 17) #[] #[], .func (.func 19) #[] #[]] 29)
                  have f0 : W0.cell? ⟨w7.heap.size, 0, none⟩ = some (.func (.func 15) #[] #[]) := by rw [hW0, World.cell?_alloc_new]; rfl
                  have f1 : W0.cell? ⟨w7.heap.size, 1, none⟩ = some (.func (.func 17) #[] #[]) := by rw [hW0, World.cell?_alloc_new]; rfl
                  have f2 : W0.cell? ⟨w7.heap.size, 2, none⟩ = some (.func (.func 19) #[] #[]) := by rw [hW0, World.cell?_alloc_new]; rfl
                  have hz : w7.heap.size < W0.heap.size := by rw [hW0]; simp
                  rw [← hW0] at hb0 ⊢
                  have HW := Lib.hid (HB7.out.trans (hb0.mono HB7.out.size))
                  have RC0 := Lib.hid (RC.out.below hb0)
                  have RD0 := Lib.hid (RD.out.below hb0)
                  clear hW0 hb0 HB7 RC RD
                  obtain ⟨D, hD⟩ : ∃ D, D = w7.heap.size := ⟨_, rfl⟩
                  rw [← hD] at f0 f1 f2 hz ⊢
                  have F0 := Lib.hid f0
                  have F1 := Lib.hid f1
                  have F2 := Lib.hid f2
                  have HZ := Lib.hid hz
                  clear f0 f1 f2 hz hD
                  go_loopg [60] (3 : Nat) (fun gg s wr => ∃ (k : Nat), s = .int .i64 k ∧ k ≤ 3 ∧ 3 - k ≤ gg ∧ Hid (RowKit.Below W0.heap.size W0 wr))
                  case atStart => exact ⟨0, rfl, by omega, by omega, Below.refl _ _⟩
                  case round =>
                    obtain ⟨k, rfl, hk, hkg, HB⟩ := hrel
                    by_cases hlt : k < 3
                    · rcases (show k = 0 ∨ k = 1 ∨ k = 2 by omega) with rfl | rfl | rfl
                      · have hltz : ((0 : Nat) : Int) < 3 := by omega
                        have hcell := (HB.out.cell (p := ⟨D, 0, none⟩) HZ.out).trans F0.out
                        have hbs := HB.out.size
                        have HRA1 := Lib.hid ((HRA.out.below HW.out).below HB.out)
                        have HRB1 := Lib.hid ((HRB.out.below HW.out).below HB.out)
                        have RC1 := Lib.hid (RC0.out.below HB.out)
                        have RD1 := Lib.hid (RD0.out.below HB.out)
                        go_wp2_with fail
                        refine (doneU GU.out _ _ _ HRA1.out HRB1.out).mono ?_
                        rintro _ w21 ⟨_, rfl, ⟨q21, g21, o21, c21, rfl, hs⟩, hb⟩
                        have HB21 := Lib.hid (HB.out.trans (hb.mono HB.out.size))
                        have RC1' := Lib.hid (RC1.out.below hb)
                        clear RC1
                        have RC1 := RC1'
                        clear RC1'
                        have RD1' := Lib.hid (RD1.out.below hb)
                        clear RD1
                        have RD1 := RD1'
                        clear RD1'
                        clear hb HB
                        have RX := Lib.hid (hs.rd (cap := c21))
                        clear hs
                        go_wp2_with fail
                        refine (doneU GU'.out _ _ _ RC1.out RD1.out).mono ?_
                        rintro _ w22 ⟨_, rfl, ⟨q22, g22, o22, c22, rfl, hs⟩, hb⟩
                        have HB22 := Lib.hid (HB21.out.trans (hb.mono HB21.out.size))
                        have RC1' := Lib.hid (RC1.out.below hb)
                        clear RC1
                        have RC1 := RC1'
                        clear RC1'
                        have RD1' := Lib.hid (RD1.out.below hb)
                        clear RD1
                        have RD1 := RD1'
                        clear RD1'
                        have RX' := Lib.hid (RX.out.below hb)
                        clear RX
                        have RX := RX'
                        clear RX'
                        clear hb HB21
                        have RY := Lib.hid (hs.rd (cap := c22))
                        clear hs
                        go_wp2_with fail
                        refine (shiftR GU.out.vl lU t0 t1 _ _ RX.out).mono ?_
                        rintro _ w23 ⟨q23, g23, c23, rfl, hs, hb⟩
                        have HB23 := Lib.hid (HB22.out.trans (hb.mono HB22.out.size))
                        have RC1' := Lib.hid (RC1.out.below hb)
                        clear RC1
                        have RC1 := RC1'
                        clear RC1'
                        have RD1' := Lib.hid (RD1.out.below hb)
                        clear RD1
                        have RD1 := RD1'
                        clear RD1'
                        have RX' := Lib.hid (RX.out.below hb)
                        clear RX
                        have RX := RX'
                        clear RX'
                        have RY' := Lib.hid (RY.out.below hb)
                        clear RY
                        have RY := RY'
                        clear RY'
                        clear hb HB22
                        have RZ := Lib.hid (hs.rd (cap := c23))
                        clear hs
                        go_wp2_with fail
                        refine (sameR true (SU.out) _ _ _ RZ.out RY.out).mono ?_
                        rintro _ w24 ⟨rfl, hb⟩
                        have HB24 := Lib.hid (HB23.out.trans (hb.mono HB23.out.size))
                        have RC1' := Lib.hid (RC1.out.below hb)
                        clear RC1
                        have RC1 := RC1'
                        clear RC1'
                        have RD1' := Lib.hid (RD1.out.below hb)
                        clear RD1
                        have RD1 := RD1'
                        clear RD1'
                        have RX' := Lib.hid (RX.out.below hb)
                        clear RX
                        have RX := RX'
                        clear RX'
                        have RY' := Lib.hid (RY.out.below hb)
                        clear RY
                        have RY := RY'
                        clear RY'
                        have RZ' := Lib.hid (RZ.out.below hb)
                        clear RZ
                        have RZ := RZ'
                        clear RZ'
                        clear hb HB23
                        clear hcell hbs
                        go_wp2
                        go_roundg (3 - (0 + 1))
                        case measure => omega
                        case rel => exact ⟨0 + 1, rfl, by omega, by omega, HB24.out⟩
                      · have hltz : ((1 : Nat) : Int) < 3 := by omega
                        have hcell := (HB.out.cell (p := ⟨D, 1, none⟩) HZ.out).trans F1.out
                        have hbs := HB.out.size
                        have HRA1 := Lib.hid ((HRA.out.below HW.out).below HB.out)
                        have HRB1 := Lib.hid ((HRB.out.below HW.out).below HB.out)
                        have RC1 := Lib.hid (RC0.out.below HB.out)
                        have RD1 := Lib.hid (RD0.out.below HB.out)
                        go_wp2_with fail
                        refine (doneM GM.out _ _ _ HRA1.out HRB1.out).mono ?_
                        rintro _ w21 ⟨_, rfl, ⟨q21, g21, o21, c21, rfl, hs⟩, hb⟩
                        have HB21 := Lib.hid (HB.out.trans (hb.mono HB.out.size))
                        have RC1' := Lib.hid (RC1.out.below hb)
                        clear RC1
                        have RC1 := RC1'
                        clear RC1'
                        have RD1' := Lib.hid (RD1.out.below hb)
                        clear RD1
                        have RD1 := RD1'
                        clear RD1'
                        clear hb HB
                        have RX := Lib.hid (hs.rd (cap := c21))
                        clear hs
                        go_wp2_with fail
                        refine (doneM GM'.out _ _ _ RC1.out RD1.out).mono ?_
                        rintro _ w22 ⟨_, rfl, ⟨q22, g22, o22, c22, rfl, hs⟩, hb⟩
                        have HB22 := Lib.hid (HB21.out.trans (hb.mono HB21.out.size))
                        have RC1' := Lib.hid (RC1.out.below hb)
                        clear RC1
                        have RC1 := RC1'
                        clear RC1'
                        have RD1' := Lib.hid (RD1.out.below hb)
                        clear RD1
                        have RD1 := RD1'
                        clear RD1'
                        have RX' := Lib.hid (RX.out.below hb)
                        clear RX
                        have RX := RX'
                        clear RX'
                        clear hb HB21
                        have RY := Lib.hid (hs.rd (cap := c22))
                        clear hs
                        go_wp2_with fail
                        refine (shiftR GM.out.vl lM t0 t1 _ _ RX.out).mono ?_
                        rintro _ w23 ⟨q23, g23, c23, rfl, hs, hb⟩
                        have HB23 := Lib.hid (HB22.out.trans (hb.mono HB22.out.size))
                        have RC1' := Lib.hid (RC1.out.below hb)
                        clear RC1
                        have RC1 := RC1'
                        clear RC1'
                        have RD1' := Lib.hid (RD1.out.below hb)
                        clear RD1
                        have RD1 := RD1'
                        clear RD1'
                        have RX' := Lib.hid (RX.out.below hb)
                        clear RX
                        have RX := RX'
                        clear RX'
                        have RY' := Lib.hid (RY.out.below hb)
                        clear RY
                        have RY := RY'
                        clear RY'
                        clear hb HB22
                        have RZ := Lib.hid (hs.rd (cap := c23))
                        clear hs
                        go_wp2_with fail
                        refine (sameR true (SM.out) _ _ _ RZ.out RY.out).mono ?_
                        rintro _ w24 ⟨rfl, hb⟩
                        have HB24 := Lib.hid (HB23.out.trans (hb.mono HB23.out.size))
                        have RC1' := Lib.hid (RC1.out.below hb)
                        clear RC1
                        have RC1 := RC1'
                        clear RC1'
                        have RD1' := Lib.hid (RD1.out.below hb)
                        clear RD1
                        have RD1 := RD1'
                        clear RD1'
                        have RX' := Lib.hid (RX.out.below hb)
                        clear RX
                        have RX := RX'
                        clear RX'
                        have RY' := Lib.hid (RY.out.below hb)
                        clear RY
                        have RY := RY'
                        clear RY'
                        have RZ' := Lib.hid (RZ.out.below hb)
                        clear RZ
                        have RZ := RZ'
                        clear RZ'
                        clear hb HB23
                        clear hcell hbs
                        go_wp2
                        go_roundg (3 - (1 + 1))
                        case measure => omega
                        case rel => exact ⟨1 + 1, rfl, by omega, by omega, HB24.out⟩
                      · have hltz : ((2 : Nat) : Int) < 3 := by omega
                        have hcell := (HB.out.cell (p := ⟨D, 2, none⟩) HZ.out).trans F2.out
                        have hbs := HB.out.size
                        have HRA1 := Lib.hid ((HRA.out.below HW.out).below HB.out)
                        have HRB1 := Lib.hid ((HRB.out.below HW.out).below HB.out)
                        have RC1 := Lib.hid (RC0.out.below HB.out)
                        have RD1 := Lib.hid (RD0.out.below HB.out)
                        go_wp2_with fail
                        refine (doneW GV.out _ _ _ HRA1.out HRB1.out).mono ?_
                        rintro _ w21 ⟨_, rfl, ⟨q21, g21, o21, c21, rfl, hs⟩, hb⟩
                        have HB21 := Lib.hid (HB.out.trans (hb.mono HB.out.size))
                        have RC1' := Lib.hid (RC1.out.below hb)
                        clear RC1
                        have RC1 := RC1'
                        clear RC1'
                        have RD1' := Lib.hid (RD1.out.below hb)
                        clear RD1
                        have RD1 := RD1'
                        clear RD1'
                        clear hb HB
                        have RX := Lib.hid (hs.rd (cap := c21))
                        clear hs
                        go_wp2_with fail
                        refine (doneW GV'.out _ _ _ RC1.out RD1.out).mono ?_
                        rintro _ w22 ⟨_, rfl, ⟨q22, g22, o22, c22, rfl, hs⟩, hb⟩
                        have HB22 := Lib.hid (HB21.out.trans (hb.mono HB21.out.size))
                        have RC1' := Lib.hid (RC1.out.below hb)
                        clear RC1
                        have RC1 := RC1'
                        clear RC1'
                        have RD1' := Lib.hid (RD1.out.below hb)
                        clear RD1
                        have RD1 := RD1'
                        clear RD1'
                        have RX' := Lib.hid (RX.out.below hb)
                        clear RX
                        have RX := RX'
                        clear RX'
                        clear hb HB21
                        have RY := Lib.hid (hs.rd (cap := c22))
                        clear hs
                        go_wp2_with fail
                        refine (shiftR GV.out.vl lV t0 t1 _ _ RX.out).mono ?_
                        rintro _ w23 ⟨q23, g23, c23, rfl, hs, hb⟩
                        have HB23 := Lib.hid (HB22.out.trans (hb.mono HB22.out.size))
                        have RC1' := Lib.hid (RC1.out.below hb)
                        clear RC1
                        have RC1 := RC1'
                        clear RC1'
                        have RD1' := Lib.hid (RD1.out.below hb)
                        clear RD1
                        have RD1 := RD1'
                        clear RD1'
                        have RX' := Lib.hid (RX.out.below hb)
                        clear RX
                        have RX := RX'
                        clear RX'
                        have RY' := Lib.hid (RY.out.below hb)
                        clear RY
                        have RY := RY'
                        clear RY'
                        clear hb HB22
                        have RZ := Lib.hid (hs.rd (cap := c23))
                        clear hs
                        go_wp2_with fail
                        refine (sameR true (SV.out) _ _ _ RZ.out RY.out).mono ?_
                        rintro _ w24 ⟨rfl, hb⟩
                        have HB24 := Lib.hid (HB23.out.trans (hb.mono HB23.out.size))
                        have RC1' := Lib.hid (RC1.out.below hb)
                        clear RC1
                        have RC1 := RC1'
                        clear RC1'
                        have RD1' := Lib.hid (RD1.out.below hb)
                        clear RD1
                        have RD1 := RD1'
                        clear RD1'
                        have RX' := Lib.hid (RX.out.below hb)
                        clear RX
                        have RX := RX'
                        clear RX'
                        have RY' := Lib.hid (RY.out.below hb)
                        clear RY
                        have RY := RY'
                        clear RY'
                        have RZ' := Lib.hid (RZ.out.below hb)
                        clear RZ
                        have RZ := RZ'
                        clear RZ'
                        clear hb HB23
                        clear hcell hbs
                        go_wp2
                        go_roundg (3 - (2 + 1))
                        case measure => omega
                        case rel => exact ⟨2 + 1, rfl, by omega, by omega, HB24.out⟩
                    · have hltz : ¬ (k : Int) < (3 : Int) := by omega
                      have HF := Lib.hid (HW.out.trans (HB.out.mono HW.out.size))
                      go_wp2
                      go_ret
                      exact ⟨rfl, HF.out⟩
            · have z2 : (400 : Int) < (len' : Int) := by omega
              have HB0 : Hid (RowKit.Below w.heap.size w w) := Below.refl _ _
              go_enter Try.func8, Try.ntmps8
              go_wp2_with fail
              refine (head_any _).mono ?_
              rintro _ w1 ⟨rfl, hb⟩
              have HB1 := Lib.hid (HB0.out.trans (hb.mono HB0.out.size))
              clear hb HB0
              go_wp2_with fail
              refine (KA.out _ HB1.out).mono ?_
              rintro _ w2 ⟨rfl, hb⟩
              have HB2 := Lib.hid (HB1.out.trans (hb.mono HB1.out.size))
              clear hb HB1
              go_wp2_with fail
              refine (KB.out _ HB2.out).mono ?_
              rintro _ w3 ⟨rfl, hb⟩
              have HB3 := Lib.hid (HB2.out.trans (hb.mono HB2.out.size))
              clear hb HB2
              go_wp2
              go_ret
              exact ⟨by first | rfl | (simp; done), HB3.out⟩
          · have z1 : (400 : Int) < (len : Int) := by omega
            have HB0 : Hid (RowKit.Below w.heap.size w w) := Below.refl _ _
            go_enter Try.func8, Try.ntmps8
            go_wp2_with fail
            refine (head_any _).mono ?_
            rintro _ w1 ⟨rfl, hb⟩
            have HB1 := Lib.hid (HB0.out.trans (hb.mono HB0.out.size))
            clear hb HB0
            go_wp2_with fail
            refine (KA.out _ HB1.out).mono ?_
            rintro _ w2 ⟨rfl, hb⟩
            have HB2 := Lib.hid (HB1.out.trans (hb.mono HB1.out.size))
            clear hb HB1
            go_wp2_with fail
            refine (KB.out _ HB2.out).mono ?_
            rintro _ w3 ⟨rfl, hb⟩
            have HB3 := Lib.hid (HB2.out.trans (hb.mono HB2.out.size))
            clear hb HB2
            go_wp2
            go_ret
            exact ⟨by first | rfl | (simp; done), HB3.out⟩
        · have t1b : 36524 < t := by omega
          have HB0 : Hid (RowKit.Below w.heap.size w w) := Below.refl _ _
          go_enter Try.func8, Try.ntmps8
          go_wp2_with fail
          refine (head_any _).mono ?_
          rintro _ w1 ⟨rfl, hb⟩
          have HB1 := Lib.hid (HB0.out.trans (hb.mono HB0.out.size))
          clear hb HB0
          go_wp2_with fail
          refine (KA.out _ HB1.out).mono ?_
          rintro _ w2 ⟨rfl, hb⟩
          have HB2 := Lib.hid (HB1.out.trans (hb.mono HB1.out.size))
          clear hb HB1
          go_wp2_with fail
          refine (KB.out _ HB2.out).mono ?_
          rintro _ w3 ⟨rfl, hb⟩
          have HB3 := Lib.hid (HB2.out.trans (hb.mono HB2.out.size))
          clear hb HB2
          go_wp2
          go_ret
          exact ⟨by first | rfl | (simp; done), HB3.out⟩
      · have t0b : t < -36524 := by omega
        have HB0 : Hid (RowKit.Below w.heap.size w w) := Below.refl _ _
        go_enter Try.func8, Try.ntmps8
        go_wp2_with fail
        refine (head_any _).mono ?_
        rintro _ w1 ⟨rfl, hb⟩
        have HB1 := Lib.hid (HB0.out.trans (hb.mono HB0.out.size))
        clear hb HB0
        go_wp2_with fail
        refine (KA.out _ HB1.out).mono ?_
        rintro _ w2 ⟨rfl, hb⟩
        have HB2 := Lib.hid (HB1.out.trans (hb.mono HB1.out.size))
        clear hb HB1
        go_wp2_with fail
        refine (KB.out _ HB2.out).mono ?_
        rintro _ w3 ⟨rfl, hb⟩
        have HB3 := Lib.hid (HB2.out.trans (hb.mono HB2.out.size))
        clear hb HB2
        go_wp2
        go_ret
        exact ⟨by first | rfl | (simp; done), HB3.out⟩
end Go.Proofs.Ytomcngnfdflkkaa
