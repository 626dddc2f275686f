/-
  The walk of the law on the laws of sets.
-/
import Derived.Test.YtomcngnfdflkkaaSLaw
namespace Go.Proofs.Ytomcngnfdflkkaa
open Go.RowKit Spn Go.Sort

set_option maxRecDepth 100000 in
set_option maxHeartbeats 8000000 in
theorem laws_law (a : List (Int × Int)) (p : Option Addr) (bl off cap len : Nat) (b : List (Int × Int)) (p' : Option Addr) (bl' off' cap' len' : Nat) (c : List (Int × Int)) (p'' : Option Addr) (bl'' off'' cap'' len'' : Nat) (w : World) (hS : Sl w p bl off len a) (hS' : Sl w p' bl' off' len' b) (hS'' : Sl w p'' bl'' off'' len'' c) :
    Calls Try.prog 6 #[.slice p len cap, .slice p' len' cap', .slice p'' len'' cap''] w fun e w' => e = .returned (.bool true) ∧ RowKit.Below w.heap.size w w' := by
  have HL := Lib.hid hS.1
  have HL' := Lib.hid hS'.1
  have HL'' := Lib.hid hS''.1
  have hm := hS.2.2.2.2.1
  have hm' := hS'.2.2.2.2.1
  have hm'' := hS''.2.2.2.2.1
  cases hva : vl a with
  | false =>
    have KA := Lib.hid (fun w' (h : RowKit.Below w.heap.size w w') => valid_b a p bl off cap len false hva w' (hS.below h))
    clear hS hS' hS'' hva
    have HB0 : Hid (RowKit.Below w.heap.size w w) := Below.refl _ _
    go_enter Try.func6, Try.ntmps6
    go_wp2_with fail
    refine (head_any _).mono ?_
    rintro _ w1 ⟨rfl, hb⟩
    have HB1 := Lib.hid (HB0.out.trans (hb.mono HB0.out.size))
    clear hb HB0
    go_wp2_with fail
    refine (KA.out _ HB1.out).mono ?_
    rintro _ w2 ⟨rfl, hb⟩
    have HB2 := Lib.hid (HB1.out.trans (hb.mono HB1.out.size))
    clear hb HB1
    go_wp2
    go_ret
    exact ⟨by first | rfl | (simp; done), HB2.out⟩
  | true =>
    have KA := Lib.hid (fun w' (h : RowKit.Below w.heap.size w w') => valid_b a p bl off cap len true hva w' (hS.below h))
    have HVA := Lib.hid (vl_iff.1 hva)
    cases hvb : vl b with
    | false =>
      have KB := Lib.hid (fun w' (h : RowKit.Below w.heap.size w w') => valid_b b p' bl' off' cap' len' false hvb w' (hS'.below h))
      clear hS hS' hS'' hva hvb
      have HB0 : Hid (RowKit.Below w.heap.size w w) := Below.refl _ _
      go_enter Try.func6, Try.ntmps6
      go_wp2_with fail
      refine (head_any _).mono ?_
      rintro _ w1 ⟨rfl, hb⟩
      have HB1 := Lib.hid (HB0.out.trans (hb.mono HB0.out.size))
      clear hb HB0
      go_wp2_with fail
      refine (KA.out _ HB1.out).mono ?_
      rintro _ w2 ⟨rfl, hb⟩
      have HB2 := Lib.hid (HB1.out.trans (hb.mono HB1.out.size))
      clear hb HB1
      go_wp2_with fail
      refine (KB.out _ HB2.out).mono ?_
      rintro _ w3 ⟨rfl, hb⟩
      have HB3 := Lib.hid (HB2.out.trans (hb.mono HB2.out.size))
      clear hb HB2
      go_wp2
      go_ret
      exact ⟨by first | rfl | (simp; done), HB3.out⟩
    | true =>
      have KB := Lib.hid (fun w' (h : RowKit.Below w.heap.size w w') => valid_b b p' bl' off' cap' len' true hvb w' (hS'.below h))
      have HVB := Lib.hid (vl_iff.1 hvb)
      cases hvc : vl c with
      | false =>
        have KC := Lib.hid (fun w' (h : RowKit.Below w.heap.size w w') => valid_b c p'' bl'' off'' cap'' len'' false hvc w' (hS''.below h))
        clear hS hS' hS'' hva hvb hvc
        have HB0 : Hid (RowKit.Below w.heap.size w w) := Below.refl _ _
        go_enter Try.func6, Try.ntmps6
        go_wp2_with fail
        refine (head_any _).mono ?_
        rintro _ w1 ⟨rfl, hb⟩
        have HB1 := Lib.hid (HB0.out.trans (hb.mono HB0.out.size))
        clear hb HB0
        go_wp2_with fail
        refine (KA.out _ HB1.out).mono ?_
        rintro _ w2 ⟨rfl, hb⟩
        have HB2 := Lib.hid (HB1.out.trans (hb.mono HB1.out.size))
        clear hb HB1
        go_wp2_with fail
        refine (KB.out _ HB2.out).mono ?_
        rintro _ w3 ⟨rfl, hb⟩
        have HB3 := Lib.hid (HB2.out.trans (hb.mono HB2.out.size))
        clear hb HB2
        go_wp2_with fail
        refine (KC.out _ HB3.out).mono ?_
        rintro _ w4 ⟨rfl, hb⟩
        have HB4 := Lib.hid (HB3.out.trans (hb.mono HB3.out.size))
        clear hb HB3
        go_wp2
        go_ret
        exact ⟨by first | rfl | (simp; done), HB4.out⟩
      | true =>
        have KC := Lib.hid (fun w' (h : RowKit.Below w.heap.size w w') => valid_b c p'' bl'' off'' cap'' len'' true hvc w' (hS''.below h))
        have HVC := Lib.hid (vl_iff.1 hvc)
        have HRA := Lib.hid (hS.rd (cap := cap))
        have HRB := Lib.hid (hS'.rd (cap := cap'))
        have HRC := Lib.hid (hS''.rd (cap := cap''))
        clear hS hS' hS'' hva hvb hvc
        by_cases h1 : len ≤ 200
        · by_cases h2 : len' ≤ 200
          · by_cases h3 : len'' ≤ 200
            · have z1 : decide ((200 : Int) < (len : Int)) = false := decide_eq_false (by omega)
              have z2 : decide ((200 : Int) < (len' : Int)) = false := decide_eq_false (by omega)
              have z3 : ¬ (200 : Int) < (len'' : Int) := by omega
              have z3' : decide ((200 : Int) < (len'' : Int)) = false := decide_eq_false (by omega)
              have hla : a.length ≤ 200 := by have := HL.out; omega
              have hlb : b.length ≤ 200 := by have := HL'.out; omega
              have hlc : c.length ≤ 200 := by have := HL''.out; omega
              obtain ⟨Nab, gab⟩ := good opU HVA.out HVB.out (by omega)
              have lab := gab.len
              obtain ⟨Nba, gba⟩ := good opU HVB.out HVA.out (by omega)
              have lba := gba.len
              obtain ⟨Nbc, gbc⟩ := good opU HVB.out HVC.out (by omega)
              have lbc := gbc.len
              obtain ⟨Nu1, gu1⟩ := good opU gab.vl HVC.out (by omega)
              have lu1 := gu1.len
              obtain ⟨Nu2, gu2⟩ := good opU HVA.out gbc.vl (by omega)
              have lu2 := gu2.len
              obtain ⟨Nu3, gu3⟩ := good opU HVA.out HVA.out (by omega)
              have lu3 := gu3.len
              obtain ⟨Nx, gx⟩ := good opM HVA.out HVB.out (by omega)
              have lx := gx.len
              obtain ⟨Ny, gy⟩ := good opM HVB.out HVA.out (by omega)
              have ly := gy.len
              obtain ⟨Nz, gz⟩ := good opM HVB.out HVC.out (by omega)
              have lz := gz.len
              obtain ⟨Nm1, gm1⟩ := good opM gx.vl HVC.out (by omega)
              have lm1 := gm1.len
              obtain ⟨Nm2, gm2⟩ := good opM HVA.out gz.vl (by omega)
              have lm2 := gm2.len
              obtain ⟨Nm3, gm3⟩ := good opM HVA.out HVA.out (by omega)
              have lm3 := gm3.len
              obtain ⟨Nac, gac⟩ := good opM HVA.out HVC.out (by omega)
              have lac := gac.len
              obtain ⟨Nd1, gd1⟩ := good opM HVA.out gbc.vl (by omega)
              have ld1 := gd1.len
              obtain ⟨Nd2, gd2⟩ := good opU gx.vl gac.vl (by omega)
              have ld2 := gd2.len
              obtain ⟨Nw1, gw1⟩ := good opW HVA.out gbc.vl (by omega)
              have lw1 := gw1.len
              obtain ⟨Nw2, gw2⟩ := good opW HVA.out HVB.out (by omega)
              have lw2 := gw2.len
              obtain ⟨Nw3, gw3⟩ := good opW gw2.vl HVC.out (by omega)
              have lw3 := gw3.len
              have Sabba : Hid (decide (Nab = Nba) = true) := same_of gab.vl gba.vl fun d => by simp only [gab.cov, gba.cov, kU]; cases cov a d <;> cases cov b d <;> cases cov c d <;> rfl
              have Su1u2 : Hid (decide (Nu1 = Nu2) = true) := same_of gu1.vl gu2.vl fun d => by simp only [gu1.cov, gab.cov, gu2.cov, gbc.cov, kU]; cases cov a d <;> cases cov b d <;> cases cov c d <;> rfl
              have Su3a : Hid (decide (Nu3 = a) = true) := same_of gu3.vl HVA.out fun d => by simp only [gu3.cov, kU]; cases cov a d <;> cases cov b d <;> cases cov c d <;> rfl
              have Sxy : Hid (decide (Nx = Ny) = true) := same_of gx.vl gy.vl fun d => by simp only [gx.cov, gy.cov, kM]; cases cov a d <;> cases cov b d <;> cases cov c d <;> rfl
              have Sm1m2 : Hid (decide (Nm1 = Nm2) = true) := same_of gm1.vl gm2.vl fun d => by simp only [gm1.cov, gx.cov, gm2.cov, gz.cov, kM]; cases cov a d <;> cases cov b d <;> cases cov c d <;> rfl
              have Sm3a : Hid (decide (Nm3 = a) = true) := same_of gm3.vl HVA.out fun d => by simp only [gm3.cov, kM]; cases cov a d <;> cases cov b d <;> cases cov c d <;> rfl
              have Sd1d2 : Hid (decide (Nd1 = Nd2) = true) := same_of gd1.vl gd2.vl fun d => by simp only [gd1.cov, gbc.cov, gd2.cov, gx.cov, gac.cov, kM, kU]; cases cov a d <;> cases cov b d <;> cases cov c d <;> rfl
              have Sw1w3 : Hid (decide (Nw1 = Nw3) = true) := same_of gw1.vl gw3.vl fun d => by simp only [gw1.cov, gbc.cov, gw3.cov, gw2.cov, kU, kW]; cases cov a d <;> cases cov b d <;> cases cov c d <;> rfl
              have Gab := Lib.hid gab
              have Gba := Lib.hid gba
              have Gbc := Lib.hid gbc
              have Gu1 := Lib.hid gu1
              have Gu2 := Lib.hid gu2
              have Gu3 := Lib.hid gu3
              have Gx := Lib.hid gx
              have Gy := Lib.hid gy
              have Gz := Lib.hid gz
              have Gm1 := Lib.hid gm1
              have Gm2 := Lib.hid gm2
              have Gm3 := Lib.hid gm3
              have Gac := Lib.hid gac
              have Gd1 := Lib.hid gd1
              have Gd2 := Lib.hid gd2
              have Gw1 := Lib.hid gw1
              have Gw2 := Lib.hid gw2
              have Gw3 := Lib.hid gw3
              clear gab lab gba lba gbc lbc gu1 lu1 gu2 lu2 gu3 lu3 gx lx gy ly gz lz gm1 lm1 gm2 lm2 gm3 lm3 gac lac gd1 ld1 gd2 ld2 gw1 lw1 gw2 lw2 gw3 lw3
              clear hla hlb hlc
              have HB0 : Hid (RowKit.Below w.heap.size w w) := Below.refl _ _
              go_enter Try.func6, Try.ntmps6
              go_wp2_with fail
              refine (head_any _).mono ?_
              rintro _ w1 ⟨rfl, hb⟩
              have HB1 := Lib.hid (HB0.out.trans (hb.mono HB0.out.size))
              clear hb HB0
              go_wp2_with fail
              refine (KA.out _ HB1.out).mono ?_
              rintro _ w2 ⟨rfl, hb⟩
              have HB2 := Lib.hid (HB1.out.trans (hb.mono HB1.out.size))
              clear hb HB1
              go_wp2_with fail
              refine (KB.out _ HB2.out).mono ?_
              rintro _ w3 ⟨rfl, hb⟩
              have HB3 := Lib.hid (HB2.out.trans (hb.mono HB2.out.size))
              clear hb HB2
              go_wp2_with fail
              refine (KC.out _ HB3.out).mono ?_
              rintro _ w4 ⟨rfl, hb⟩
              have HB4 := Lib.hid (HB3.out.trans (hb.mono HB3.out.size))
              clear hb HB3
              go_wp2_with fail
              refine (doneU Gab.out _ _ _ (HRA.out.below HB4.out) (HRB.out.below HB4.out)).mono ?_
              rintro _ w5 ⟨_, rfl, ⟨q5, g5, o5, c5, rfl, hs⟩, hb⟩
              have HB5 := Lib.hid (HB4.out.trans (hb.mono HB4.out.size))
              clear hb HB4
              have Rab := Lib.hid (hs.rd (cap := c5))
              clear hs
              go_wp2_with fail
              refine (doneU Gba.out _ _ _ (HRB.out.below HB5.out) (HRA.out.below HB5.out)).mono ?_
              rintro _ w6 ⟨_, rfl, ⟨q6, g6, o6, c6, rfl, hs⟩, hb⟩
              have HB6 := Lib.hid (HB5.out.trans (hb.mono HB5.out.size))
              have Rab' := Lib.hid (Rab.out.below hb)
              clear Rab
              have Rab := Rab'
              clear Rab'
              clear hb HB5
              have Rba := Lib.hid (hs.rd (cap := c6))
              clear hs
              go_wp2_with fail
              refine (doneU Gbc.out _ _ _ (HRB.out.below HB6.out) (HRC.out.below HB6.out)).mono ?_
              rintro _ w7 ⟨_, rfl, ⟨q7, g7, o7, c7, rfl, hs⟩, hb⟩
              have HB7 := Lib.hid (HB6.out.trans (hb.mono HB6.out.size))
              have Rab' := Lib.hid (Rab.out.below hb)
              clear Rab
              have Rab := Rab'
              clear Rab'
              have Rba' := Lib.hid (Rba.out.below hb)
              clear Rba
              have Rba := Rba'
              clear Rba'
              clear hb HB6
              have Rbc := Lib.hid (hs.rd (cap := c7))
              clear hs
              go_wp2_with fail
              refine (doneU Gu1.out _ _ _ Rab.out (HRC.out.below HB7.out)).mono ?_
              rintro _ w8 ⟨_, rfl, ⟨q8, g8, o8, c8, rfl, hs⟩, hb⟩
              have HB8 := Lib.hid (HB7.out.trans (hb.mono HB7.out.size))
              have Rab' := Lib.hid (Rab.out.below hb)
              clear Rab
              have Rab := Rab'
              clear Rab'
              have Rba' := Lib.hid (Rba.out.below hb)
              clear Rba
              have Rba := Rba'
              clear Rba'
              have Rbc' := Lib.hid (Rbc.out.below hb)
              clear Rbc
              have Rbc := Rbc'
              clear Rbc'
              clear hb HB7
              have Ru1 := Lib.hid (hs.rd (cap := c8))
              clear hs
              go_wp2_with fail
              refine (doneU Gu2.out _ _ _ (HRA.out.below HB8.out) Rbc.out).mono ?_
              rintro _ w9 ⟨_, rfl, ⟨q9, g9, o9, c9, rfl, hs⟩, hb⟩
              have HB9 := Lib.hid (HB8.out.trans (hb.mono HB8.out.size))
              have Rab' := Lib.hid (Rab.out.below hb)
              clear Rab
              have Rab := Rab'
              clear Rab'
              have Rba' := Lib.hid (Rba.out.below hb)
              clear Rba
              have Rba := Rba'
              clear Rba'
              have Rbc' := Lib.hid (Rbc.out.below hb)
              clear Rbc
              have Rbc := Rbc'
              clear Rbc'
              have Ru1' := Lib.hid (Ru1.out.below hb)
              clear Ru1
              have Ru1 := Ru1'
              clear Ru1'
              clear hb HB8
              have Ru2 := Lib.hid (hs.rd (cap := c9))
              clear hs
              go_wp2_with fail
              refine (doneU Gu3.out _ _ _ (HRA.out.below HB9.out) (HRA.out.below HB9.out)).mono ?_
              rintro _ w10 ⟨_, rfl, ⟨q10, g10, o10, c10, rfl, hs⟩, hb⟩
              have HB10 := Lib.hid (HB9.out.trans (hb.mono HB9.out.size))
              have Rab' := Lib.hid (Rab.out.below hb)
              clear Rab
              have Rab := Rab'
              clear Rab'
              have Rba' := Lib.hid (Rba.out.below hb)
              clear Rba
              have Rba := Rba'
              clear Rba'
              have Rbc' := Lib.hid (Rbc.out.below hb)
              clear Rbc
              have Rbc := Rbc'
              clear Rbc'
              have Ru1' := Lib.hid (Ru1.out.below hb)
              clear Ru1
              have Ru1 := Ru1'
              clear Ru1'
              have Ru2' := Lib.hid (Ru2.out.below hb)
              clear Ru2
              have Ru2 := Ru2'
              clear Ru2'
              clear hb HB9
              have Ru3 := Lib.hid (hs.rd (cap := c10))
              clear hs
              go_wp2_with fail
              refine (sameR true (Sabba.out) _ _ _ Rab.out Rba.out).mono ?_
              rintro _ w11 ⟨rfl, hb⟩
              have HB11 := Lib.hid (HB10.out.trans (hb.mono HB10.out.size))
              have Rab' := Lib.hid (Rab.out.below hb)
              clear Rab
              have Rab := Rab'
              clear Rab'
              have Rba' := Lib.hid (Rba.out.below hb)
              clear Rba
              have Rba := Rba'
              clear Rba'
              have Rbc' := Lib.hid (Rbc.out.below hb)
              clear Rbc
              have Rbc := Rbc'
              clear Rbc'
              have Ru1' := Lib.hid (Ru1.out.below hb)
              clear Ru1
              have Ru1 := Ru1'
              clear Ru1'
              have Ru2' := Lib.hid (Ru2.out.below hb)
              clear Ru2
              have Ru2 := Ru2'
              clear Ru2'
              have Ru3' := Lib.hid (Ru3.out.below hb)
              clear Ru3
              have Ru3 := Ru3'
              clear Ru3'
              clear hb HB10
              go_wp2_with fail
              refine (sameR true (Su1u2.out) _ _ _ Ru1.out Ru2.out).mono ?_
              rintro _ w12 ⟨rfl, hb⟩
              have HB12 := Lib.hid (HB11.out.trans (hb.mono HB11.out.size))
              have Rab' := Lib.hid (Rab.out.below hb)
              clear Rab
              have Rab := Rab'
              clear Rab'
              have Rba' := Lib.hid (Rba.out.below hb)
              clear Rba
              have Rba := Rba'
              clear Rba'
              have Rbc' := Lib.hid (Rbc.out.below hb)
              clear Rbc
              have Rbc := Rbc'
              clear Rbc'
              have Ru1' := Lib.hid (Ru1.out.below hb)
              clear Ru1
              have Ru1 := Ru1'
              clear Ru1'
              have Ru2' := Lib.hid (Ru2.out.below hb)
              clear Ru2
              have Ru2 := Ru2'
              clear Ru2'
              have Ru3' := Lib.hid (Ru3.out.below hb)
              clear Ru3
              have Ru3 := Ru3'
              clear Ru3'
              clear hb HB11
              go_wp2_with fail
              refine (sameR true (Su3a.out) _ _ _ Ru3.out (HRA.out.below HB12.out)).mono ?_
              rintro _ w13 ⟨rfl, hb⟩
              have HB13 := Lib.hid (HB12.out.trans (hb.mono HB12.out.size))
              have Rab' := Lib.hid (Rab.out.below hb)
              clear Rab
              have Rab := Rab'
              clear Rab'
              have Rba' := Lib.hid (Rba.out.below hb)
              clear Rba
              have Rba := Rba'
              clear Rba'
              have Rbc' := Lib.hid (Rbc.out.below hb)
              clear Rbc
              have Rbc := Rbc'
              clear Rbc'
              have Ru1' := Lib.hid (Ru1.out.below hb)
              clear Ru1
              have Ru1 := Ru1'
              clear Ru1'
              have Ru2' := Lib.hid (Ru2.out.below hb)
              clear Ru2
              have Ru2 := Ru2'
              clear Ru2'
              have Ru3' := Lib.hid (Ru3.out.below hb)
              clear Ru3
              have Ru3 := Ru3'
              clear Ru3'
              clear hb HB12
              go_wp2_with fail
              refine (doneM Gx.out _ _ _ (HRA.out.below HB13.out) (HRB.out.below HB13.out)).mono ?_
              rintro _ w14 ⟨_, rfl, ⟨q14, g14, o14, c14, rfl, hs⟩, hb⟩
              have HB14 := Lib.hid (HB13.out.trans (hb.mono HB13.out.size))
              have Rab' := Lib.hid (Rab.out.below hb)
              clear Rab
              have Rab := Rab'
              clear Rab'
              have Rba' := Lib.hid (Rba.out.below hb)
              clear Rba
              have Rba := Rba'
              clear Rba'
              have Rbc' := Lib.hid (Rbc.out.below hb)
              clear Rbc
              have Rbc := Rbc'
              clear Rbc'
              have Ru1' := Lib.hid (Ru1.out.below hb)
              clear Ru1
              have Ru1 := Ru1'
              clear Ru1'
              have Ru2' := Lib.hid (Ru2.out.below hb)
              clear Ru2
              have Ru2 := Ru2'
              clear Ru2'
              have Ru3' := Lib.hid (Ru3.out.below hb)
              clear Ru3
              have Ru3 := Ru3'
              clear Ru3'
              clear hb HB13
              have Rx := Lib.hid (hs.rd (cap := c14))
              clear hs
              go_wp2_with fail
              refine (doneM Gy.out _ _ _ (HRB.out.below HB14.out) (HRA.out.below HB14.out)).mono ?_
              rintro _ w15 ⟨_, rfl, ⟨q15, g15, o15, c15, rfl, hs⟩, hb⟩
              have HB15 := Lib.hid (HB14.out.trans (hb.mono HB14.out.size))
              have Rab' := Lib.hid (Rab.out.below hb)
              clear Rab
              have Rab := Rab'
              clear Rab'
              have Rba' := Lib.hid (Rba.out.below hb)
              clear Rba
              have Rba := Rba'
              clear Rba'
              have Rbc' := Lib.hid (Rbc.out.below hb)
              clear Rbc
              have Rbc := Rbc'
              clear Rbc'
              have Ru1' := Lib.hid (Ru1.out.below hb)
              clear Ru1
              have Ru1 := Ru1'
              clear Ru1'
              have Ru2' := Lib.hid (Ru2.out.below hb)
              clear Ru2
              have Ru2 := Ru2'
              clear Ru2'
              have Ru3' := Lib.hid (Ru3.out.below hb)
              clear Ru3
              have Ru3 := Ru3'
              clear Ru3'
              have Rx' := Lib.hid (Rx.out.below hb)
              clear Rx
              have Rx := Rx'
              clear Rx'
              clear hb HB14
              have Ry := Lib.hid (hs.rd (cap := c15))
              clear hs
              go_wp2_with fail
              refine (doneM Gz.out _ _ _ (HRB.out.below HB15.out) (HRC.out.below HB15.out)).mono ?_
              rintro _ w16 ⟨_, rfl, ⟨q16, g16, o16, c16, rfl, hs⟩, hb⟩
              have HB16 := Lib.hid (HB15.out.trans (hb.mono HB15.out.size))
              have Rab' := Lib.hid (Rab.out.below hb)
              clear Rab
              have Rab := Rab'
              clear Rab'
              have Rba' := Lib.hid (Rba.out.below hb)
              clear Rba
              have Rba := Rba'
              clear Rba'
              have Rbc' := Lib.hid (Rbc.out.below hb)
              clear Rbc
              have Rbc := Rbc'
              clear Rbc'
              have Ru1' := Lib.hid (Ru1.out.below hb)
              clear Ru1
              have Ru1 := Ru1'
              clear Ru1'
              have Ru2' := Lib.hid (Ru2.out.below hb)
              clear Ru2
              have Ru2 := Ru2'
              clear Ru2'
              have Ru3' := Lib.hid (Ru3.out.below hb)
              clear Ru3
              have Ru3 := Ru3'
              clear Ru3'
              have Rx' := Lib.hid (Rx.out.below hb)
              clear Rx
              have Rx := Rx'
              clear Rx'
              have Ry' := Lib.hid (Ry.out.below hb)
              clear Ry
              have Ry := Ry'
              clear Ry'
              clear hb HB15
              have Rz := Lib.hid (hs.rd (cap := c16))
              clear hs
              go_wp2_with fail
              refine (doneM Gm1.out _ _ _ Rx.out (HRC.out.below HB16.out)).mono ?_
              rintro _ w17 ⟨_, rfl, ⟨q17, g17, o17, c17, rfl, hs⟩, hb⟩
              have HB17 := Lib.hid (HB16.out.trans (hb.mono HB16.out.size))
              have Rab' := Lib.hid (Rab.out.below hb)
              clear Rab
              have Rab := Rab'
              clear Rab'
              have Rba' := Lib.hid (Rba.out.below hb)
              clear Rba
              have Rba := Rba'
              clear Rba'
              have Rbc' := Lib.hid (Rbc.out.below hb)
              clear Rbc
              have Rbc := Rbc'
              clear Rbc'
              have Ru1' := Lib.hid (Ru1.out.below hb)
              clear Ru1
              have Ru1 := Ru1'
              clear Ru1'
              have Ru2' := Lib.hid (Ru2.out.below hb)
              clear Ru2
              have Ru2 := Ru2'
              clear Ru2'
              have Ru3' := Lib.hid (Ru3.out.below hb)
              clear Ru3
              have Ru3 := Ru3'
              clear Ru3'
              have Rx' := Lib.hid (Rx.out.below hb)
              clear Rx
              have Rx := Rx'
              clear Rx'
              have Ry' := Lib.hid (Ry.out.below hb)
              clear Ry
              have Ry := Ry'
              clear Ry'
              have Rz' := Lib.hid (Rz.out.below hb)
              clear Rz
              have Rz := Rz'
              clear Rz'
              clear hb HB16
              have Rm1 := Lib.hid (hs.rd (cap := c17))
              clear hs
              go_wp2_with fail
              refine (doneM Gm2.out _ _ _ (HRA.out.below HB17.out) Rz.out).mono ?_
              rintro _ w18 ⟨_, rfl, ⟨q18, g18, o18, c18, rfl, hs⟩, hb⟩
              have HB18 := Lib.hid (HB17.out.trans (hb.mono HB17.out.size))
              have Rab' := Lib.hid (Rab.out.below hb)
              clear Rab
              have Rab := Rab'
              clear Rab'
              have Rba' := Lib.hid (Rba.out.below hb)
              clear Rba
              have Rba := Rba'
              clear Rba'
              have Rbc' := Lib.hid (Rbc.out.below hb)
              clear Rbc
              have Rbc := Rbc'
              clear Rbc'
              have Ru1' := Lib.hid (Ru1.out.below hb)
              clear Ru1
              have Ru1 := Ru1'
              clear Ru1'
              have Ru2' := Lib.hid (Ru2.out.below hb)
              clear Ru2
              have Ru2 := Ru2'
              clear Ru2'
              have Ru3' := Lib.hid (Ru3.out.below hb)
              clear Ru3
              have Ru3 := Ru3'
              clear Ru3'
              have Rx' := Lib.hid (Rx.out.below hb)
              clear Rx
              have Rx := Rx'
              clear Rx'
              have Ry' := Lib.hid (Ry.out.below hb)
              clear Ry
              have Ry := Ry'
              clear Ry'
              have Rz' := Lib.hid (Rz.out.below hb)
              clear Rz
              have Rz := Rz'
              clear Rz'
              have Rm1' := Lib.hid (Rm1.out.below hb)
              clear Rm1
              have Rm1 := Rm1'
              clear Rm1'
              clear hb HB17
              have Rm2 := Lib.hid (hs.rd (cap := c18))
              clear hs
              go_wp2_with fail
              refine (doneM Gm3.out _ _ _ (HRA.out.below HB18.out) (HRA.out.below HB18.out)).mono ?_
              rintro _ w19 ⟨_, rfl, ⟨q19, g19, o19, c19, rfl, hs⟩, hb⟩
              have HB19 := Lib.hid (HB18.out.trans (hb.mono HB18.out.size))
              have Rab' := Lib.hid (Rab.out.below hb)
              clear Rab
              have Rab := Rab'
              clear Rab'
              have Rba' := Lib.hid (Rba.out.below hb)
              clear Rba
              have Rba := Rba'
              clear Rba'
              have Rbc' := Lib.hid (Rbc.out.below hb)
              clear Rbc
              have Rbc := Rbc'
              clear Rbc'
              have Ru1' := Lib.hid (Ru1.out.below hb)
              clear Ru1
              have Ru1 := Ru1'
              clear Ru1'
              have Ru2' := Lib.hid (Ru2.out.below hb)
              clear Ru2
              have Ru2 := Ru2'
              clear Ru2'
              have Ru3' := Lib.hid (Ru3.out.below hb)
              clear Ru3
              have Ru3 := Ru3'
              clear Ru3'
              have Rx' := Lib.hid (Rx.out.below hb)
              clear Rx
              have Rx := Rx'
              clear Rx'
              have Ry' := Lib.hid (Ry.out.below hb)
              clear Ry
              have Ry := Ry'
              clear Ry'
              have Rz' := Lib.hid (Rz.out.below hb)
              clear Rz
              have Rz := Rz'
              clear Rz'
              have Rm1' := Lib.hid (Rm1.out.below hb)
              clear Rm1
              have Rm1 := Rm1'
              clear Rm1'
              have Rm2' := Lib.hid (Rm2.out.below hb)
              clear Rm2
              have Rm2 := Rm2'
              clear Rm2'
              clear hb HB18
              have Rm3 := Lib.hid (hs.rd (cap := c19))
              clear hs
              go_wp2_with fail
              refine (sameR true (Sxy.out) _ _ _ Rx.out Ry.out).mono ?_
              rintro _ w20 ⟨rfl, hb⟩
              have HB20 := Lib.hid (HB19.out.trans (hb.mono HB19.out.size))
              have Rab' := Lib.hid (Rab.out.below hb)
              clear Rab
              have Rab := Rab'
              clear Rab'
              have Rba' := Lib.hid (Rba.out.below hb)
              clear Rba
              have Rba := Rba'
              clear Rba'
              have Rbc' := Lib.hid (Rbc.out.below hb)
              clear Rbc
              have Rbc := Rbc'
              clear Rbc'
              have Ru1' := Lib.hid (Ru1.out.below hb)
              clear Ru1
              have Ru1 := Ru1'
              clear Ru1'
              have Ru2' := Lib.hid (Ru2.out.below hb)
              clear Ru2
              have Ru2 := Ru2'
              clear Ru2'
              have Ru3' := Lib.hid (Ru3.out.below hb)
              clear Ru3
              have Ru3 := Ru3'
              clear Ru3'
              have Rx' := Lib.hid (Rx.out.below hb)
              clear Rx
              have Rx := Rx'
              clear Rx'
              have Ry' := Lib.hid (Ry.out.below hb)
              clear Ry
              have Ry := Ry'
              clear Ry'
              have Rz' := Lib.hid (Rz.out.below hb)
              clear Rz
              have Rz := Rz'
              clear Rz'
              have Rm1' := Lib.hid (Rm1.out.below hb)
              clear Rm1
              have Rm1 := Rm1'
              clear Rm1'
              have Rm2' := Lib.hid (Rm2.out.below hb)
              clear Rm2
              have Rm2 := Rm2'
              clear Rm2'
              have Rm3' := Lib.hid (Rm3.out.below hb)
              clear Rm3
              have Rm3 := Rm3'
              clear Rm3'
              clear hb HB19
              go_wp2_with fail
              refine (sameR true (Sm1m2.out) _ _ _ Rm1.out Rm2.out).mono ?_
              rintro _ w21 ⟨rfl, hb⟩
              have HB21 := Lib.hid (HB20.out.trans (hb.mono HB20.out.size))
              have Rab' := Lib.hid (Rab.out.below hb)
              clear Rab
              have Rab := Rab'
              clear Rab'
              have Rba' := Lib.hid (Rba.out.below hb)
              clear Rba
              have Rba := Rba'
              clear Rba'
              have Rbc' := Lib.hid (Rbc.out.below hb)
              clear Rbc
              have Rbc := Rbc'
              clear Rbc'
              have Ru1' := Lib.hid (Ru1.out.below hb)
              clear Ru1
              have Ru1 := Ru1'
              clear Ru1'
              have Ru2' := Lib.hid (Ru2.out.below hb)
              clear Ru2
              have Ru2 := Ru2'
              clear Ru2'
              have Ru3' := Lib.hid (Ru3.out.below hb)
              clear Ru3
              have Ru3 := Ru3'
              clear Ru3'
              have Rx' := Lib.hid (Rx.out.below hb)
              clear Rx
              have Rx := Rx'
              clear Rx'
              have Ry' := Lib.hid (Ry.out.below hb)
              clear Ry
              have Ry := Ry'
              clear Ry'
              have Rz' := Lib.hid (Rz.out.below hb)
              clear Rz
              have Rz := Rz'
              clear Rz'
              have Rm1' := Lib.hid (Rm1.out.below hb)
              clear Rm1
              have Rm1 := Rm1'
              clear Rm1'
              have Rm2' := Lib.hid (Rm2.out.below hb)
              clear Rm2
              have Rm2 := Rm2'
              clear Rm2'
              have Rm3' := Lib.hid (Rm3.out.below hb)
              clear Rm3
              have Rm3 := Rm3'
              clear Rm3'
              clear hb HB20
              go_wp2_with fail
              refine (sameR true (Sm3a.out) _ _ _ Rm3.out (HRA.out.below HB21.out)).mono ?_
              rintro _ w22 ⟨rfl, hb⟩
              have HB22 := Lib.hid (HB21.out.trans (hb.mono HB21.out.size))
              have Rab' := Lib.hid (Rab.out.below hb)
              clear Rab
              have Rab := Rab'
              clear Rab'
              have Rba' := Lib.hid (Rba.out.below hb)
              clear Rba
              have Rba := Rba'
              clear Rba'
              have Rbc' := Lib.hid (Rbc.out.below hb)
              clear Rbc
              have Rbc := Rbc'
              clear Rbc'
              have Ru1' := Lib.hid (Ru1.out.below hb)
              clear Ru1
              have Ru1 := Ru1'
              clear Ru1'
              have Ru2' := Lib.hid (Ru2.out.below hb)
              clear Ru2
              have Ru2 := Ru2'
              clear Ru2'
              have Ru3' := Lib.hid (Ru3.out.below hb)
              clear Ru3
              have Ru3 := Ru3'
              clear Ru3'
              have Rx' := Lib.hid (Rx.out.below hb)
              clear Rx
              have Rx := Rx'
              clear Rx'
              have Ry' := Lib.hid (Ry.out.below hb)
              clear Ry
              have Ry := Ry'
              clear Ry'
              have Rz' := Lib.hid (Rz.out.below hb)
              clear Rz
              have Rz := Rz'
              clear Rz'
              have Rm1' := Lib.hid (Rm1.out.below hb)
              clear Rm1
              have Rm1 := Rm1'
              clear Rm1'
              have Rm2' := Lib.hid (Rm2.out.below hb)
              clear Rm2
              have Rm2 := Rm2'
              clear Rm2'
              have Rm3' := Lib.hid (Rm3.out.below hb)
              clear Rm3
              have Rm3 := Rm3'
              clear Rm3'
              clear hb HB21
              go_wp2_with fail
              refine (doneM Gac.out _ _ _ (HRA.out.below HB22.out) (HRC.out.below HB22.out)).mono ?_
              rintro _ w23 ⟨_, rfl, ⟨q23, g23, o23, c23, rfl, hs⟩, hb⟩
              have HB23 := Lib.hid (HB22.out.trans (hb.mono HB22.out.size))
              have Rab' := Lib.hid (Rab.out.below hb)
              clear Rab
              have Rab := Rab'
              clear Rab'
              have Rba' := Lib.hid (Rba.out.below hb)
              clear Rba
              have Rba := Rba'
              clear Rba'
              have Rbc' := Lib.hid (Rbc.out.below hb)
              clear Rbc
              have Rbc := Rbc'
              clear Rbc'
              have Ru1' := Lib.hid (Ru1.out.below hb)
              clear Ru1
              have Ru1 := Ru1'
              clear Ru1'
              have Ru2' := Lib.hid (Ru2.out.below hb)
              clear Ru2
              have Ru2 := Ru2'
              clear Ru2'
              have Ru3' := Lib.hid (Ru3.out.below hb)
              clear Ru3
              have Ru3 := Ru3'
              clear Ru3'
              have Rx' := Lib.hid (Rx.out.below hb)
              clear Rx
              have Rx := Rx'
              clear Rx'
              have Ry' := Lib.hid (Ry.out.below hb)
              clear Ry
              have Ry := Ry'
              clear Ry'
              have Rz' := Lib.hid (Rz.out.below hb)
              clear Rz
              have Rz := Rz'
              clear Rz'
              have Rm1' := Lib.hid (Rm1.out.below hb)
              clear Rm1
              have Rm1 := Rm1'
              clear Rm1'
              have Rm2' := Lib.hid (Rm2.out.below hb)
              clear Rm2
              have Rm2 := Rm2'
              clear Rm2'
              have Rm3' := Lib.hid (Rm3.out.below hb)
              clear Rm3
              have Rm3 := Rm3'
              clear Rm3'
              clear hb HB22
              have Rac := Lib.hid (hs.rd (cap := c23))
              clear hs
              go_wp2_with fail
              refine (doneM Gd1.out _ _ _ (HRA.out.below HB23.out) Rbc.out).mono ?_
              rintro _ w24 ⟨_, rfl, ⟨q24, g24, o24, c24, rfl, hs⟩, hb⟩
              have HB24 := Lib.hid (HB23.out.trans (hb.mono HB23.out.size))
              have Rab' := Lib.hid (Rab.out.below hb)
              clear Rab
              have Rab := Rab'
              clear Rab'
              have Rba' := Lib.hid (Rba.out.below hb)
              clear Rba
              have Rba := Rba'
              clear Rba'
              have Rbc' := Lib.hid (Rbc.out.below hb)
              clear Rbc
              have Rbc := Rbc'
              clear Rbc'
              have Ru1' := Lib.hid (Ru1.out.below hb)
              clear Ru1
              have Ru1 := Ru1'
              clear Ru1'
              have Ru2' := Lib.hid (Ru2.out.below hb)
              clear Ru2
              have Ru2 := Ru2'
              clear Ru2'
              have Ru3' := Lib.hid (Ru3.out.below hb)
              clear Ru3
              have Ru3 := Ru3'
              clear Ru3'
              have Rx' := Lib.hid (Rx.out.below hb)
              clear Rx
              have Rx := Rx'
              clear Rx'
              have Ry' := Lib.hid (Ry.out.below hb)
              clear Ry
              have Ry := Ry'
              clear Ry'
              have Rz' := Lib.hid (Rz.out.below hb)
              clear Rz
              have Rz := Rz'
              clear Rz'
              have Rm1' := Lib.hid (Rm1.out.below hb)
              clear Rm1
              have Rm1 := Rm1'
              clear Rm1'
              have Rm2' := Lib.hid (Rm2.out.below hb)
              clear Rm2
              have Rm2 := Rm2'
              clear Rm2'
              have Rm3' := Lib.hid (Rm3.out.below hb)
              clear Rm3
              have Rm3 := Rm3'
              clear Rm3'
              have Rac' := Lib.hid (Rac.out.below hb)
              clear Rac
              have Rac := Rac'
              clear Rac'
              clear hb HB23
              have Rd1 := Lib.hid (hs.rd (cap := c24))
              clear hs
              go_wp2_with fail
              refine (doneU Gd2.out _ _ _ Rx.out Rac.out).mono ?_
              rintro _ w25 ⟨_, rfl, ⟨q25, g25, o25, c25, rfl, hs⟩, hb⟩
              have HB25 := Lib.hid (HB24.out.trans (hb.mono HB24.out.size))
              have Rab' := Lib.hid (Rab.out.below hb)
              clear Rab
              have Rab := Rab'
              clear Rab'
              have Rba' := Lib.hid (Rba.out.below hb)
              clear Rba
              have Rba := Rba'
              clear Rba'
              have Rbc' := Lib.hid (Rbc.out.below hb)
              clear Rbc
              have Rbc := Rbc'
              clear Rbc'
              have Ru1' := Lib.hid (Ru1.out.below hb)
              clear Ru1
              have Ru1 := Ru1'
              clear Ru1'
              have Ru2' := Lib.hid (Ru2.out.below hb)
              clear Ru2
              have Ru2 := Ru2'
              clear Ru2'
              have Ru3' := Lib.hid (Ru3.out.below hb)
              clear Ru3
              have Ru3 := Ru3'
              clear Ru3'
              have Rx' := Lib.hid (Rx.out.below hb)
              clear Rx
              have Rx := Rx'
              clear Rx'
              have Ry' := Lib.hid (Ry.out.below hb)
              clear Ry
              have Ry := Ry'
              clear Ry'
              have Rz' := Lib.hid (Rz.out.below hb)
              clear Rz
              have Rz := Rz'
              clear Rz'
              have Rm1' := Lib.hid (Rm1.out.below hb)
              clear Rm1
              have Rm1 := Rm1'
              clear Rm1'
              have Rm2' := Lib.hid (Rm2.out.below hb)
              clear Rm2
              have Rm2 := Rm2'
              clear Rm2'
              have Rm3' := Lib.hid (Rm3.out.below hb)
              clear Rm3
              have Rm3 := Rm3'
              clear Rm3'
              have Rac' := Lib.hid (Rac.out.below hb)
              clear Rac
              have Rac := Rac'
              clear Rac'
              have Rd1' := Lib.hid (Rd1.out.below hb)
              clear Rd1
              have Rd1 := Rd1'
              clear Rd1'
              clear hb HB24
              have Rd2 := Lib.hid (hs.rd (cap := c25))
              clear hs
              go_wp2_with fail
              refine (sameR true (Sd1d2.out) _ _ _ Rd1.out Rd2.out).mono ?_
              rintro _ w26 ⟨rfl, hb⟩
              have HB26 := Lib.hid (HB25.out.trans (hb.mono HB25.out.size))
              have Rab' := Lib.hid (Rab.out.below hb)
              clear Rab
              have Rab := Rab'
              clear Rab'
              have Rba' := Lib.hid (Rba.out.below hb)
              clear Rba
              have Rba := Rba'
              clear Rba'
              have Rbc' := Lib.hid (Rbc.out.below hb)
              clear Rbc
              have Rbc := Rbc'
              clear Rbc'
              have Ru1' := Lib.hid (Ru1.out.below hb)
              clear Ru1
              have Ru1 := Ru1'
              clear Ru1'
              have Ru2' := Lib.hid (Ru2.out.below hb)
              clear Ru2
              have Ru2 := Ru2'
              clear Ru2'
              have Ru3' := Lib.hid (Ru3.out.below hb)
              clear Ru3
              have Ru3 := Ru3'
              clear Ru3'
              have Rx' := Lib.hid (Rx.out.below hb)
              clear Rx
              have Rx := Rx'
              clear Rx'
              have Ry' := Lib.hid (Ry.out.below hb)
              clear Ry
              have Ry := Ry'
              clear Ry'
              have Rz' := Lib.hid (Rz.out.below hb)
              clear Rz
              have Rz := Rz'
              clear Rz'
              have Rm1' := Lib.hid (Rm1.out.below hb)
              clear Rm1
              have Rm1 := Rm1'
              clear Rm1'
              have Rm2' := Lib.hid (Rm2.out.below hb)
              clear Rm2
              have Rm2 := Rm2'
              clear Rm2'
              have Rm3' := Lib.hid (Rm3.out.below hb)
              clear Rm3
              have Rm3 := Rm3'
              clear Rm3'
              have Rac' := Lib.hid (Rac.out.below hb)
              clear Rac
              have Rac := Rac'
              clear Rac'
              have Rd1' := Lib.hid (Rd1.out.below hb)
              clear Rd1
              have Rd1 := Rd1'
              clear Rd1'
              have Rd2' := Lib.hid (Rd2.out.below hb)
              clear Rd2
              have Rd2 := Rd2'
              clear Rd2'
              clear hb HB25
              go_wp2_with fail
              refine (doneW Gw1.out _ _ _ (HRA.out.below HB26.out) Rbc.out).mono ?_
              rintro _ w27 ⟨_, rfl, ⟨q27, g27, o27, c27, rfl, hs⟩, hb⟩
              have HB27 := Lib.hid (HB26.out.trans (hb.mono HB26.out.size))
              have Rab' := Lib.hid (Rab.out.below hb)
              clear Rab
              have Rab := Rab'
              clear Rab'
              have Rba' := Lib.hid (Rba.out.below hb)
              clear Rba
              have Rba := Rba'
              clear Rba'
              have Rbc' := Lib.hid (Rbc.out.below hb)
              clear Rbc
              have Rbc := Rbc'
              clear Rbc'
              have Ru1' := Lib.hid (Ru1.out.below hb)
              clear Ru1
              have Ru1 := Ru1'
              clear Ru1'
              have Ru2' := Lib.hid (Ru2.out.below hb)
              clear Ru2
              have Ru2 := Ru2'
              clear Ru2'
              have Ru3' := Lib.hid (Ru3.out.below hb)
              clear Ru3
              have Ru3 := Ru3'
              clear Ru3'
              have Rx' := Lib.hid (Rx.out.below hb)
              clear Rx
              have Rx := Rx'
              clear Rx'
              have Ry' := Lib.hid (Ry.out.below hb)
              clear Ry
              have Ry := Ry'
              clear Ry'
              have Rz' := Lib.hid (Rz.out.below hb)
              clear Rz
              have Rz := Rz'
              clear Rz'
              have Rm1' := Lib.hid (Rm1.out.below hb)
              clear Rm1
              have Rm1 := Rm1'
              clear Rm1'
              have Rm2' := Lib.hid (Rm2.out.below hb)
              clear Rm2
              have Rm2 := Rm2'
              clear Rm2'
              have Rm3' := Lib.hid (Rm3.out.below hb)
              clear Rm3
              have Rm3 := Rm3'
              clear Rm3'
              have Rac' := Lib.hid (Rac.out.below hb)
              clear Rac
              have Rac := Rac'
              clear Rac'
              have Rd1' := Lib.hid (Rd1.out.below hb)
              clear Rd1
              have Rd1 := Rd1'
              clear Rd1'
              have Rd2' := Lib.hid (Rd2.out.below hb)
              clear Rd2
              have Rd2 := Rd2'
              clear Rd2'
              clear hb HB26
              have Rw1 := Lib.hid (hs.rd (cap := c27))
              clear hs
              go_wp2_with fail
              refine (doneW Gw2.out _ _ _ (HRA.out.below HB27.out) (HRB.out.below HB27.out)).mono ?_
              rintro _ w28 ⟨_, rfl, ⟨q28, g28, o28, c28, rfl, hs⟩, hb⟩
              have HB28 := Lib.hid (HB27.out.trans (hb.mono HB27.out.size))
              have Rab' := Lib.hid (Rab.out.below hb)
              clear Rab
              have Rab := Rab'
              clear Rab'
              have Rba' := Lib.hid (Rba.out.below hb)
              clear Rba
              have Rba := Rba'
              clear Rba'
              have Rbc' := Lib.hid (Rbc.out.below hb)
              clear Rbc
              have Rbc := Rbc'
              clear Rbc'
              have Ru1' := Lib.hid (Ru1.out.below hb)
              clear Ru1
              have Ru1 := Ru1'
              clear Ru1'
              have Ru2' := Lib.hid (Ru2.out.below hb)
              clear Ru2
              have Ru2 := Ru2'
              clear Ru2'
              have Ru3' := Lib.hid (Ru3.out.below hb)
              clear Ru3
              have Ru3 := Ru3'
              clear Ru3'
              have Rx' := Lib.hid (Rx.out.below hb)
              clear Rx
              have Rx := Rx'
              clear Rx'
              have Ry' := Lib.hid (Ry.out.below hb)
              clear Ry
              have Ry := Ry'
              clear Ry'
              have Rz' := Lib.hid (Rz.out.below hb)
              clear Rz
              have Rz := Rz'
              clear Rz'
              have Rm1' := Lib.hid (Rm1.out.below hb)
              clear Rm1
              have Rm1 := Rm1'
              clear Rm1'
              have Rm2' := Lib.hid (Rm2.out.below hb)
              clear Rm2
              have Rm2 := Rm2'
              clear Rm2'
              have Rm3' := Lib.hid (Rm3.out.below hb)
              clear Rm3
              have Rm3 := Rm3'
              clear Rm3'
              have Rac' := Lib.hid (Rac.out.below hb)
              clear Rac
              have Rac := Rac'
              clear Rac'
              have Rd1' := Lib.hid (Rd1.out.below hb)
              clear Rd1
              have Rd1 := Rd1'
              clear Rd1'
              have Rd2' := Lib.hid (Rd2.out.below hb)
              clear Rd2
              have Rd2 := Rd2'
              clear Rd2'
              have Rw1' := Lib.hid (Rw1.out.below hb)
              clear Rw1
              have Rw1 := Rw1'
              clear Rw1'
              clear hb HB27
              have Rw2 := Lib.hid (hs.rd (cap := c28))
              clear hs
              go_wp2_with fail
              refine (doneW Gw3.out _ _ _ Rw2.out (HRC.out.below HB28.out)).mono ?_
              rintro _ w29 ⟨_, rfl, ⟨q29, g29, o29, c29, rfl, hs⟩, hb⟩
              have HB29 := Lib.hid (HB28.out.trans (hb.mono HB28.out.size))
              have Rab' := Lib.hid (Rab.out.below hb)
              clear Rab
              have Rab := Rab'
              clear Rab'
              have Rba' := Lib.hid (Rba.out.below hb)
              clear Rba
              have Rba := Rba'
              clear Rba'
              have Rbc' := Lib.hid (Rbc.out.below hb)
              clear Rbc
              have Rbc := Rbc'
              clear Rbc'
              have Ru1' := Lib.hid (Ru1.out.below hb)
              clear Ru1
              have Ru1 := Ru1'
              clear Ru1'
              have Ru2' := Lib.hid (Ru2.out.below hb)
              clear Ru2
              have Ru2 := Ru2'
              clear Ru2'
              have Ru3' := Lib.hid (Ru3.out.below hb)
              clear Ru3
              have Ru3 := Ru3'
              clear Ru3'
              have Rx' := Lib.hid (Rx.out.below hb)
              clear Rx
              have Rx := Rx'
              clear Rx'
              have Ry' := Lib.hid (Ry.out.below hb)
              clear Ry
              have Ry := Ry'
              clear Ry'
              have Rz' := Lib.hid (Rz.out.below hb)
              clear Rz
              have Rz := Rz'
              clear Rz'
              have Rm1' := Lib.hid (Rm1.out.below hb)
              clear Rm1
              have Rm1 := Rm1'
              clear Rm1'
              have Rm2' := Lib.hid (Rm2.out.below hb)
              clear Rm2
              have Rm2 := Rm2'
              clear Rm2'
              have Rm3' := Lib.hid (Rm3.out.below hb)
              clear Rm3
              have Rm3 := Rm3'
              clear Rm3'
              have Rac' := Lib.hid (Rac.out.below hb)
              clear Rac
              have Rac := Rac'
              clear Rac'
              have Rd1' := Lib.hid (Rd1.out.below hb)
              clear Rd1
              have Rd1 := Rd1'
              clear Rd1'
              have Rd2' := Lib.hid (Rd2.out.below hb)
              clear Rd2
              have Rd2 := Rd2'
              clear Rd2'
              have Rw1' := Lib.hid (Rw1.out.below hb)
              clear Rw1
              have Rw1 := Rw1'
              clear Rw1'
              have Rw2' := Lib.hid (Rw2.out.below hb)
              clear Rw2
              have Rw2 := Rw2'
              clear Rw2'
              clear hb HB28
              have Rw3 := Lib.hid (hs.rd (cap := c29))
              clear hs
              go_wp2_with fail
              refine (sameR true (Sw1w3.out) _ _ _ Rw1.out Rw3.out).mono ?_
              rintro _ w30 ⟨rfl, hb⟩
              have HB30 := Lib.hid (HB29.out.trans (hb.mono HB29.out.size))
              have Rab' := Lib.hid (Rab.out.below hb)
              clear Rab
              have Rab := Rab'
              clear Rab'
              have Rba' := Lib.hid (Rba.out.below hb)
              clear Rba
              have Rba := Rba'
              clear Rba'
              have Rbc' := Lib.hid (Rbc.out.below hb)
              clear Rbc
              have Rbc := Rbc'
              clear Rbc'
              have Ru1' := Lib.hid (Ru1.out.below hb)
              clear Ru1
              have Ru1 := Ru1'
              clear Ru1'
              have Ru2' := Lib.hid (Ru2.out.below hb)
              clear Ru2
              have Ru2 := Ru2'
              clear Ru2'
              have Ru3' := Lib.hid (Ru3.out.below hb)
              clear Ru3
              have Ru3 := Ru3'
              clear Ru3'
              have Rx' := Lib.hid (Rx.out.below hb)
              clear Rx
              have Rx := Rx'
              clear Rx'
              have Ry' := Lib.hid (Ry.out.below hb)
              clear Ry
              have Ry := Ry'
              clear Ry'
              have Rz' := Lib.hid (Rz.out.below hb)
              clear Rz
              have Rz := Rz'
              clear Rz'
              have Rm1' := Lib.hid (Rm1.out.below hb)
              clear Rm1
              have Rm1 := Rm1'
              clear Rm1'
              have Rm2' := Lib.hid (Rm2.out.below hb)
              clear Rm2
              have Rm2 := Rm2'
              clear Rm2'
              have Rm3' := Lib.hid (Rm3.out.below hb)
              clear Rm3
              have Rm3 := Rm3'
              clear Rm3'
              have Rac' := Lib.hid (Rac.out.below hb)
              clear Rac
              have Rac := Rac'
              clear Rac'
              have Rd1' := Lib.hid (Rd1.out.below hb)
              clear Rd1
              have Rd1 := Rd1'
              clear Rd1'
              have Rd2' := Lib.hid (Rd2.out.below hb)
              clear Rd2
              have Rd2 := Rd2'
              clear Rd2'
              have Rw1' := Lib.hid (Rw1.out.below hb)
              clear Rw1
              have Rw1 := Rw1'
              clear Rw1'
              have Rw2' := Lib.hid (Rw2.out.below hb)
              clear Rw2
              have Rw2 := Rw2'
              clear Rw2'
              have Rw3' := Lib.hid (Rw3.out.below hb)
              clear Rw3
              have Rw3 := Rw3'
              clear Rw3'
              clear hb HB29
              go_wp2
              go_ret
              exact ⟨by first | rfl | (simp; done), HB30.out⟩
            · have z1 : decide ((200 : Int) < (len : Int)) = false := decide_eq_false (by omega)
              have z2 : decide ((200 : Int) < (len' : Int)) = false := decide_eq_false (by omega)
              have z3 : (200 : Int) < (len'' : Int) := by omega
              have HB0 : Hid (RowKit.Below w.heap.size w w) := Below.refl _ _
              go_enter Try.func6, Try.ntmps6
              go_wp2_with fail
              refine (head_any _).mono ?_
              rintro _ w1 ⟨rfl, hb⟩
              have HB1 := Lib.hid (HB0.out.trans (hb.mono HB0.out.size))
              clear hb HB0
              go_wp2_with fail
              refine (KA.out _ HB1.out).mono ?_
              rintro _ w2 ⟨rfl, hb⟩
              have HB2 := Lib.hid (HB1.out.trans (hb.mono HB1.out.size))
              clear hb HB1
              go_wp2_with fail
              refine (KB.out _ HB2.out).mono ?_
              rintro _ w3 ⟨rfl, hb⟩
              have HB3 := Lib.hid (HB2.out.trans (hb.mono HB2.out.size))
              clear hb HB2
              go_wp2_with fail
              refine (KC.out _ HB3.out).mono ?_
              rintro _ w4 ⟨rfl, hb⟩
              have HB4 := Lib.hid (HB3.out.trans (hb.mono HB3.out.size))
              clear hb HB3
              go_wp2
              go_ret
              exact ⟨by first | rfl | (simp; done), HB4.out⟩
          · have z1 : decide ((200 : Int) < (len : Int)) = false := decide_eq_false (by omega)
            have z2 : (200 : Int) < (len' : Int) := by omega
            have HB0 : Hid (RowKit.Below w.heap.size w w) := Below.refl _ _
            go_enter Try.func6, Try.ntmps6
            go_wp2_with fail
            refine (head_any _).mono ?_
            rintro _ w1 ⟨rfl, hb⟩
            have HB1 := Lib.hid (HB0.out.trans (hb.mono HB0.out.size))
            clear hb HB0
            go_wp2_with fail
            refine (KA.out _ HB1.out).mono ?_
            rintro _ w2 ⟨rfl, hb⟩
            have HB2 := Lib.hid (HB1.out.trans (hb.mono HB1.out.size))
            clear hb HB1
            go_wp2_with fail
            refine (KB.out _ HB2.out).mono ?_
            rintro _ w3 ⟨rfl, hb⟩
            have HB3 := Lib.hid (HB2.out.trans (hb.mono HB2.out.size))
            clear hb HB2
            go_wp2_with fail
            refine (KC.out _ HB3.out).mono ?_
            rintro _ w4 ⟨rfl, hb⟩
            have HB4 := Lib.hid (HB3.out.trans (hb.mono HB3.out.size))
            clear hb HB3
            go_wp2
            go_ret
            exact ⟨by first | rfl | (simp; done), HB4.out⟩
        · have z1 : (200 : Int) < (len : Int) := by omega
          have HB0 : Hid (RowKit.Below w.heap.size w w) := Below.refl _ _
          go_enter Try.func6, Try.ntmps6
          go_wp2_with fail
          refine (head_any _).mono ?_
          rintro _ w1 ⟨rfl, hb⟩
          have HB1 := Lib.hid (HB0.out.trans (hb.mono HB0.out.size))
          clear hb HB0
          go_wp2_with fail
          refine (KA.out _ HB1.out).mono ?_
          rintro _ w2 ⟨rfl, hb⟩
          have HB2 := Lib.hid (HB1.out.trans (hb.mono HB1.out.size))
          clear hb HB1
          go_wp2_with fail
          refine (KB.out _ HB2.out).mono ?_
          rintro _ w3 ⟨rfl, hb⟩
          have HB3 := Lib.hid (HB2.out.trans (hb.mono HB2.out.size))
          clear hb HB2
          go_wp2_with fail
          refine (KC.out _ HB3.out).mono ?_
          rintro _ w4 ⟨rfl, hb⟩
          have HB4 := Lib.hid (HB3.out.trans (hb.mono HB3.out.size))
          clear hb HB3
          go_wp2
          go_ret
          exact ⟨by first | rfl | (simp; done), HB4.out⟩
end Go.Proofs.Ytomcngnfdflkkaa
