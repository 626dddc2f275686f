/-
  The walk of the law on days.
-/
import Derived.Test.YtomcngnfdflkkaaSAppend
namespace Go.Proofs.Ytomcngnfdflkkaa
open Go.RowKit Spn Go.Sort

theorem out2_at {w w' : World} {l : List (Int × Int)} {er : Int} {e : Ending} (h : Out2 w l er e w') : ∃ p b cap, e = .returned (.tuple #[.slice p l.length cap, .int .i64 er]) ∧ Sl w' p b 0 l.length l ∧ RowKit.Below w.heap.size w w' := by
  obtain ⟨p, b, len, cap, rfl, hs, hb⟩ := h
  have := hs.1
  subst this
  exact ⟨p, b, cap, rfl, hs, hb⟩

set_option maxRecDepth 100000 in
set_option maxHeartbeats 4000000 in
theorem days_law (a : List (Int × Int)) (p : Option Addr) (bl off cap len : Nat) (b : List (Int × Int)) (p' : Option Addr) (bl' off' cap' len' : Nat) (day : Int) (w : World) (hS : Sl w p bl off len a) (hn : p = none → len = 0 ∧ cap = 0) (hS' : Sl w p' bl' off' len' b) (hn' : p' = none → len' = 0 ∧ cap' = 0) (_d0 : -9223372036854775808 ≤ day) (_d1 : day ≤ 9223372036854775807) :
    Calls Try.prog 4 #[.slice p len cap, .slice p' len' cap', .int .i64 day] w fun e w' => e = .returned (.bool true) ∧ RowKit.Below w.heap.size w w' := by
  have HL := Lib.hid hS.1
  have HL' := Lib.hid hS'.1
  have hm := hS.2.2.2.2.1
  have hm' := hS'.2.2.2.2.1
  cases hva : vl a with
  | false =>
    have KV := Lib.hid (fun w' (h : RowKit.Below w.heap.size w w') => valid_b a p bl off cap len false hva w' (hS.below h))
    clear hS hS' hva hn hn'
    have HB0 : Hid (RowKit.Below w.heap.size w w) := Below.refl _ _
    go_enter Try.func4, Try.ntmps4
    go_wp2_with fail
    refine (head_any _).mono ?_
    rintro _ w1 ⟨rfl, hb⟩
    have HB1 := Lib.hid (HB0.out.trans (hb.mono HB0.out.size))
    clear hb HB0
    go_wp2_with fail
    refine (KV.out _ HB1.out).mono ?_
    rintro _ w2 ⟨rfl, hb⟩
    have HB2 := Lib.hid (HB1.out.trans (hb.mono HB1.out.size))
    clear hb HB1
    go_wp2
    go_ret
    exact ⟨rfl, HB2.out⟩
  | true =>
    have KV := Lib.hid (fun w' (h : RowKit.Below w.heap.size w w') => valid_b a p bl off cap len true hva w' (hS.below h))
    have HVA := Lib.hid (vl_iff.1 hva)
    cases hvb : vl b with
    | false =>
      have KV' := Lib.hid (fun w' (h : RowKit.Below w.heap.size w w') => valid_b b p' bl' off' cap' len' false hvb w' (hS'.below h))
      clear hS hS' hva hvb hn hn'
      have HB0 : Hid (RowKit.Below w.heap.size w w) := Below.refl _ _
      go_enter Try.func4, Try.ntmps4
      go_wp2_with fail
      refine (head_any _).mono ?_
      rintro _ w1 ⟨rfl, hb⟩
      have HB1 := Lib.hid (HB0.out.trans (hb.mono HB0.out.size))
      clear hb HB0
      go_wp2_with fail
      refine (KV.out _ HB1.out).mono ?_
      rintro _ w2 ⟨rfl, hb⟩
      have HB2 := Lib.hid (HB1.out.trans (hb.mono HB1.out.size))
      clear hb HB1
      go_wp2_with fail
      refine (KV'.out _ HB2.out).mono ?_
      rintro _ w3 ⟨rfl, hb⟩
      have HB3 := Lib.hid (HB2.out.trans (hb.mono HB2.out.size))
      clear hb HB2
      go_wp2
      go_ret
      exact ⟨rfl, HB3.out⟩
    | true =>
      have KV' := Lib.hid (fun w' (h : RowKit.Below w.heap.size w w') => valid_b b p' bl' off' cap' len' true hvb w' (hS'.below h))
      have HVB := Lib.hid (vl_iff.1 hvb)
      have HRA := Lib.hid (hS.rd (cap := cap))
      have HRB := Lib.hid (hS'.rd (cap := cap'))
      obtain ⟨U, hU⟩ : ∃ U, U = opV kU a b := ⟨_, rfl⟩
      obtain ⟨M, hM⟩ : ∃ U, U = opV kM a b := ⟨_, rfl⟩
      obtain ⟨V, hV⟩ : ∃ U, U = opV kW a b := ⟨_, rfl⟩
      obtain ⟨eu, heu⟩ : ∃ U, U = opE kU a b := ⟨_, rfl⟩
      obtain ⟨em, hem⟩ : ∃ U, U = opE kM a b := ⟨_, rfl⟩
      obtain ⟨ew, hew⟩ : ∃ U, U = opE kW a b := ⟨_, rfl⟩
      have KU := Lib.hid (fun w' (h : RowKit.Below w.heap.size w w') => (show Calls Try.prog 15 #[.slice p len cap, .slice p' len' cap'] w' fun e w'' => ∃ q g c, e = .returned (.tuple #[.slice q U.length c, .int .i64 eu]) ∧ Sl w'' q g 0 U.length U ∧ RowKit.Below w'.heap.size w' w'' by rw [hU, heu]; exact (Union_any a b p p' bl off cap len bl' off' cap' len' w' (hS.below h) (hS'.below h)).mono fun _ _ h => out2_at h))
      have KM := Lib.hid (fun w' (h : RowKit.Below w.heap.size w w') => (show Calls Try.prog 17 #[.slice p len cap, .slice p' len' cap'] w' fun e w'' => ∃ q g c, e = .returned (.tuple #[.slice q M.length c, .int .i64 em]) ∧ Sl w'' q g 0 M.length M ∧ RowKit.Below w'.heap.size w' w'' by rw [hM, hem]; exact (Meet_any a b p p' bl off cap len bl' off' cap' len' w' (hS.below h) (hS'.below h)).mono fun _ _ h => out2_at h))
      have KW := Lib.hid (fun w' (h : RowKit.Below w.heap.size w w') => (show Calls Try.prog 19 #[.slice p len cap, .slice p' len' cap'] w' fun e w'' => ∃ q g c, e = .returned (.tuple #[.slice q V.length c, .int .i64 ew]) ∧ Sl w'' q g 0 V.length V ∧ RowKit.Below w'.heap.size w' w'' by rw [hV, hew]; exact (Without_any a b p p' bl off cap len bl' off' cap' len' w' (hS.below h) (hS'.below h)).mono fun _ _ h => out2_at h))
      have HU := Lib.hid hU
      have HM := Lib.hid hM
      have HV := Lib.hid hV
      have HEU := Lib.hid heu
      have HEM := Lib.hid hem
      have HEW := Lib.hid hew
      clear hU hM hV heu hem hew hva hvb
      have HS := Lib.hid hS
      have HS' := Lib.hid hS'
      have HIN : Hid (∀ s, s ∈ [] ++ b ++ a → In64 s.1 ∧ In64 s.2) := fun s hs => by
        rw [List.nil_append] at hs
        rcases List.mem_append.1 hs with h | h
        · exact hS'.2.2.2.2.2 s h
        · exact hS.2.2.2.2.2 s h
      have hla : len ≤ 1000 := by have := HVA.out.1; have := HL.out; omega
      have hlb : len' ≤ 1000 := by have := HVB.out.1; have := HL'.out; omega
      have HNV := Lib.hid (normal_union HVA.out HVB.out)
      have HEUC : Hid (eu = 0 ∨ eu = 2 ∧ 1000 < a.length + b.length) := by show _ ∨ _; rw [HEU.out]; exact err_len opU HVA.out HVB.out
      have HEMC : Hid (em = 0 ∨ em = 2 ∧ 1000 < a.length + b.length) := by show _ ∨ _; rw [HEM.out]; exact err_len opM HVA.out HVB.out
      have HEWC : Hid (ew = 0 ∨ ew = 2 ∧ 1000 < a.length + b.length) := by show _ ∨ _; rw [HEW.out]; exact err_len opW HVA.out HVB.out
      obtain ⟨x, hx⟩ : ∃ x, hsV a day = x := ⟨_, rfl⟩
      obtain ⟨y, hy⟩ : ∃ x, hsV b day = x := ⟨_, rfl⟩
      have HX := Lib.hid hx
      have HY := Lib.hid hy
      clear hS hS' hx hy
      have HB0 : Hid (RowKit.Below w.heap.size w w) := Below.refl _ _
      go_enter Try.func4, Try.ntmps4
      go_wp2_with fail
      refine (head_any _).mono ?_
      rintro _ w1 ⟨rfl, hb⟩
      have HB1 := Lib.hid (HB0.out.trans (hb.mono HB0.out.size))
      clear hb HB0
      go_wp2_with fail
      refine (KV.out _ HB1.out).mono ?_
      rintro _ w2 ⟨rfl, hb⟩
      have HB2 := Lib.hid (HB1.out.trans (hb.mono HB1.out.size))
      clear hb HB1
      go_wp2_with fail
      refine (KV'.out _ HB2.out).mono ?_
      rintro _ w3 ⟨rfl, hb⟩
      have HB3 := Lib.hid (HB2.out.trans (hb.mono HB2.out.size))
      clear hb HB2
      go_wp2_with fail
      refine (KU.out _ HB3.out).mono ?_
      rintro _ w4 ⟨q4, g4, c4, rfl, hs, hb⟩
      have HB4 := Lib.hid (HB3.out.trans (hb.mono HB3.out.size))
      clear hb HB3
      have R1 := Lib.hid (hs.rd (cap := c4))
      clear hs
      go_wp2_with fail
      refine (KM.out _ HB4.out).mono ?_
      rintro _ w5 ⟨q5, g5, c5, rfl, hs, hb⟩
      have HB5 := Lib.hid (HB4.out.trans (hb.mono HB4.out.size))
      have R1' := Lib.hid (R1.out.below hb)
      clear R1
      have R1 := R1'
      clear R1'
      clear hb HB4
      have R2 := Lib.hid (hs.rd (cap := c5))
      clear hs
      go_wp2_with fail
      refine (KW.out _ HB5.out).mono ?_
      rintro _ w6 ⟨q6, g6, c6, rfl, hs, hb⟩
      have HB6 := Lib.hid (HB5.out.trans (hb.mono HB5.out.size))
      have R1' := Lib.hid (R1.out.below hb)
      clear R1
      have R1 := R1'
      clear R1'
      have R2' := Lib.hid (R2.out.below hb)
      clear R2
      have R2 := R2'
      clear R2'
      clear hb HB5
      have R3 := Lib.hid (hs.rd (cap := c6))
      clear hs
      have HO0 : Hid (Own (w6.alloc (.cells #[] 37)) w6.heap.size (.slice (some ⟨w6.heap.size, 0, none⟩) 0 0) []) := Own.start w6 _ rfl
      have HB0' : Hid (RowKit.Below w6.heap.size w6 (w6.alloc (.cells #[] 37))) := (Below.refl _ _).alloc (Nat.le_refl _) _
      have HSB := Lib.hid ((HS'.out.below HB6.out).below HB0'.out)
      go_wp2_with (first | (at_builtin; refine list_app_any rfl _ _ rfl w6.heap.size (.slice (some ⟨w6.heap.size, 0, none⟩) 0 0) [] rfl HO0.out p' bl' off' len' cap' b rfl HSB.out hn' (by simp; omega) (by simp) ?_; intro v7 w7 own7 hb7; have HB7 := Lib.hid (HB0'.out.trans hb7); have HSA := Lib.hid ((HS.out.below HB6.out).below HB7.out); clear hb7) | (at_builtin; refine list_app_any rfl _ _ rfl w6.heap.size v7 ([] ++ b) rfl own7 p bl off len cap a rfl HSA.out hn (by rw [List.nil_append, HL'.out]; omega) HB7.out.size ?_; intro v8 w8 own8 hb8; have HB8 := Lib.hid (HB7.out.trans hb8); obtain ⟨q8, g8, c8, rfl, hs8⟩ := own8.reads (by rw [List.length_append, List.nil_append, HL.out, HL'.out]; omega) (HIN.out); have HS8 := Lib.hid hs8; clear own8 own7 hb8 hs8) | fail)
      clear HO0 HB0' HSB HSA HB7 w7
      have KN := Lib.hid (Normal_any ([] ++ b ++ a) q8 g8 0 c8 _ _ HS8.out (by rw [List.length_append, List.nil_append, HL.out, HL'.out]; omega))
      rw [List.nil_append, HNV.out.1, HNV.out.2, ← HU.out, ← HEU.out, List.length_append] at KN
      have HB8f := Lib.hid (HB6.out.trans (HB8.out.mono HB6.out.size))
      have R1' := Lib.hid (R1.out.below HB8.out)
      clear R1
      have R1 := R1'
      clear R1'
      have R2' := Lib.hid (R2.out.below HB8.out)
      clear R2
      have R2 := R2'
      clear R2'
      have R3' := Lib.hid (R3.out.below HB8.out)
      clear R3
      have R3 := R3'
      clear R3'
      clear HB6 HB8 HS8
      go_wp2_with fail
      refine (KN.out.mono fun _ _ h => out2_at h).mono ?_
      rintro _ w9 ⟨q9, g9, c9, rfl, hs, hb⟩
      have HB9 := Lib.hid (HB8f.out.trans (hb.mono HB8f.out.size))
      have R1' := Lib.hid (R1.out.below hb)
      clear R1
      have R1 := R1'
      clear R1'
      have R2' := Lib.hid (R2.out.below hb)
      clear R2
      have R2 := R2'
      clear R2'
      have R3' := Lib.hid (R3.out.below hb)
      clear R3
      have R3 := R3'
      clear R3'
      clear hb HB8f
      have R4 := Lib.hid (hs.rd (cap := c9))
      clear hs KN
      go_wp2_with fail
      refine (hasR day x (HX.out) _ _ (HRA.out.below HB9.out)).mono ?_
      rintro _ w10 ⟨rfl, hb⟩
      have HB10 := Lib.hid (HB9.out.trans (hb.mono HB9.out.size))
      have R1' := Lib.hid (R1.out.below hb)
      clear R1
      have R1 := R1'
      clear R1'
      have R2' := Lib.hid (R2.out.below hb)
      clear R2
      have R2 := R2'
      clear R2'
      have R3' := Lib.hid (R3.out.below hb)
      clear R3
      have R3 := R3'
      clear R3'
      have R4' := Lib.hid (R4.out.below hb)
      clear R4
      have R4 := R4'
      clear R4'
      clear hb HB9
      go_wp2_with fail
      refine (hasR day y (HY.out) _ _ (HRB.out.below HB10.out)).mono ?_
      rintro _ w11 ⟨rfl, hb⟩
      have HB11 := Lib.hid (HB10.out.trans (hb.mono HB10.out.size))
      have R1' := Lib.hid (R1.out.below hb)
      clear R1
      have R1 := R1'
      clear R1'
      have R2' := Lib.hid (R2.out.below hb)
      clear R2
      have R2 := R2'
      clear R2'
      have R3' := Lib.hid (R3.out.below hb)
      clear R3
      have R3 := R3'
      clear R3'
      have R4' := Lib.hid (R4.out.below hb)
      clear R4
      have R4 := R4'
      clear R4'
      clear hb HB10
      rcases HEUC.out with heu | ⟨heu, hl1⟩
      · rcases HEMC.out with hem | ⟨hem, hl2⟩
        · rcases HEWC.out with hew | ⟨hew, hl3⟩
          · skip
            have gU : Good kU a b U := by rw [HU.out]; exact good_err opU HVA.out HVB.out (by rw [← HEU.out, heu])
            have gM : Good kM a b M := by rw [HM.out]; exact good_err opM HVA.out HVB.out (by rw [← HEM.out, hem])
            have gV : Good kW a b V := by rw [HV.out]; exact good_err opW HVA.out HVB.out (by rw [← HEW.out, hew])
            have GU := Lib.hid gU
            have GM := Lib.hid gM
            have GV := Lib.hid gV
            clear gU gM gV HEU HEM HEW HU HM HV HEUC HEMC HEWC
            subst heu hem hew
            go_wp2_with fail
            refine (validR true (vl_iff.2 GU.out.vl) _ _ R1.out).mono ?_
            rintro _ w12 ⟨rfl, hb⟩
            have HB12 := Lib.hid (HB11.out.trans (hb.mono HB11.out.size))
            have R1' := Lib.hid (R1.out.below hb)
            clear R1
            have R1 := R1'
            clear R1'
            have R2' := Lib.hid (R2.out.below hb)
            clear R2
            have R2 := R2'
            clear R2'
            have R3' := Lib.hid (R3.out.below hb)
            clear R3
            have R3 := R3'
            clear R3'
            have R4' := Lib.hid (R4.out.below hb)
            clear R4
            have R4 := R4'
            clear R4'
            clear hb HB11
            go_wp2_with fail
            refine (validR true (vl_iff.2 GM.out.vl) _ _ R2.out).mono ?_
            rintro _ w13 ⟨rfl, hb⟩
            have HB13 := Lib.hid (HB12.out.trans (hb.mono HB12.out.size))
            have R1' := Lib.hid (R1.out.below hb)
            clear R1
            have R1 := R1'
            clear R1'
            have R2' := Lib.hid (R2.out.below hb)
            clear R2
            have R2 := R2'
            clear R2'
            have R3' := Lib.hid (R3.out.below hb)
            clear R3
            have R3 := R3'
            clear R3'
            have R4' := Lib.hid (R4.out.below hb)
            clear R4
            have R4 := R4'
            clear R4'
            clear hb HB12
            go_wp2_with fail
            refine (validR true (vl_iff.2 GV.out.vl) _ _ R3.out).mono ?_
            rintro _ w14 ⟨rfl, hb⟩
            have HB14 := Lib.hid (HB13.out.trans (hb.mono HB13.out.size))
            have R1' := Lib.hid (R1.out.below hb)
            clear R1
            have R1 := R1'
            clear R1'
            have R2' := Lib.hid (R2.out.below hb)
            clear R2
            have R2 := R2'
            clear R2'
            have R3' := Lib.hid (R3.out.below hb)
            clear R3
            have R3 := R3'
            clear R3'
            have R4' := Lib.hid (R4.out.below hb)
            clear R4
            have R4 := R4'
            clear R4'
            clear hb HB13
            go_wp2_with fail
            refine (validR true (vl_iff.2 GU.out.vl) _ _ R4.out).mono ?_
            rintro _ w15 ⟨rfl, hb⟩
            have HB15 := Lib.hid (HB14.out.trans (hb.mono HB14.out.size))
            have R1' := Lib.hid (R1.out.below hb)
            clear R1
            have R1 := R1'
            clear R1'
            have R2' := Lib.hid (R2.out.below hb)
            clear R2
            have R2 := R2'
            clear R2'
            have R3' := Lib.hid (R3.out.below hb)
            clear R3
            have R3 := R3'
            clear R3'
            have R4' := Lib.hid (R4.out.below hb)
            clear R4
            have R4 := R4'
            clear R4'
            clear hb HB14
            cases x with
            | false =>
              cases y with
              | false =>
                go_wp2_with fail
                refine (hasR day false (by rw [hsV_of GU.out.vl, GU.out.cov, ← hsV_of HVA.out, ← hsV_of HVB.out, HX.out, HY.out]; rfl) _ _ R1.out).mono ?_
                rintro _ w16 ⟨rfl, hb⟩
                have HB16 := Lib.hid (HB15.out.trans (hb.mono HB15.out.size))
                have R1' := Lib.hid (R1.out.below hb)
                clear R1
                have R1 := R1'
                clear R1'
                have R2' := Lib.hid (R2.out.below hb)
                clear R2
                have R2 := R2'
                clear R2'
                have R3' := Lib.hid (R3.out.below hb)
                clear R3
                have R3 := R3'
                clear R3'
                have R4' := Lib.hid (R4.out.below hb)
                clear R4
                have R4 := R4'
                clear R4'
                clear hb HB15
                go_wp2_with fail
                refine (hasR day false (by rw [hsV_of GM.out.vl, GM.out.cov, ← hsV_of HVA.out, ← hsV_of HVB.out, HX.out, HY.out]; rfl) _ _ R2.out).mono ?_
                rintro _ w17 ⟨rfl, hb⟩
                have HB17 := Lib.hid (HB16.out.trans (hb.mono HB16.out.size))
                have R1' := Lib.hid (R1.out.below hb)
                clear R1
                have R1 := R1'
                clear R1'
                have R2' := Lib.hid (R2.out.below hb)
                clear R2
                have R2 := R2'
                clear R2'
                have R3' := Lib.hid (R3.out.below hb)
                clear R3
                have R3 := R3'
                clear R3'
                have R4' := Lib.hid (R4.out.below hb)
                clear R4
                have R4 := R4'
                clear R4'
                clear hb HB16
                go_wp2_with fail
                refine (hasR day false (by rw [hsV_of GV.out.vl, GV.out.cov, ← hsV_of HVA.out, ← hsV_of HVB.out, HX.out, HY.out]; rfl) _ _ R3.out).mono ?_
                rintro _ w18 ⟨rfl, hb⟩
                have HB18 := Lib.hid (HB17.out.trans (hb.mono HB17.out.size))
                have R1' := Lib.hid (R1.out.below hb)
                clear R1
                have R1 := R1'
                clear R1'
                have R2' := Lib.hid (R2.out.below hb)
                clear R2
                have R2 := R2'
                clear R2'
                have R3' := Lib.hid (R3.out.below hb)
                clear R3
                have R3 := R3'
                clear R3'
                have R4' := Lib.hid (R4.out.below hb)
                clear R4
                have R4 := R4'
                clear R4'
                clear hb HB17
                go_wp2_with fail
                refine (hasR day false (by rw [hsV_of GU.out.vl, GU.out.cov, ← hsV_of HVA.out, ← hsV_of HVB.out, HX.out, HY.out]; rfl) _ _ R4.out).mono ?_
                rintro _ w19 ⟨rfl, hb⟩
                have HB19 := Lib.hid (HB18.out.trans (hb.mono HB18.out.size))
                have R1' := Lib.hid (R1.out.below hb)
                clear R1
                have R1 := R1'
                clear R1'
                have R2' := Lib.hid (R2.out.below hb)
                clear R2
                have R2 := R2'
                clear R2'
                have R3' := Lib.hid (R3.out.below hb)
                clear R3
                have R3 := R3'
                clear R3'
                have R4' := Lib.hid (R4.out.below hb)
                clear R4
                have R4 := R4'
                clear R4'
                clear hb HB18
                go_wp2
                go_ret
                exact ⟨by first | rfl | (simp; done), HB19.out⟩
              | true =>
                go_wp2_with fail
                refine (hasR day true (by rw [hsV_of GU.out.vl, GU.out.cov, ← hsV_of HVA.out, ← hsV_of HVB.out, HX.out, HY.out]; rfl) _ _ R1.out).mono ?_
                rintro _ w16 ⟨rfl, hb⟩
                have HB16 := Lib.hid (HB15.out.trans (hb.mono HB15.out.size))
                have R1' := Lib.hid (R1.out.below hb)
                clear R1
                have R1 := R1'
                clear R1'
                have R2' := Lib.hid (R2.out.below hb)
                clear R2
                have R2 := R2'
                clear R2'
                have R3' := Lib.hid (R3.out.below hb)
                clear R3
                have R3 := R3'
                clear R3'
                have R4' := Lib.hid (R4.out.below hb)
                clear R4
                have R4 := R4'
                clear R4'
                clear hb HB15
                go_wp2_with fail
                refine (hasR day false (by rw [hsV_of GM.out.vl, GM.out.cov, ← hsV_of HVA.out, ← hsV_of HVB.out, HX.out, HY.out]; rfl) _ _ R2.out).mono ?_
                rintro _ w17 ⟨rfl, hb⟩
                have HB17 := Lib.hid (HB16.out.trans (hb.mono HB16.out.size))
                have R1' := Lib.hid (R1.out.below hb)
                clear R1
                have R1 := R1'
                clear R1'
                have R2' := Lib.hid (R2.out.below hb)
                clear R2
                have R2 := R2'
                clear R2'
                have R3' := Lib.hid (R3.out.below hb)
                clear R3
                have R3 := R3'
                clear R3'
                have R4' := Lib.hid (R4.out.below hb)
                clear R4
                have R4 := R4'
                clear R4'
                clear hb HB16
                go_wp2_with fail
                refine (hasR day false (by rw [hsV_of GV.out.vl, GV.out.cov, ← hsV_of HVA.out, ← hsV_of HVB.out, HX.out, HY.out]; rfl) _ _ R3.out).mono ?_
                rintro _ w18 ⟨rfl, hb⟩
                have HB18 := Lib.hid (HB17.out.trans (hb.mono HB17.out.size))
                have R1' := Lib.hid (R1.out.below hb)
                clear R1
                have R1 := R1'
                clear R1'
                have R2' := Lib.hid (R2.out.below hb)
                clear R2
                have R2 := R2'
                clear R2'
                have R3' := Lib.hid (R3.out.below hb)
                clear R3
                have R3 := R3'
                clear R3'
                have R4' := Lib.hid (R4.out.below hb)
                clear R4
                have R4 := R4'
                clear R4'
                clear hb HB17
                go_wp2_with fail
                refine (hasR day true (by rw [hsV_of GU.out.vl, GU.out.cov, ← hsV_of HVA.out, ← hsV_of HVB.out, HX.out, HY.out]; rfl) _ _ R4.out).mono ?_
                rintro _ w19 ⟨rfl, hb⟩
                have HB19 := Lib.hid (HB18.out.trans (hb.mono HB18.out.size))
                have R1' := Lib.hid (R1.out.below hb)
                clear R1
                have R1 := R1'
                clear R1'
                have R2' := Lib.hid (R2.out.below hb)
                clear R2
                have R2 := R2'
                clear R2'
                have R3' := Lib.hid (R3.out.below hb)
                clear R3
                have R3 := R3'
                clear R3'
                have R4' := Lib.hid (R4.out.below hb)
                clear R4
                have R4 := R4'
                clear R4'
                clear hb HB18
                go_wp2
                go_ret
                exact ⟨by first | rfl | (simp; done), HB19.out⟩
            | true =>
              cases y with
              | false =>
                go_wp2_with fail
                refine (hasR day true (by rw [hsV_of GU.out.vl, GU.out.cov, ← hsV_of HVA.out, ← hsV_of HVB.out, HX.out, HY.out]; rfl) _ _ R1.out).mono ?_
                rintro _ w16 ⟨rfl, hb⟩
                have HB16 := Lib.hid (HB15.out.trans (hb.mono HB15.out.size))
                have R1' := Lib.hid (R1.out.below hb)
                clear R1
                have R1 := R1'
                clear R1'
                have R2' := Lib.hid (R2.out.below hb)
                clear R2
                have R2 := R2'
                clear R2'
                have R3' := Lib.hid (R3.out.below hb)
                clear R3
                have R3 := R3'
                clear R3'
                have R4' := Lib.hid (R4.out.below hb)
                clear R4
                have R4 := R4'
                clear R4'
                clear hb HB15
                go_wp2_with fail
                refine (hasR day false (by rw [hsV_of GM.out.vl, GM.out.cov, ← hsV_of HVA.out, ← hsV_of HVB.out, HX.out, HY.out]; rfl) _ _ R2.out).mono ?_
                rintro _ w17 ⟨rfl, hb⟩
                have HB17 := Lib.hid (HB16.out.trans (hb.mono HB16.out.size))
                have R1' := Lib.hid (R1.out.below hb)
                clear R1
                have R1 := R1'
                clear R1'
                have R2' := Lib.hid (R2.out.below hb)
                clear R2
                have R2 := R2'
                clear R2'
                have R3' := Lib.hid (R3.out.below hb)
                clear R3
                have R3 := R3'
                clear R3'
                have R4' := Lib.hid (R4.out.below hb)
                clear R4
                have R4 := R4'
                clear R4'
                clear hb HB16
                go_wp2_with fail
                refine (hasR day true (by rw [hsV_of GV.out.vl, GV.out.cov, ← hsV_of HVA.out, ← hsV_of HVB.out, HX.out, HY.out]; rfl) _ _ R3.out).mono ?_
                rintro _ w18 ⟨rfl, hb⟩
                have HB18 := Lib.hid (HB17.out.trans (hb.mono HB17.out.size))
                have R1' := Lib.hid (R1.out.below hb)
                clear R1
                have R1 := R1'
                clear R1'
                have R2' := Lib.hid (R2.out.below hb)
                clear R2
                have R2 := R2'
                clear R2'
                have R3' := Lib.hid (R3.out.below hb)
                clear R3
                have R3 := R3'
                clear R3'
                have R4' := Lib.hid (R4.out.below hb)
                clear R4
                have R4 := R4'
                clear R4'
                clear hb HB17
                go_wp2_with fail
                refine (hasR day true (by rw [hsV_of GU.out.vl, GU.out.cov, ← hsV_of HVA.out, ← hsV_of HVB.out, HX.out, HY.out]; rfl) _ _ R4.out).mono ?_
                rintro _ w19 ⟨rfl, hb⟩
                have HB19 := Lib.hid (HB18.out.trans (hb.mono HB18.out.size))
                have R1' := Lib.hid (R1.out.below hb)
                clear R1
                have R1 := R1'
                clear R1'
                have R2' := Lib.hid (R2.out.below hb)
                clear R2
                have R2 := R2'
                clear R2'
                have R3' := Lib.hid (R3.out.below hb)
                clear R3
                have R3 := R3'
                clear R3'
                have R4' := Lib.hid (R4.out.below hb)
                clear R4
                have R4 := R4'
                clear R4'
                clear hb HB18
                go_wp2
                go_ret
                exact ⟨by first | rfl | (simp; done), HB19.out⟩
              | true =>
                go_wp2_with fail
                refine (hasR day true (by rw [hsV_of GU.out.vl, GU.out.cov, ← hsV_of HVA.out, ← hsV_of HVB.out, HX.out, HY.out]; rfl) _ _ R1.out).mono ?_
                rintro _ w16 ⟨rfl, hb⟩
                have HB16 := Lib.hid (HB15.out.trans (hb.mono HB15.out.size))
                have R1' := Lib.hid (R1.out.below hb)
                clear R1
                have R1 := R1'
                clear R1'
                have R2' := Lib.hid (R2.out.below hb)
                clear R2
                have R2 := R2'
                clear R2'
                have R3' := Lib.hid (R3.out.below hb)
                clear R3
                have R3 := R3'
                clear R3'
                have R4' := Lib.hid (R4.out.below hb)
                clear R4
                have R4 := R4'
                clear R4'
                clear hb HB15
                go_wp2_with fail
                refine (hasR day true (by rw [hsV_of GM.out.vl, GM.out.cov, ← hsV_of HVA.out, ← hsV_of HVB.out, HX.out, HY.out]; rfl) _ _ R2.out).mono ?_
                rintro _ w17 ⟨rfl, hb⟩
                have HB17 := Lib.hid (HB16.out.trans (hb.mono HB16.out.size))
                have R1' := Lib.hid (R1.out.below hb)
                clear R1
                have R1 := R1'
                clear R1'
                have R2' := Lib.hid (R2.out.below hb)
                clear R2
                have R2 := R2'
                clear R2'
                have R3' := Lib.hid (R3.out.below hb)
                clear R3
                have R3 := R3'
                clear R3'
                have R4' := Lib.hid (R4.out.below hb)
                clear R4
                have R4 := R4'
                clear R4'
                clear hb HB16
                go_wp2_with fail
                refine (hasR day false (by rw [hsV_of GV.out.vl, GV.out.cov, ← hsV_of HVA.out, ← hsV_of HVB.out, HX.out, HY.out]; rfl) _ _ R3.out).mono ?_
                rintro _ w18 ⟨rfl, hb⟩
                have HB18 := Lib.hid (HB17.out.trans (hb.mono HB17.out.size))
                have R1' := Lib.hid (R1.out.below hb)
                clear R1
                have R1 := R1'
                clear R1'
                have R2' := Lib.hid (R2.out.below hb)
                clear R2
                have R2 := R2'
                clear R2'
                have R3' := Lib.hid (R3.out.below hb)
                clear R3
                have R3 := R3'
                clear R3'
                have R4' := Lib.hid (R4.out.below hb)
                clear R4
                have R4 := R4'
                clear R4'
                clear hb HB17
                go_wp2_with fail
                refine (hasR day true (by rw [hsV_of GU.out.vl, GU.out.cov, ← hsV_of HVA.out, ← hsV_of HVB.out, HX.out, HY.out]; rfl) _ _ R4.out).mono ?_
                rintro _ w19 ⟨rfl, hb⟩
                have HB19 := Lib.hid (HB18.out.trans (hb.mono HB18.out.size))
                have R1' := Lib.hid (R1.out.below hb)
                clear R1
                have R1 := R1'
                clear R1'
                have R2' := Lib.hid (R2.out.below hb)
                clear R2
                have R2 := R2'
                clear R2'
                have R3' := Lib.hid (R3.out.below hb)
                clear R3
                have R3 := R3'
                clear R3'
                have R4' := Lib.hid (R4.out.below hb)
                clear R4
                have R4 := R4'
                clear R4'
                clear hb HB18
                go_wp2
                go_ret
                exact ⟨by first | rfl | (simp; done), HB19.out⟩
          · skip
            subst heu hem hew
            have hlz : (1000 : Int) < (len : Int) + (len' : Int) := by have := HL.out; have := HL'.out; omega
            clear HEU HEM HEW HU HM HV HEUC HEMC HEWC
            go_wp2
            go_ret
            exact ⟨by first | rfl | (simp; done), HB11.out⟩
        · rcases HEWC.out with hew | ⟨hew, hl3⟩
          · skip
            subst heu hem hew
            have hlz : (1000 : Int) < (len : Int) + (len' : Int) := by have := HL.out; have := HL'.out; omega
            clear HEU HEM HEW HU HM HV HEUC HEMC HEWC
            go_wp2
            go_ret
            exact ⟨by first | rfl | (simp; done), HB11.out⟩
          · skip
            subst heu hem hew
            have hlz : (1000 : Int) < (len : Int) + (len' : Int) := by have := HL.out; have := HL'.out; omega
            clear HEU HEM HEW HU HM HV HEUC HEMC HEWC
            go_wp2
            go_ret
            exact ⟨by first | rfl | (simp; done), HB11.out⟩
      · rcases HEMC.out with hem | ⟨hem, hl2⟩
        · rcases HEWC.out with hew | ⟨hew, hl3⟩
          · skip
            subst heu hem hew
            have hlz : (1000 : Int) < (len : Int) + (len' : Int) := by have := HL.out; have := HL'.out; omega
            clear HEU HEM HEW HU HM HV HEUC HEMC HEWC
            go_wp2
            go_ret
            exact ⟨by first | rfl | (simp; done), HB11.out⟩
          · skip
            subst heu hem hew
            have hlz : (1000 : Int) < (len : Int) + (len' : Int) := by have := HL.out; have := HL'.out; omega
            clear HEU HEM HEW HU HM HV HEUC HEMC HEWC
            go_wp2
            go_ret
            exact ⟨by first | rfl | (simp; done), HB11.out⟩
        · rcases HEWC.out with hew | ⟨hew, hl3⟩
          · skip
            subst heu hem hew
            have hlz : (1000 : Int) < (len : Int) + (len' : Int) := by have := HL.out; have := HL'.out; omega
            clear HEU HEM HEW HU HM HV HEUC HEMC HEWC
            go_wp2
            go_ret
            exact ⟨by first | rfl | (simp; done), HB11.out⟩
          · skip
            subst heu hem hew
            have hlz : (1000 : Int) < (len : Int) + (len' : Int) := by have := HL.out; have := HL'.out; omega
            clear HEU HEM HEW HU HM HV HEUC HEMC HEWC
            go_wp2
            go_ret
            exact ⟨by first | rfl | (simp; done), HB11.out⟩
end Go.Proofs.Ytomcngnfdflkkaa
