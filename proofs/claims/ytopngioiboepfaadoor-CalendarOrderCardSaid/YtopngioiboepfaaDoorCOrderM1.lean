/-
  The walk of the law on the order of deadlines: what is served by hand.
-/
import Derived.Test.YtopngioiboepfaaDoorCOrderKit
namespace Go.Proofs.YtopngioiboepfaaDoor
open Go.RowKit Cal

attribute [local go_sem ↓] Go.wp_at_zero Go.wp_at_succ

set_option maxRecDepth 100000 in
set_option maxHeartbeats 16000000 in
theorem order_main1 (day later days more which : Int) (l : List Int) (p : Option Addr) (b off cap len : Nat) (w : World) (hE : Tab w) (hS : Sl w p b off len l) (hcap : len ≤ cap) (hh : hol l = true) (h0 : 0 ≤ day) (h1 : day ≤ later) (h2 : later ≤ 36524) (h3 : 0 ≤ days) (h4 : days ≤ more) (h5 : more ≤ 1000) :
    Calls Tryd.prog 10 #[.int .i64 day, .int .i64 later, .int .i64 days, .int .i64 more, .int .i64 1, .int .i64 which, .slice p len cap] w fun e w' => e = .returned (.bool true) ∧ Below w.heap.size w w' := by
  have KH := Lib.hid (head_any w hE)
  have HS := Lib.hid hS
  have hlen := hS.1
  have KF := Lib.hid (few_is p cap len)
  have KR := Lib.hid (rHol_is l p b off cap len)
  have HH := Lib.hid hh
  have hq := (hol_iff l).1 hh
  have h100 : len ≤ 100 := by omega
  have HF : Hid (decide (len ≤ 150) = true) := decide_eq_true (by omega)
  have hm1 : (0 : Int) ≤ (len : Int) := by omega
  have HL := Lib.hid hlen
  clear hE hS hh hlen hq
  obtain ⟨o, ho⟩ : ∃ o, o = ovr day days 1 := ⟨_, rfl⟩
  obtain ⟨u, hu⟩ : ∃ u, u = ovr later more 1 := ⟨_, rfl⟩
  have hou : o ≤ u := by rw [ho, hu]; unfold ovr; split <;> omega
  have mono := DL_mono (l := l) hou
  obtain ⟨a, ha⟩ : ∃ a, a = wfV l o := ⟨_, rfl⟩
  obtain ⟨e, he⟩ : ∃ e, e = wfE l o := ⟨_, rfl⟩
  obtain ⟨c, hc⟩ : ∃ c, c = wfV l u := ⟨_, rfl⟩
  obtain ⟨f, hf⟩ : ∃ f, f = wfE l u := ⟨_, rfl⟩
  obtain ⟨g, hg⟩ : ∃ g, g = wfV l (day + 3 + days) := ⟨_, rfl⟩
  obtain ⟨i, hi⟩ : ∃ i, i = wfE l (day + 3 + days) := ⟨_, rfl⟩
  have K1 : Hid (∀ w, Sl w p b off len l → Calls Tryd.prog 25 #[.int .i64 day, .int .i64 days, .int .i64 1, .slice p len cap] w fun e' w' => e' = .returned (.tuple #[.int .i64 a, .int .i64 e]) ∧ ∃ q, w' = w.drewN q) := dead_is day days 1 l p b off cap len a e h0 (by omega) ⟨h3, by omega, by decide, HH.out⟩ (by rw [ha, ho]) (by rw [he, ho])
  have K2 : Hid (∀ w, Sl w p b off len l → Calls Tryd.prog 25 #[.int .i64 later, .int .i64 more, .int .i64 1, .slice p len cap] w fun e' w' => e' = .returned (.tuple #[.int .i64 c, .int .i64 f]) ∧ ∃ q, w' = w.drewN q) := dead_is later more 1 l p b off cap len c f (by omega) h2 ⟨by omega, h5, by decide, HH.out⟩ (by rw [hc, hu]) (by rw [hf, hu])
  have K3 : Hid (∀ w, Sl w p b off len l → Calls Tryd.prog 25 #[.int .i64 day, .int .i64 days, .int .i64 2, .slice p len cap] w fun e' w' => e' = .returned (.tuple #[.int .i64 g, .int .i64 i]) ∧ ∃ q, w' = w.drewN q) := dead_is day days 2 l p b off cap len g i h0 (by omega) ⟨h3, by omega, by decide, HH.out⟩ (by rw [hg]; congr 1; unfold ovr; rw [if_pos rfl]; omega) (by rw [hi]; congr 1; unfold ovr; rw [if_pos rfl]; omega)
  have K4 : Hid (day + 3 ≤ 36524 → ∀ w, Sl w p b off len l → Calls Tryd.prog 25 #[.int .i64 (day + 3), .int .i64 days, .int .i64 1, .slice p len cap] w fun e' w' => e' = .returned (.tuple #[.int .i64 g, .int .i64 i]) ∧ ∃ q, w' = w.drewN q) := fun h => dead_is (day + 3) days 1 l p b off cap len g i (by omega) h ⟨h3, by omega, by decide, HH.out⟩ (by rw [hg]; congr 1; unfold ovr; rw [if_neg (by decide)]; omega) (by rw [hi]; congr 1; unfold ovr; rw [if_neg (by decide)]; omega)
  have K5 : Hid (∀ k : Nat, ∃ x y : Int, (e = 0 → y = 0 ∧ x ≤ a) ∧ ∀ (p' : Option Addr) (b' off' cap' len' : Nat) (w : World), Sl w p' b' off' len' (l.eraseIdx k) → Calls Tryd.prog 25 #[.int .i64 day, .int .i64 days, .int .i64 1, .slice p' len' cap'] w fun e' w' => e' = .returned (.tuple #[.int .i64 x, .int .i64 y]) ∧ ∃ q, w' = w.drewN q) := fun k => by
    refine ⟨wfV (l.eraseIdx k) o, wfE (l.eraseIdx k) o, fun h => ?_, fun p' b' off' cap' len' w hS => dead_is day days 1 (l.eraseIdx k) p' b' off' cap' len' _ _ h0 (by omega) ⟨h3, by omega, by decide, hol_less HH.out k⟩ (by rw [ho]) (by rw [ho]) w hS⟩
    have fw := DL_fewer (k := l.eraseIdx k) (l := l) (d := o) (fun x hx => (List.eraseIdx_sublist l k).subset hx)
    rw [h] at he
    rw [ha]
    unfold wfV wfE at *
    by_cases q : DL l o < 36525
    · rw [if_pos q, if_pos (by omega), if_pos (by omega)]; exact ⟨rfl, fw⟩
    · rw [if_neg q] at he; omega
  have hcase : (e = 0 ∧ f = 0 ∧ a ≤ c) ∨ (f = 3 ∧ e = 0) ∨ (f = 3 ∧ e = 3) := by
    rw [he, hf, ha, hc]
    unfold wfV wfE
    by_cases q : DL l u < 36525
    · left; rw [if_pos q, if_pos q, if_pos (by omega), if_pos (by omega)]; exact ⟨rfl, rfl, mono⟩
    · right
      rw [if_neg q]
      by_cases q2 : DL l o < 36525
      · left; rw [if_pos q2]; exact ⟨rfl, rfl⟩
      · right; rw [if_neg q2]; exact ⟨rfl, rfl⟩
  clear ha he hc hf hg hi ho hu hou mono
  by_cases hl3 : day + 3 ≤ 36524
  · skip
    rcases hcase with ⟨rfl, rfl, hac⟩ | ⟨rfl, rfl⟩ | ⟨rfl, rfl⟩
    · by_cases hz0 : len = 0
      · have hz : ((len : Int) == 0) = true := by simp; omega
        clear hz0
        go_enter Tryd.func10, Tryd.ntmps10
        go_wp2_with fail
        refine KH.out.mono ?_
        rintro _ w1 ⟨rfl, hb1⟩
        have HB1 := Lib.hid hb1
        have HS1 := Lib.hid (HS.out.below hb1)
        clear hb1
        go_wp2_with fail
        refine (KF.out true HF.out _).mono ?_
        rintro _ w' ⟨rfl, rfl⟩
        go_wp2_with fail
        refine (KR.out true HH.out _ HS1.out).mono ?_
        rintro _ w2 ⟨rfl, hq⟩
        have HB2 := Lib.hid (Below.drew3 HB1.out hq)
        have HS2 := Lib.hid (HS1.out.drew hq)
        clear hq HB1 HS1
        go_wp2_with fail
        refine (K1.out _ HS2.out).mono ?_
        rintro _ w3 ⟨rfl, hq⟩
        have HB3 := Lib.hid (Below.drew3 HB2.out hq)
        have HS3 := Lib.hid (HS2.out.drew hq)
        clear hq HB2 HS2
        go_wp2_with fail
        refine (K2.out _ HS3.out).mono ?_
        rintro _ w4 ⟨rfl, hq⟩
        have HB4 := Lib.hid (Below.drew3 HB3.out hq)
        have HS4 := Lib.hid (HS3.out.drew hq)
        clear hq HB3 HS3
        go_wp2_with fail
        refine (K3.out _ HS4.out).mono ?_
        rintro _ w5 ⟨rfl, hq⟩
        have HB5 := Lib.hid (Below.drew3 HB4.out hq)
        have HS5 := Lib.hid (HS4.out.drew hq)
        clear hq HB4 HS4
        go_wp2_with fail
        refine ((K4.out hl3) _ HS5.out).mono ?_
        rintro _ w6 ⟨rfl, hq⟩
        have HB6 := Lib.hid (Below.drew3 HB5.out hq)
        have HS6 := Lib.hid (HS5.out.drew hq)
        clear hq HB5 HS5
        go_wp2
        go_ret
        exact ⟨by first | rfl | (simp; done) | (simp; omega), HB6.out⟩
      · skip
        go_enter Tryd.func10, Tryd.ntmps10
        go_wp2_with fail
        refine KH.out.mono ?_
        rintro _ w1 ⟨rfl, hb1⟩
        have HB1 := Lib.hid hb1
        have HS1 := Lib.hid (HS.out.below hb1)
        clear hb1
        go_wp2_with fail
        refine (KF.out true HF.out _).mono ?_
        rintro _ w' ⟨rfl, rfl⟩
        go_wp2_with fail
        refine (KR.out true HH.out _ HS1.out).mono ?_
        rintro _ w2 ⟨rfl, hq⟩
        have HB2 := Lib.hid (Below.drew3 HB1.out hq)
        have HS2 := Lib.hid (HS1.out.drew hq)
        clear hq HB1 HS1
        go_wp2_with fail
        refine (K1.out _ HS2.out).mono ?_
        rintro _ w3 ⟨rfl, hq⟩
        have HB3 := Lib.hid (Below.drew3 HB2.out hq)
        have HS3 := Lib.hid (HS2.out.drew hq)
        clear hq HB2 HS2
        go_wp2_with fail
        refine (K2.out _ HS3.out).mono ?_
        rintro _ w4 ⟨rfl, hq⟩
        have HB4 := Lib.hid (Below.drew3 HB3.out hq)
        have HS4 := Lib.hid (HS3.out.drew hq)
        clear hq HB3 HS3
        go_wp2_with fail
        refine (K3.out _ HS4.out).mono ?_
        rintro _ w5 ⟨rfl, hq⟩
        have HB5 := Lib.hid (Below.drew3 HB4.out hq)
        have HS5 := Lib.hid (HS4.out.drew hq)
        clear hq HB4 HS4
        go_wp2_with fail
        refine ((K4.out hl3) _ HS5.out).mono ?_
        rintro _ w6 ⟨rfl, hq⟩
        have HB6 := Lib.hid (Below.drew3 HB5.out hq)
        have HS6 := Lib.hid (HS5.out.drew hq)
        clear hq HB5 HS5
        obtain ⟨k, hk, hkm, t1, t2⟩ := place which len (by omega)
        obtain ⟨x, y, hxy, kx⟩ := K5.out k
        obtain ⟨rfl, hxa⟩ := hxy (by first | trivial | rfl)
        clear hxy
        have KX := Lib.hid kx
        clear kx K1 K2 K3 K4 K5
        have hz : ((len : Int) == 0) = false := by simp; omega
        have hkz : (k : Int) < (len : Int) := by omega
        have hk0 : (0 : Int) ≤ (k : Int) := by omega
        obtain ⟨tm, htm⟩ : ∃ tm, which.tmod (len : Int) = tm := ⟨_, rfl⟩
        rw [htm] at hkm t1 t2
        go_wp2_with fail
        rw [hkm]
        clear hkm
        have hp1 := HS6.out.2.1 (by omega)
        subst hp1
        have s1 : IntKind.i64.wrap ((k : Int) + 1) = (k : Int) + 1 := IntWalk.i64_in _ (by omega)
        have c0 : (0 : Int) ≤ (cap : Int) := by omega
        have c1 : (k : Int) ≤ (cap : Int) := by omega
        have c2 : (k : Int) + 1 ≤ (len : Int) := by omega
        have c3 : (0 : Int) ≤ (k : Int) + 1 := by omega
        have c4 : (len : Int) ≤ (cap : Int) := by omega
        have HBW := Lib.hid ((Below.refl w6.heap.size w6).alloc (Nat.le_refl _) (.cells #[] 3)).drew
        have HSW := Lib.hid (HS6.out.below HBW.out)
        go_region_held3 (fun w' => True) (trivial) (first | ((refine step_app (by rfl) _ _ (by rfl) w6.heap.size (.slice (some ⟨w6.heap.size, 0, none⟩) 0 0) [] (by rfl) (Own.nil w6).drew (some ⟨b, off, none⟩) ⟨b, off, none⟩ k cap (l.take k) (by rfl) rfl (by rw [List.length_take, HL.out]; omega) (HSW.out.front k) (by simp) (by omega) HBW.out.size ?_; intro v1 V1 own1 grow1)) | ((refine step_app (by rfl) _ _ (by rfl) w6.heap.size v1 ([] ++ l.take k) (by rfl) own1 (if cap = k + 1 then some ⟨b, off, none⟩ else some ⟨b, off + (k + 1), none⟩) (behind b off cap k) (len - (k + 1)) (cap - (k + 1)) (l.drop (k + 1)) (by rfl) (behind_eq b off cap k) (by rw [List.length_drop, HL.out]) ((HS6.out.below (HBW.out.grown grow1 HBW.out.size (Own.nil w6).block)).back hcap k) (by rw [List.nil_append, List.length_take, HL.out]; omega) (by omega) (Nat.le_trans HBW.out.size grow1.size) ?_; intro v2 V2 own2 grow2)))
        have HBV := Lib.hid (HB6.out.trans (((HBW.out.grown grow1 HBW.out.size (Own.nil w6).block).grown grow2 (Nat.le_trans HBW.out.size grow1.size) own1.block).mono HB6.out.size))
        have own3 : Own V2 w6.heap.size v2 (l.eraseIdx k) := by rw [← less_eq]; exact own2
        obtain ⟨p', b', off', len', cap', rfl, hsl⟩ := own3.reads (by have := (hol_iff _).1 (hol_less HH.out k); omega)
        have HSV := Lib.hid hsl
        clear own1 own2 own3 grow1 grow2 hsl
        generalize (if cap = k + 1 then some (⟨b, off, none⟩ : Addr) else some ⟨b, off + (k + 1), none⟩) = A
        go_wp2_with fail
        refine (KX.out p' b' off' cap' len' _ HSV.out).mono ?_
        rintro _ W ⟨rfl, hq⟩
        have HBX := Lib.hid (Below.drew3 HBV.out hq)
        clear hq
        go_wp2
        go_ret
        exact ⟨by first | rfl | (simp; done) | (simp; omega), HBX.out⟩
    · by_cases hz0 : len = 0
      · have hz : ((len : Int) == 0) = true := by simp; omega
        clear hz0
        go_enter Tryd.func10, Tryd.ntmps10
        go_wp2_with fail
        refine KH.out.mono ?_
        rintro _ w1 ⟨rfl, hb1⟩
        have HB1 := Lib.hid hb1
        have HS1 := Lib.hid (HS.out.below hb1)
        clear hb1
        go_wp2_with fail
        refine (KF.out true HF.out _).mono ?_
        rintro _ w' ⟨rfl, rfl⟩
        go_wp2_with fail
        refine (KR.out true HH.out _ HS1.out).mono ?_
        rintro _ w2 ⟨rfl, hq⟩
        have HB2 := Lib.hid (Below.drew3 HB1.out hq)
        have HS2 := Lib.hid (HS1.out.drew hq)
        clear hq HB1 HS1
        go_wp2_with fail
        refine (K1.out _ HS2.out).mono ?_
        rintro _ w3 ⟨rfl, hq⟩
        have HB3 := Lib.hid (Below.drew3 HB2.out hq)
        have HS3 := Lib.hid (HS2.out.drew hq)
        clear hq HB2 HS2
        go_wp2_with fail
        refine (K2.out _ HS3.out).mono ?_
        rintro _ w4 ⟨rfl, hq⟩
        have HB4 := Lib.hid (Below.drew3 HB3.out hq)
        have HS4 := Lib.hid (HS3.out.drew hq)
        clear hq HB3 HS3
        go_wp2_with fail
        refine (K3.out _ HS4.out).mono ?_
        rintro _ w5 ⟨rfl, hq⟩
        have HB5 := Lib.hid (Below.drew3 HB4.out hq)
        have HS5 := Lib.hid (HS4.out.drew hq)
        clear hq HB4 HS4
        go_wp2_with fail
        refine ((K4.out hl3) _ HS5.out).mono ?_
        rintro _ w6 ⟨rfl, hq⟩
        have HB6 := Lib.hid (Below.drew3 HB5.out hq)
        have HS6 := Lib.hid (HS5.out.drew hq)
        clear hq HB5 HS5
        go_wp2
        go_ret
        exact ⟨by first | rfl | (simp; done) | (simp; omega), HB6.out⟩
      · skip
        go_enter Tryd.func10, Tryd.ntmps10
        go_wp2_with fail
        refine KH.out.mono ?_
        rintro _ w1 ⟨rfl, hb1⟩
        have HB1 := Lib.hid hb1
        have HS1 := Lib.hid (HS.out.below hb1)
        clear hb1
        go_wp2_with fail
        refine (KF.out true HF.out _).mono ?_
        rintro _ w' ⟨rfl, rfl⟩
        go_wp2_with fail
        refine (KR.out true HH.out _ HS1.out).mono ?_
        rintro _ w2 ⟨rfl, hq⟩
        have HB2 := Lib.hid (Below.drew3 HB1.out hq)
        have HS2 := Lib.hid (HS1.out.drew hq)
        clear hq HB1 HS1
        go_wp2_with fail
        refine (K1.out _ HS2.out).mono ?_
        rintro _ w3 ⟨rfl, hq⟩
        have HB3 := Lib.hid (Below.drew3 HB2.out hq)
        have HS3 := Lib.hid (HS2.out.drew hq)
        clear hq HB2 HS2
        go_wp2_with fail
        refine (K2.out _ HS3.out).mono ?_
        rintro _ w4 ⟨rfl, hq⟩
        have HB4 := Lib.hid (Below.drew3 HB3.out hq)
        have HS4 := Lib.hid (HS3.out.drew hq)
        clear hq HB3 HS3
        go_wp2_with fail
        refine (K3.out _ HS4.out).mono ?_
        rintro _ w5 ⟨rfl, hq⟩
        have HB5 := Lib.hid (Below.drew3 HB4.out hq)
        have HS5 := Lib.hid (HS4.out.drew hq)
        clear hq HB4 HS4
        go_wp2_with fail
        refine ((K4.out hl3) _ HS5.out).mono ?_
        rintro _ w6 ⟨rfl, hq⟩
        have HB6 := Lib.hid (Below.drew3 HB5.out hq)
        have HS6 := Lib.hid (HS5.out.drew hq)
        clear hq HB5 HS5
        obtain ⟨k, hk, hkm, t1, t2⟩ := place which len (by omega)
        obtain ⟨x, y, hxy, kx⟩ := K5.out k
        obtain ⟨rfl, hxa⟩ := hxy (by first | trivial | rfl)
        clear hxy
        have KX := Lib.hid kx
        clear kx K1 K2 K3 K4 K5
        have hz : ((len : Int) == 0) = false := by simp; omega
        have hkz : (k : Int) < (len : Int) := by omega
        have hk0 : (0 : Int) ≤ (k : Int) := by omega
        obtain ⟨tm, htm⟩ : ∃ tm, which.tmod (len : Int) = tm := ⟨_, rfl⟩
        rw [htm] at hkm t1 t2
        go_wp2_with fail
        rw [hkm]
        clear hkm
        have hp1 := HS6.out.2.1 (by omega)
        subst hp1
        have s1 : IntKind.i64.wrap ((k : Int) + 1) = (k : Int) + 1 := IntWalk.i64_in _ (by omega)
        have c0 : (0 : Int) ≤ (cap : Int) := by omega
        have c1 : (k : Int) ≤ (cap : Int) := by omega
        have c2 : (k : Int) + 1 ≤ (len : Int) := by omega
        have c3 : (0 : Int) ≤ (k : Int) + 1 := by omega
        have c4 : (len : Int) ≤ (cap : Int) := by omega
        have HBW := Lib.hid ((Below.refl w6.heap.size w6).alloc (Nat.le_refl _) (.cells #[] 3)).drew
        have HSW := Lib.hid (HS6.out.below HBW.out)
        go_region_held3 (fun w' => True) (trivial) (first | ((refine step_app (by rfl) _ _ (by rfl) w6.heap.size (.slice (some ⟨w6.heap.size, 0, none⟩) 0 0) [] (by rfl) (Own.nil w6).drew (some ⟨b, off, none⟩) ⟨b, off, none⟩ k cap (l.take k) (by rfl) rfl (by rw [List.length_take, HL.out]; omega) (HSW.out.front k) (by simp) (by omega) HBW.out.size ?_; intro v1 V1 own1 grow1)) | ((refine step_app (by rfl) _ _ (by rfl) w6.heap.size v1 ([] ++ l.take k) (by rfl) own1 (if cap = k + 1 then some ⟨b, off, none⟩ else some ⟨b, off + (k + 1), none⟩) (behind b off cap k) (len - (k + 1)) (cap - (k + 1)) (l.drop (k + 1)) (by rfl) (behind_eq b off cap k) (by rw [List.length_drop, HL.out]) ((HS6.out.below (HBW.out.grown grow1 HBW.out.size (Own.nil w6).block)).back hcap k) (by rw [List.nil_append, List.length_take, HL.out]; omega) (by omega) (Nat.le_trans HBW.out.size grow1.size) ?_; intro v2 V2 own2 grow2)))
        have HBV := Lib.hid (HB6.out.trans (((HBW.out.grown grow1 HBW.out.size (Own.nil w6).block).grown grow2 (Nat.le_trans HBW.out.size grow1.size) own1.block).mono HB6.out.size))
        have own3 : Own V2 w6.heap.size v2 (l.eraseIdx k) := by rw [← less_eq]; exact own2
        obtain ⟨p', b', off', len', cap', rfl, hsl⟩ := own3.reads (by have := (hol_iff _).1 (hol_less HH.out k); omega)
        have HSV := Lib.hid hsl
        clear own1 own2 own3 grow1 grow2 hsl
        generalize (if cap = k + 1 then some (⟨b, off, none⟩ : Addr) else some ⟨b, off + (k + 1), none⟩) = A
        go_wp2_with fail
        refine (KX.out p' b' off' cap' len' _ HSV.out).mono ?_
        rintro _ W ⟨rfl, hq⟩
        have HBX := Lib.hid (Below.drew3 HBV.out hq)
        clear hq
        go_wp2
        go_ret
        exact ⟨by first | rfl | (simp; done) | (simp; omega), HBX.out⟩
    · by_cases hz0 : len = 0
      · have hz : ((len : Int) == 0) = true := by simp; omega
        clear hz0
        go_enter Tryd.func10, Tryd.ntmps10
        go_wp2_with fail
        refine KH.out.mono ?_
        rintro _ w1 ⟨rfl, hb1⟩
        have HB1 := Lib.hid hb1
        have HS1 := Lib.hid (HS.out.below hb1)
        clear hb1
        go_wp2_with fail
        refine (KF.out true HF.out _).mono ?_
        rintro _ w' ⟨rfl, rfl⟩
        go_wp2_with fail
        refine (KR.out true HH.out _ HS1.out).mono ?_
        rintro _ w2 ⟨rfl, hq⟩
        have HB2 := Lib.hid (Below.drew3 HB1.out hq)
        have HS2 := Lib.hid (HS1.out.drew hq)
        clear hq HB1 HS1
        go_wp2_with fail
        refine (K1.out _ HS2.out).mono ?_
        rintro _ w3 ⟨rfl, hq⟩
        have HB3 := Lib.hid (Below.drew3 HB2.out hq)
        have HS3 := Lib.hid (HS2.out.drew hq)
        clear hq HB2 HS2
        go_wp2_with fail
        refine (K2.out _ HS3.out).mono ?_
        rintro _ w4 ⟨rfl, hq⟩
        have HB4 := Lib.hid (Below.drew3 HB3.out hq)
        have HS4 := Lib.hid (HS3.out.drew hq)
        clear hq HB3 HS3
        go_wp2_with fail
        refine (K3.out _ HS4.out).mono ?_
        rintro _ w5 ⟨rfl, hq⟩
        have HB5 := Lib.hid (Below.drew3 HB4.out hq)
        have HS5 := Lib.hid (HS4.out.drew hq)
        clear hq HB4 HS4
        go_wp2_with fail
        refine ((K4.out hl3) _ HS5.out).mono ?_
        rintro _ w6 ⟨rfl, hq⟩
        have HB6 := Lib.hid (Below.drew3 HB5.out hq)
        have HS6 := Lib.hid (HS5.out.drew hq)
        clear hq HB5 HS5
        go_wp2
        go_ret
        exact ⟨by first | rfl | (simp; done) | (simp; omega), HB6.out⟩
      · skip
        go_enter Tryd.func10, Tryd.ntmps10
        go_wp2_with fail
        refine KH.out.mono ?_
        rintro _ w1 ⟨rfl, hb1⟩
        have HB1 := Lib.hid hb1
        have HS1 := Lib.hid (HS.out.below hb1)
        clear hb1
        go_wp2_with fail
        refine (KF.out true HF.out _).mono ?_
        rintro _ w' ⟨rfl, rfl⟩
        go_wp2_with fail
        refine (KR.out true HH.out _ HS1.out).mono ?_
        rintro _ w2 ⟨rfl, hq⟩
        have HB2 := Lib.hid (Below.drew3 HB1.out hq)
        have HS2 := Lib.hid (HS1.out.drew hq)
        clear hq HB1 HS1
        go_wp2_with fail
        refine (K1.out _ HS2.out).mono ?_
        rintro _ w3 ⟨rfl, hq⟩
        have HB3 := Lib.hid (Below.drew3 HB2.out hq)
        have HS3 := Lib.hid (HS2.out.drew hq)
        clear hq HB2 HS2
        go_wp2_with fail
        refine (K2.out _ HS3.out).mono ?_
        rintro _ w4 ⟨rfl, hq⟩
        have HB4 := Lib.hid (Below.drew3 HB3.out hq)
        have HS4 := Lib.hid (HS3.out.drew hq)
        clear hq HB3 HS3
        go_wp2_with fail
        refine (K3.out _ HS4.out).mono ?_
        rintro _ w5 ⟨rfl, hq⟩
        have HB5 := Lib.hid (Below.drew3 HB4.out hq)
        have HS5 := Lib.hid (HS4.out.drew hq)
        clear hq HB4 HS4
        go_wp2_with fail
        refine ((K4.out hl3) _ HS5.out).mono ?_
        rintro _ w6 ⟨rfl, hq⟩
        have HB6 := Lib.hid (Below.drew3 HB5.out hq)
        have HS6 := Lib.hid (HS5.out.drew hq)
        clear hq HB5 HS5
        obtain ⟨k, hk, hkm, t1, t2⟩ := place which len (by omega)
        obtain ⟨x, y, hxy, kx⟩ := K5.out k
        clear hxy
        have KX := Lib.hid kx
        clear kx K1 K2 K3 K4 K5
        have hz : ((len : Int) == 0) = false := by simp; omega
        have hkz : (k : Int) < (len : Int) := by omega
        have hk0 : (0 : Int) ≤ (k : Int) := by omega
        obtain ⟨tm, htm⟩ : ∃ tm, which.tmod (len : Int) = tm := ⟨_, rfl⟩
        rw [htm] at hkm t1 t2
        go_wp2_with fail
        rw [hkm]
        clear hkm
        have hp1 := HS6.out.2.1 (by omega)
        subst hp1
        have s1 : IntKind.i64.wrap ((k : Int) + 1) = (k : Int) + 1 := IntWalk.i64_in _ (by omega)
        have c0 : (0 : Int) ≤ (cap : Int) := by omega
        have c1 : (k : Int) ≤ (cap : Int) := by omega
        have c2 : (k : Int) + 1 ≤ (len : Int) := by omega
        have c3 : (0 : Int) ≤ (k : Int) + 1 := by omega
        have c4 : (len : Int) ≤ (cap : Int) := by omega
        have HBW := Lib.hid ((Below.refl w6.heap.size w6).alloc (Nat.le_refl _) (.cells #[] 3)).drew
        have HSW := Lib.hid (HS6.out.below HBW.out)
        go_region_held3 (fun w' => True) (trivial) (first | ((refine step_app (by rfl) _ _ (by rfl) w6.heap.size (.slice (some ⟨w6.heap.size, 0, none⟩) 0 0) [] (by rfl) (Own.nil w6).drew (some ⟨b, off, none⟩) ⟨b, off, none⟩ k cap (l.take k) (by rfl) rfl (by rw [List.length_take, HL.out]; omega) (HSW.out.front k) (by simp) (by omega) HBW.out.size ?_; intro v1 V1 own1 grow1)) | ((refine step_app (by rfl) _ _ (by rfl) w6.heap.size v1 ([] ++ l.take k) (by rfl) own1 (if cap = k + 1 then some ⟨b, off, none⟩ else some ⟨b, off + (k + 1), none⟩) (behind b off cap k) (len - (k + 1)) (cap - (k + 1)) (l.drop (k + 1)) (by rfl) (behind_eq b off cap k) (by rw [List.length_drop, HL.out]) ((HS6.out.below (HBW.out.grown grow1 HBW.out.size (Own.nil w6).block)).back hcap k) (by rw [List.nil_append, List.length_take, HL.out]; omega) (by omega) (Nat.le_trans HBW.out.size grow1.size) ?_; intro v2 V2 own2 grow2)))
        have HBV := Lib.hid (HB6.out.trans (((HBW.out.grown grow1 HBW.out.size (Own.nil w6).block).grown grow2 (Nat.le_trans HBW.out.size grow1.size) own1.block).mono HB6.out.size))
        have own3 : Own V2 w6.heap.size v2 (l.eraseIdx k) := by rw [← less_eq]; exact own2
        obtain ⟨p', b', off', len', cap', rfl, hsl⟩ := own3.reads (by have := (hol_iff _).1 (hol_less HH.out k); omega)
        have HSV := Lib.hid hsl
        clear own1 own2 own3 grow1 grow2 hsl
        generalize (if cap = k + 1 then some (⟨b, off, none⟩ : Addr) else some ⟨b, off + (k + 1), none⟩) = A
        go_wp2_with fail
        refine (KX.out p' b' off' cap' len' _ HSV.out).mono ?_
        rintro _ W ⟨rfl, hq⟩
        have HBX := Lib.hid (Below.drew3 HBV.out hq)
        clear hq
        go_wp2
        go_ret
        exact ⟨by first | rfl | (simp; done) | (simp; omega), HBX.out⟩
  · clear K3 K4
    rcases hcase with ⟨rfl, rfl, hac⟩ | ⟨rfl, rfl⟩ | ⟨rfl, rfl⟩
    · by_cases hz0 : len = 0
      · have hz : ((len : Int) == 0) = true := by simp; omega
        clear hz0
        go_enter Tryd.func10, Tryd.ntmps10
        go_wp2_with fail
        refine KH.out.mono ?_
        rintro _ w1 ⟨rfl, hb1⟩
        have HB1 := Lib.hid hb1
        have HS1 := Lib.hid (HS.out.below hb1)
        clear hb1
        go_wp2_with fail
        refine (KF.out true HF.out _).mono ?_
        rintro _ w' ⟨rfl, rfl⟩
        go_wp2_with fail
        refine (KR.out true HH.out _ HS1.out).mono ?_
        rintro _ w2 ⟨rfl, hq⟩
        have HB2 := Lib.hid (Below.drew3 HB1.out hq)
        have HS2 := Lib.hid (HS1.out.drew hq)
        clear hq HB1 HS1
        go_wp2_with fail
        refine (K1.out _ HS2.out).mono ?_
        rintro _ w3 ⟨rfl, hq⟩
        have HB3 := Lib.hid (Below.drew3 HB2.out hq)
        have HS3 := Lib.hid (HS2.out.drew hq)
        clear hq HB2 HS2
        go_wp2_with fail
        refine (K2.out _ HS3.out).mono ?_
        rintro _ w4 ⟨rfl, hq⟩
        have HB4 := Lib.hid (Below.drew3 HB3.out hq)
        have HS4 := Lib.hid (HS3.out.drew hq)
        clear hq HB3 HS3
        go_wp2
        go_ret
        exact ⟨by first | rfl | (simp; done) | (simp; omega), HB4.out⟩
      · skip
        go_enter Tryd.func10, Tryd.ntmps10
        go_wp2_with fail
        refine KH.out.mono ?_
        rintro _ w1 ⟨rfl, hb1⟩
        have HB1 := Lib.hid hb1
        have HS1 := Lib.hid (HS.out.below hb1)
        clear hb1
        go_wp2_with fail
        refine (KF.out true HF.out _).mono ?_
        rintro _ w' ⟨rfl, rfl⟩
        go_wp2_with fail
        refine (KR.out true HH.out _ HS1.out).mono ?_
        rintro _ w2 ⟨rfl, hq⟩
        have HB2 := Lib.hid (Below.drew3 HB1.out hq)
        have HS2 := Lib.hid (HS1.out.drew hq)
        clear hq HB1 HS1
        go_wp2_with fail
        refine (K1.out _ HS2.out).mono ?_
        rintro _ w3 ⟨rfl, hq⟩
        have HB3 := Lib.hid (Below.drew3 HB2.out hq)
        have HS3 := Lib.hid (HS2.out.drew hq)
        clear hq HB2 HS2
        go_wp2_with fail
        refine (K2.out _ HS3.out).mono ?_
        rintro _ w4 ⟨rfl, hq⟩
        have HB4 := Lib.hid (Below.drew3 HB3.out hq)
        have HS4 := Lib.hid (HS3.out.drew hq)
        clear hq HB3 HS3
        obtain ⟨k, hk, hkm, t1, t2⟩ := place which len (by omega)
        obtain ⟨x, y, hxy, kx⟩ := K5.out k
        obtain ⟨rfl, hxa⟩ := hxy (by first | trivial | rfl)
        clear hxy
        have KX := Lib.hid kx
        clear kx K1 K2 K5
        have hz : ((len : Int) == 0) = false := by simp; omega
        have hkz : (k : Int) < (len : Int) := by omega
        have hk0 : (0 : Int) ≤ (k : Int) := by omega
        obtain ⟨tm, htm⟩ : ∃ tm, which.tmod (len : Int) = tm := ⟨_, rfl⟩
        rw [htm] at hkm t1 t2
        go_wp2_with fail
        rw [hkm]
        clear hkm
        have hp1 := HS4.out.2.1 (by omega)
        subst hp1
        have s1 : IntKind.i64.wrap ((k : Int) + 1) = (k : Int) + 1 := IntWalk.i64_in _ (by omega)
        have c0 : (0 : Int) ≤ (cap : Int) := by omega
        have c1 : (k : Int) ≤ (cap : Int) := by omega
        have c2 : (k : Int) + 1 ≤ (len : Int) := by omega
        have c3 : (0 : Int) ≤ (k : Int) + 1 := by omega
        have c4 : (len : Int) ≤ (cap : Int) := by omega
        have HBW := Lib.hid ((Below.refl w4.heap.size w4).alloc (Nat.le_refl _) (.cells #[] 3)).drew
        have HSW := Lib.hid (HS4.out.below HBW.out)
        go_region_held3 (fun w' => True) (trivial) (first | ((refine step_app (by rfl) _ _ (by rfl) w4.heap.size (.slice (some ⟨w4.heap.size, 0, none⟩) 0 0) [] (by rfl) (Own.nil w4).drew (some ⟨b, off, none⟩) ⟨b, off, none⟩ k cap (l.take k) (by rfl) rfl (by rw [List.length_take, HL.out]; omega) (HSW.out.front k) (by simp) (by omega) HBW.out.size ?_; intro v1 V1 own1 grow1)) | ((refine step_app (by rfl) _ _ (by rfl) w4.heap.size v1 ([] ++ l.take k) (by rfl) own1 (if cap = k + 1 then some ⟨b, off, none⟩ else some ⟨b, off + (k + 1), none⟩) (behind b off cap k) (len - (k + 1)) (cap - (k + 1)) (l.drop (k + 1)) (by rfl) (behind_eq b off cap k) (by rw [List.length_drop, HL.out]) ((HS4.out.below (HBW.out.grown grow1 HBW.out.size (Own.nil w4).block)).back hcap k) (by rw [List.nil_append, List.length_take, HL.out]; omega) (by omega) (Nat.le_trans HBW.out.size grow1.size) ?_; intro v2 V2 own2 grow2)))
        have HBV := Lib.hid (HB4.out.trans (((HBW.out.grown grow1 HBW.out.size (Own.nil w4).block).grown grow2 (Nat.le_trans HBW.out.size grow1.size) own1.block).mono HB4.out.size))
        have own3 : Own V2 w4.heap.size v2 (l.eraseIdx k) := by rw [← less_eq]; exact own2
        obtain ⟨p', b', off', len', cap', rfl, hsl⟩ := own3.reads (by have := (hol_iff _).1 (hol_less HH.out k); omega)
        have HSV := Lib.hid hsl
        clear own1 own2 own3 grow1 grow2 hsl
        generalize (if cap = k + 1 then some (⟨b, off, none⟩ : Addr) else some ⟨b, off + (k + 1), none⟩) = A
        go_wp2_with fail
        refine (KX.out p' b' off' cap' len' _ HSV.out).mono ?_
        rintro _ W ⟨rfl, hq⟩
        have HBX := Lib.hid (Below.drew3 HBV.out hq)
        clear hq
        go_wp2
        go_ret
        exact ⟨by first | rfl | (simp; done) | (simp; omega), HBX.out⟩
    · by_cases hz0 : len = 0
      · have hz : ((len : Int) == 0) = true := by simp; omega
        clear hz0
        go_enter Tryd.func10, Tryd.ntmps10
        go_wp2_with fail
        refine KH.out.mono ?_
        rintro _ w1 ⟨rfl, hb1⟩
        have HB1 := Lib.hid hb1
        have HS1 := Lib.hid (HS.out.below hb1)
        clear hb1
        go_wp2_with fail
        refine (KF.out true HF.out _).mono ?_
        rintro _ w' ⟨rfl, rfl⟩
        go_wp2_with fail
        refine (KR.out true HH.out _ HS1.out).mono ?_
        rintro _ w2 ⟨rfl, hq⟩
        have HB2 := Lib.hid (Below.drew3 HB1.out hq)
        have HS2 := Lib.hid (HS1.out.drew hq)
        clear hq HB1 HS1
        go_wp2_with fail
        refine (K1.out _ HS2.out).mono ?_
        rintro _ w3 ⟨rfl, hq⟩
        have HB3 := Lib.hid (Below.drew3 HB2.out hq)
        have HS3 := Lib.hid (HS2.out.drew hq)
        clear hq HB2 HS2
        go_wp2_with fail
        refine (K2.out _ HS3.out).mono ?_
        rintro _ w4 ⟨rfl, hq⟩
        have HB4 := Lib.hid (Below.drew3 HB3.out hq)
        have HS4 := Lib.hid (HS3.out.drew hq)
        clear hq HB3 HS3
        go_wp2
        go_ret
        exact ⟨by first | rfl | (simp; done) | (simp; omega), HB4.out⟩
      · skip
        go_enter Tryd.func10, Tryd.ntmps10
        go_wp2_with fail
        refine KH.out.mono ?_
        rintro _ w1 ⟨rfl, hb1⟩
        have HB1 := Lib.hid hb1
        have HS1 := Lib.hid (HS.out.below hb1)
        clear hb1
        go_wp2_with fail
        refine (KF.out true HF.out _).mono ?_
        rintro _ w' ⟨rfl, rfl⟩
        go_wp2_with fail
        refine (KR.out true HH.out _ HS1.out).mono ?_
        rintro _ w2 ⟨rfl, hq⟩
        have HB2 := Lib.hid (Below.drew3 HB1.out hq)
        have HS2 := Lib.hid (HS1.out.drew hq)
        clear hq HB1 HS1
        go_wp2_with fail
        refine (K1.out _ HS2.out).mono ?_
        rintro _ w3 ⟨rfl, hq⟩
        have HB3 := Lib.hid (Below.drew3 HB2.out hq)
        have HS3 := Lib.hid (HS2.out.drew hq)
        clear hq HB2 HS2
        go_wp2_with fail
        refine (K2.out _ HS3.out).mono ?_
        rintro _ w4 ⟨rfl, hq⟩
        have HB4 := Lib.hid (Below.drew3 HB3.out hq)
        have HS4 := Lib.hid (HS3.out.drew hq)
        clear hq HB3 HS3
        obtain ⟨k, hk, hkm, t1, t2⟩ := place which len (by omega)
        obtain ⟨x, y, hxy, kx⟩ := K5.out k
        obtain ⟨rfl, hxa⟩ := hxy (by first | trivial | rfl)
        clear hxy
        have KX := Lib.hid kx
        clear kx K1 K2 K5
        have hz : ((len : Int) == 0) = false := by simp; omega
        have hkz : (k : Int) < (len : Int) := by omega
        have hk0 : (0 : Int) ≤ (k : Int) := by omega
        obtain ⟨tm, htm⟩ : ∃ tm, which.tmod (len : Int) = tm := ⟨_, rfl⟩
        rw [htm] at hkm t1 t2
        go_wp2_with fail
        rw [hkm]
        clear hkm
        have hp1 := HS4.out.2.1 (by omega)
        subst hp1
        have s1 : IntKind.i64.wrap ((k : Int) + 1) = (k : Int) + 1 := IntWalk.i64_in _ (by omega)
        have c0 : (0 : Int) ≤ (cap : Int) := by omega
        have c1 : (k : Int) ≤ (cap : Int) := by omega
        have c2 : (k : Int) + 1 ≤ (len : Int) := by omega
        have c3 : (0 : Int) ≤ (k : Int) + 1 := by omega
        have c4 : (len : Int) ≤ (cap : Int) := by omega
        have HBW := Lib.hid ((Below.refl w4.heap.size w4).alloc (Nat.le_refl _) (.cells #[] 3)).drew
        have HSW := Lib.hid (HS4.out.below HBW.out)
        go_region_held3 (fun w' => True) (trivial) (first | ((refine step_app (by rfl) _ _ (by rfl) w4.heap.size (.slice (some ⟨w4.heap.size, 0, none⟩) 0 0) [] (by rfl) (Own.nil w4).drew (some ⟨b, off, none⟩) ⟨b, off, none⟩ k cap (l.take k) (by rfl) rfl (by rw [List.length_take, HL.out]; omega) (HSW.out.front k) (by simp) (by omega) HBW.out.size ?_; intro v1 V1 own1 grow1)) | ((refine step_app (by rfl) _ _ (by rfl) w4.heap.size v1 ([] ++ l.take k) (by rfl) own1 (if cap = k + 1 then some ⟨b, off, none⟩ else some ⟨b, off + (k + 1), none⟩) (behind b off cap k) (len - (k + 1)) (cap - (k + 1)) (l.drop (k + 1)) (by rfl) (behind_eq b off cap k) (by rw [List.length_drop, HL.out]) ((HS4.out.below (HBW.out.grown grow1 HBW.out.size (Own.nil w4).block)).back hcap k) (by rw [List.nil_append, List.length_take, HL.out]; omega) (by omega) (Nat.le_trans HBW.out.size grow1.size) ?_; intro v2 V2 own2 grow2)))
        have HBV := Lib.hid (HB4.out.trans (((HBW.out.grown grow1 HBW.out.size (Own.nil w4).block).grown grow2 (Nat.le_trans HBW.out.size grow1.size) own1.block).mono HB4.out.size))
        have own3 : Own V2 w4.heap.size v2 (l.eraseIdx k) := by rw [← less_eq]; exact own2
        obtain ⟨p', b', off', len', cap', rfl, hsl⟩ := own3.reads (by have := (hol_iff _).1 (hol_less HH.out k); omega)
        have HSV := Lib.hid hsl
        clear own1 own2 own3 grow1 grow2 hsl
        generalize (if cap = k + 1 then some (⟨b, off, none⟩ : Addr) else some ⟨b, off + (k + 1), none⟩) = A
        go_wp2_with fail
        refine (KX.out p' b' off' cap' len' _ HSV.out).mono ?_
        rintro _ W ⟨rfl, hq⟩
        have HBX := Lib.hid (Below.drew3 HBV.out hq)
        clear hq
        go_wp2
        go_ret
        exact ⟨by first | rfl | (simp; done) | (simp; omega), HBX.out⟩
    · by_cases hz0 : len = 0
      · have hz : ((len : Int) == 0) = true := by simp; omega
        clear hz0
        go_enter Tryd.func10, Tryd.ntmps10
        go_wp2_with fail
        refine KH.out.mono ?_
        rintro _ w1 ⟨rfl, hb1⟩
        have HB1 := Lib.hid hb1
        have HS1 := Lib.hid (HS.out.below hb1)
        clear hb1
        go_wp2_with fail
        refine (KF.out true HF.out _).mono ?_
        rintro _ w' ⟨rfl, rfl⟩
        go_wp2_with fail
        refine (KR.out true HH.out _ HS1.out).mono ?_
        rintro _ w2 ⟨rfl, hq⟩
        have HB2 := Lib.hid (Below.drew3 HB1.out hq)
        have HS2 := Lib.hid (HS1.out.drew hq)
        clear hq HB1 HS1
        go_wp2_with fail
        refine (K1.out _ HS2.out).mono ?_
        rintro _ w3 ⟨rfl, hq⟩
        have HB3 := Lib.hid (Below.drew3 HB2.out hq)
        have HS3 := Lib.hid (HS2.out.drew hq)
        clear hq HB2 HS2
        go_wp2_with fail
        refine (K2.out _ HS3.out).mono ?_
        rintro _ w4 ⟨rfl, hq⟩
        have HB4 := Lib.hid (Below.drew3 HB3.out hq)
        have HS4 := Lib.hid (HS3.out.drew hq)
        clear hq HB3 HS3
        go_wp2
        go_ret
        exact ⟨by first | rfl | (simp; done) | (simp; omega), HB4.out⟩
      · skip
        go_enter Tryd.func10, Tryd.ntmps10
        go_wp2_with fail
        refine KH.out.mono ?_
        rintro _ w1 ⟨rfl, hb1⟩
        have HB1 := Lib.hid hb1
        have HS1 := Lib.hid (HS.out.below hb1)
        clear hb1
        go_wp2_with fail
        refine (KF.out true HF.out _).mono ?_
        rintro _ w' ⟨rfl, rfl⟩
        go_wp2_with fail
        refine (KR.out true HH.out _ HS1.out).mono ?_
        rintro _ w2 ⟨rfl, hq⟩
        have HB2 := Lib.hid (Below.drew3 HB1.out hq)
        have HS2 := Lib.hid (HS1.out.drew hq)
        clear hq HB1 HS1
        go_wp2_with fail
        refine (K1.out _ HS2.out).mono ?_
        rintro _ w3 ⟨rfl, hq⟩
        have HB3 := Lib.hid (Below.drew3 HB2.out hq)
        have HS3 := Lib.hid (HS2.out.drew hq)
        clear hq HB2 HS2
        go_wp2_with fail
        refine (K2.out _ HS3.out).mono ?_
        rintro _ w4 ⟨rfl, hq⟩
        have HB4 := Lib.hid (Below.drew3 HB3.out hq)
        have HS4 := Lib.hid (HS3.out.drew hq)
        clear hq HB3 HS3
        obtain ⟨k, hk, hkm, t1, t2⟩ := place which len (by omega)
        obtain ⟨x, y, hxy, kx⟩ := K5.out k
        clear hxy
        have KX := Lib.hid kx
        clear kx K1 K2 K5
        have hz : ((len : Int) == 0) = false := by simp; omega
        have hkz : (k : Int) < (len : Int) := by omega
        have hk0 : (0 : Int) ≤ (k : Int) := by omega
        obtain ⟨tm, htm⟩ : ∃ tm, which.tmod (len : Int) = tm := ⟨_, rfl⟩
        rw [htm] at hkm t1 t2
        go_wp2_with fail
        rw [hkm]
        clear hkm
        have hp1 := HS4.out.2.1 (by omega)
        subst hp1
        have s1 : IntKind.i64.wrap ((k : Int) + 1) = (k : Int) + 1 := IntWalk.i64_in _ (by omega)
        have c0 : (0 : Int) ≤ (cap : Int) := by omega
        have c1 : (k : Int) ≤ (cap : Int) := by omega
        have c2 : (k : Int) + 1 ≤ (len : Int) := by omega
        have c3 : (0 : Int) ≤ (k : Int) + 1 := by omega
        have c4 : (len : Int) ≤ (cap : Int) := by omega
        have HBW := Lib.hid ((Below.refl w4.heap.size w4).alloc (Nat.le_refl _) (.cells #[] 3)).drew
        have HSW := Lib.hid (HS4.out.below HBW.out)
        go_region_held3 (fun w' => True) (trivial) (first | ((refine step_app (by rfl) _ _ (by rfl) w4.heap.size (.slice (some ⟨w4.heap.size, 0, none⟩) 0 0) [] (by rfl) (Own.nil w4).drew (some ⟨b, off, none⟩) ⟨b, off, none⟩ k cap (l.take k) (by rfl) rfl (by rw [List.length_take, HL.out]; omega) (HSW.out.front k) (by simp) (by omega) HBW.out.size ?_; intro v1 V1 own1 grow1)) | ((refine step_app (by rfl) _ _ (by rfl) w4.heap.size v1 ([] ++ l.take k) (by rfl) own1 (if cap = k + 1 then some ⟨b, off, none⟩ else some ⟨b, off + (k + 1), none⟩) (behind b off cap k) (len - (k + 1)) (cap - (k + 1)) (l.drop (k + 1)) (by rfl) (behind_eq b off cap k) (by rw [List.length_drop, HL.out]) ((HS4.out.below (HBW.out.grown grow1 HBW.out.size (Own.nil w4).block)).back hcap k) (by rw [List.nil_append, List.length_take, HL.out]; omega) (by omega) (Nat.le_trans HBW.out.size grow1.size) ?_; intro v2 V2 own2 grow2)))
        have HBV := Lib.hid (HB4.out.trans (((HBW.out.grown grow1 HBW.out.size (Own.nil w4).block).grown grow2 (Nat.le_trans HBW.out.size grow1.size) own1.block).mono HB4.out.size))
        have own3 : Own V2 w4.heap.size v2 (l.eraseIdx k) := by rw [← less_eq]; exact own2
        obtain ⟨p', b', off', len', cap', rfl, hsl⟩ := own3.reads (by have := (hol_iff _).1 (hol_less HH.out k); omega)
        have HSV := Lib.hid hsl
        clear own1 own2 own3 grow1 grow2 hsl
        generalize (if cap = k + 1 then some (⟨b, off, none⟩ : Addr) else some ⟨b, off + (k + 1), none⟩) = A
        go_wp2_with fail
        refine (KX.out p' b' off' cap' len' _ HSV.out).mono ?_
        rintro _ W ⟨rfl, hq⟩
        have HBX := Lib.hid (Below.drew3 HBV.out hq)
        clear hq
        go_wp2
        go_ret
        exact ⟨by first | rfl | (simp; done) | (simp; omega), HBX.out⟩
end Go.Proofs.YtopngioiboepfaaDoor
