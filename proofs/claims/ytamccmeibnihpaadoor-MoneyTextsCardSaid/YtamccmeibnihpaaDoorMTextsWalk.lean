/-
  The walk of the law on texts.
-/
import Derived.Test.YtamccmeibnihpaaDoorMHead
import Derived.Test.YtamccmeibnihpaaDoorMWhole
import Derived.Test.YtamccmeibnihpaaDoorMTextMath
namespace Go.Proofs.YtamccmeibnihpaaDoor
open Go.RowKit

theorem txM_len (c : Int) (h : amt c = true) : (txM c).length ≤ 1000000 := by
  have hb := (amt_iff c).1 h
  have ha : 0 ≤ ab c ∧ ab c ≤ 1000000000 := by unfold ab; split <;> omega
  have l1 := Lib.itoa_length_le (ab c / 100) (by omega) (by omega)
  have l2 := Lib.itoa_length_le (ab c / 10 % 10) (by omega) (by omega)
  have l3 := Lib.itoa_length_le (ab c % 10) (by omega) (by omega)
  have e : (txA (ab c)).length ≤ 100 := by
    unfold txA
    simp only [List.length_append, List.length_cons, List.length_nil]; omega
  unfold txM
  split
  · simp only [List.length_append, List.length_cons, List.length_nil]; omega
  · omega

set_option maxRecDepth 100000 in
set_option maxHeartbeats 4000000 in
theorem texts_law (c : Int) (s : ByteArray) (w : World) (hE : Tab w) (hR : Rng w) (_c0 : -9223372036854775808 ≤ c) (_c1 : c ≤ 9223372036854775807) (hs : s.size ≤ 281474976710656) :
    Calls Tryd.prog 8 #[.int .i64 c, .string s] w fun e w' => e = .returned (.bool true) ∧ Below w.heap.size w w' := by
  have HE := Lib.hid hE
  have HR := Lib.hid hR
  obtain ⟨k, hk⟩ : ∃ k, k = min s.size 100 := ⟨_, rfl⟩
  have hkz : min (s.size : Int) 100 = (k : Int) := by omega
  have hks : k ≤ s.size := by omega
  have hk100 : k ≤ 100 := by omega
  obtain ⟨l, hl⟩ : ∃ l, l = s.data.toList.take k := ⟨_, rfl⟩
  have hll : l.length ≤ 1000000 := by rw [hl, List.length_take]; omega
  have HX : Hid (s.extract 0 k = bs l) := by show _ = _; rw [ext_take, hl]
  obtain ⟨n, g, hpar⟩ : ∃ n g, parM l = (n, g) := ⟨_, _, rfl⟩
  have KT := Lib.hid (fun (w : World) (h : Tab w) => text_any c w h)
  have KP := Lib.hid (fun (w : World) (h : Rng w) => parse_any l w h hll)
  rw [hpar] at KP
  have KA := Lib.hid (fun w : World => ramount_any c w)
  have hok := par_ok hpar
  clear hE hR hk hl hpar hll
  cases hc : amt c with
  | true =>
    have e1 : texT c = txM c := by unfold texT; rw [if_pos hc]
    have e2 : texE c = 0 := by unfold texE; rw [if_pos hc]
    rw [e1, e2] at KT
    have KQ := Lib.hid (fun (w : World) (h : Rng w) => parse_any (txM c) w h (txM_len c hc))
    rw [par_txt hc] at KQ
    have cc : (c == c) = true := by simp
    clear e1 e2 hc KA
    generalize txM c = tx at KT KQ
    rcases hok with ⟨rfl, ha, ht⟩ | ⟨rfl, hg⟩
    · have KU := Lib.hid (fun (w : World) (h : Tab w) => text_any n w h)
      have e1 : texT n = l := by unfold texT; rw [if_pos ha, ht]
      have e2 : texE n = 0 := by unfold texE; rw [if_pos ha]
      rw [e1, e2] at KU
      clear e1 e2 ha ht
      go_enter Tryd.func8, Tryd.ntmps8
      go_wp2_with fail
      refine (head_any _ HE.out).mono ?_
      rintro _ w0 ⟨rfl, hb⟩
      have HB0 : Aside (Below w.heap.size w w0) := hb
      clear hb
      go_wp2_with fail
      refine (KT.out _ (HE.out.below HB0.out)).mono ?_
      rintro _ w1 ⟨rfl, hb⟩
      have HB1 : Aside (Below w.heap.size w w1) := HB0.out.trans (hb.mono HB0.out.size)
      clear hb HB0
      go_wp2_with fail
      refine (KQ.out _ (HR.out.below HB1.out)).mono ?_
      rintro _ w2 ⟨rfl, hb⟩
      have HB2 : Aside (Below w.heap.size w w2) := HB1.out.trans (hb.mono HB1.out.size)
      clear hb HB1
      go_wp2_with fail
      try rw [HX.out]
      refine (KP.out _ (HR.out.below HB2.out)).mono ?_
      rintro _ w3 ⟨rfl, hb⟩
      have HB3 : Aside (Below w.heap.size w w3) := HB2.out.trans (hb.mono HB2.out.size)
      clear hb HB2
      go_wp2_with fail
      refine (KU.out _ (HE.out.below HB3.out)).mono ?_
      rintro _ w4 ⟨rfl, hb⟩
      have HB4 : Aside (Below w.heap.size w w4) := HB3.out.trans (hb.mono HB3.out.size)
      clear hb HB3
      go_wp2
      go_ret
      exact ⟨rfl, HB4.out⟩
    · rcases hg with rfl | rfl
      all_goals
        go_enter Tryd.func8, Tryd.ntmps8
        go_wp2_with fail
        refine (head_any _ HE.out).mono ?_
        rintro _ w0 ⟨rfl, hb⟩
        have HB0 : Aside (Below w.heap.size w w0) := hb
        clear hb
        go_wp2_with fail
        refine (KT.out _ (HE.out.below HB0.out)).mono ?_
        rintro _ w1 ⟨rfl, hb⟩
        have HB1 : Aside (Below w.heap.size w w1) := HB0.out.trans (hb.mono HB0.out.size)
        clear hb HB0
        go_wp2_with fail
        refine (KQ.out _ (HR.out.below HB1.out)).mono ?_
        rintro _ w2 ⟨rfl, hb⟩
        have HB2 : Aside (Below w.heap.size w w2) := HB1.out.trans (hb.mono HB1.out.size)
        clear hb HB1
        go_wp2_with fail
        try rw [HX.out]
        refine (KP.out _ (HR.out.below HB2.out)).mono ?_
        rintro _ w3 ⟨rfl, hb⟩
        have HB3 : Aside (Below w.heap.size w w3) := HB2.out.trans (hb.mono HB2.out.size)
        clear hb HB2
        go_wp2
        go_ret
        exact ⟨rfl, HB3.out⟩
  | false =>
    have e1 : texT c = [] := by unfold texT; rw [hc, if_neg (by simp)]
    have e2 : texE c = 1 := by unfold texE; rw [hc, if_neg (by simp)]
    rw [e1, e2] at KT
    rw [hc] at KA
    clear e1 e2 hc
    rcases hok with ⟨rfl, ha, ht⟩ | ⟨rfl, hg⟩
    · have KU := Lib.hid (fun (w : World) (h : Tab w) => text_any n w h)
      have e1 : texT n = l := by unfold texT; rw [if_pos ha, ht]
      have e2 : texE n = 0 := by unfold texE; rw [if_pos ha]
      rw [e1, e2] at KU
      clear e1 e2 ha ht
      go_enter Tryd.func8, Tryd.ntmps8
      go_wp2_with fail
      refine (head_any _ HE.out).mono ?_
      rintro _ w0 ⟨rfl, hb⟩
      have HB0 : Aside (Below w.heap.size w w0) := hb
      clear hb
      go_wp2_with fail
      refine (KT.out _ (HE.out.below HB0.out)).mono ?_
      rintro _ w1 ⟨rfl, hb⟩
      have HB1 : Aside (Below w.heap.size w w1) := HB0.out.trans (hb.mono HB0.out.size)
      clear hb HB0
      go_wp2_with fail
      refine (KA.out _).mono ?_
      rintro _ wa ⟨rfl, rfl⟩
      go_wp2_with fail
      try rw [HX.out]
      refine (KP.out _ (HR.out.below HB1.out)).mono ?_
      rintro _ w2 ⟨rfl, hb⟩
      have HB2 : Aside (Below w.heap.size w w2) := HB1.out.trans (hb.mono HB1.out.size)
      clear hb HB1
      go_wp2_with fail
      refine (KU.out _ (HE.out.below HB2.out)).mono ?_
      rintro _ w3 ⟨rfl, hb⟩
      have HB3 : Aside (Below w.heap.size w w3) := HB2.out.trans (hb.mono HB2.out.size)
      clear hb HB2
      go_wp2
      go_ret
      exact ⟨rfl, HB3.out⟩
    · rcases hg with rfl | rfl
      all_goals
        go_enter Tryd.func8, Tryd.ntmps8
        go_wp2_with fail
        refine (head_any _ HE.out).mono ?_
        rintro _ w0 ⟨rfl, hb⟩
        have HB0 : Aside (Below w.heap.size w w0) := hb
        clear hb
        go_wp2_with fail
        refine (KT.out _ (HE.out.below HB0.out)).mono ?_
        rintro _ w1 ⟨rfl, hb⟩
        have HB1 : Aside (Below w.heap.size w w1) := HB0.out.trans (hb.mono HB0.out.size)
        clear hb HB0
        go_wp2_with fail
        refine (KA.out _).mono ?_
        rintro _ wa ⟨rfl, rfl⟩
        go_wp2_with fail
        try rw [HX.out]
        refine (KP.out _ (HR.out.below HB1.out)).mono ?_
        rintro _ w2 ⟨rfl, hb⟩
        have HB2 : Aside (Below w.heap.size w w2) := HB1.out.trans (hb.mono HB1.out.size)
        clear hb HB1
        go_wp2
        go_ret
        exact ⟨rfl, HB2.out⟩
end Go.Proofs.YtamccmeibnihpaaDoor
