/-
  The walk of the law that money is the reference's.
-/
import Derived.Test.YtamccmeibnihpaaGreatDoorMHead
import Derived.Test.YtamccmeibnihpaaGreatDoorMFew
import Derived.Test.YtamccmeibnihpaaGreatDoorMRefA
import Derived.Test.YtamccmeibnihpaaGreatDoorMRefT
import Derived.Test.YtamccmeibnihpaaGreatDoorMRefQ
import Derived.Test.YtamccmeibnihpaaGreatDoorMRefV
namespace Go.Proofs.YtamccmeibnihpaaGreatDoor
open Go.RowKit

theorem texT_len (c : Int) : (bs (texT c)).size ≤ 1000000 := by
  rw [bs_size]
  unfold texT
  split
  · rename_i h
    have hb := (amt_iff c).1 h
    obtain ⟨a, ha⟩ : ∃ a : Nat, (a : Int) = ab c := ⟨(ab c).toNat, by unfold ab; split <;> omega⟩
    have ha2 : a ≤ 1000000000 := by have : ab c ≤ 1000000000 := by unfold ab; split <;> omega
                                    omega
    have l1 : (Lib.decDigits (a / 100)).length ≤ 20 := by rw [Lib.decDigits_length]; exact Lib.nDigits_le20 _ (by omega)
    unfold txM
    rw [← ha, txA_nat]
    split <;> simp only [List.length_append, List.length_cons, List.length_nil] <;> omega
  · simp

/-- What stays: all that was there, and the number in its box. -/
structure Kept (w w1 : World) (n d : Int) : Prop where
  bel : Below w.heap.size w w1
  box : At2 w1 w.heap.size (.int .i64 n) (.int .i64 d)
  lt : w.heap.size < w1.heap.size
theorem Kept.step {w w1 w2 : World} {n d : Int} (h : Kept w w1 n d) (hb : Below w1.heap.size w1 w2) : Kept w w2 n d :=
  ⟨h.bel.trans (hb.mono h.bel.size), h.box.below hb h.lt, Nat.lt_of_lt_of_le h.lt hb.size⟩

set_option maxRecDepth 100000 in
set_option maxHeartbeats 8000000 in
theorem match_law (l v : List Int) (p1 p2 : Option Addr) (b1 o1 c1 n1 b2 o2 c2 n2 : Nat) (c n d : Int) (s : ByteArray) (w : World) (hE : Tab w) (hR : Rng w)
    (n0 : -9223372036854775808 ≤ n) (n1' : n ≤ 9223372036854775807) (d0 : -9223372036854775808 ≤ d) (d1 : d ≤ 9223372036854775807) (hs : s.size ≤ 281474976710656)
    (hl1 : l.length = n1) (hp1 : 0 < n1 → p1 = some ⟨b1, o1, none⟩) (hA1 : At w b1 o1 l) (hm1 : n1 ≤ 9223372036854775807) (hb1 : 0 < n1 → b1 < w.heap.size) (hc1 : n1 ≤ c1)
    (hl2 : v.length = n2) (hp2 : 0 < n2 → p2 = some ⟨b2, o2, none⟩) (hA2 : At w b2 o2 v) (hm2 : n2 ≤ 9223372036854775807) (hb2 : 0 < n2 → b2 < w.heap.size) (hc2 : n2 ≤ c2) :
    Calls Tryz.prog 3 #[.slice p1 n1 c1, .int .i64 c, .agg #[.int .i64 n, .int .i64 d], .slice p2 n2 c2, .string s] w fun e w' => e = .returned (.bool true) ∧ Below w.heap.size w w' := by
  have HE := Lib.hid hE
  have HR := Lib.hid hR
  have KF1 := Lib.hid (fun w : World => few_any p1 n1 c1 w hm1 hc1)
  have KF2 := Lib.hid (fun w : World => few_any p2 n2 c2 w hm2 hc2)
  obtain ⟨k1, hk1⟩ : ∃ k, k = min n1 100 := ⟨_, rfl⟩
  obtain ⟨k2, hk2⟩ : ∃ k, k = min n2 100 := ⟨_, rfl⟩
  rw [← hk1] at KF1
  rw [← hk2] at KF2
  obtain ⟨L, hL⟩ : ∃ L, L = l.take k1 := ⟨_, rfl⟩
  obtain ⟨V, hV⟩ : ∃ V, V = v.take k2 := ⟨_, rfl⟩
  have HL : Hid (L.length = k1) := by show _ = _; rw [hL, List.length_take]; omega
  have HV : Hid (V.length = k2) := by show _ = _; rw [hV, List.length_take]; omega
  have AL : Aside (At w b1 o1 L) := by show At _ _ _ _; rw [hL]; exact hA1.take
  have AV : Aside (At w b2 o2 V) := by show At _ _ _ _; rw [hV]; exact hA2.take
  have P1 : Aside ((0 < k1 → p1 = some ⟨b1, o1, none⟩) ∧ (0 < k1 → b1 < w.heap.size)) := ⟨fun h => hp1 (by omega), fun h => hb1 (by omega)⟩
  have P2 : Aside ((0 < k2 → p2 = some ⟨b2, o2, none⟩) ∧ (0 < k2 → b2 < w.heap.size)) := ⟨fun h => hp2 (by omega), fun h => hb2 (by omega)⟩
  have hk1b : k1 ≤ 100 := by omega
  have hk2b : k2 ≤ 100 := by omega
  obtain ⟨k, hk⟩ : ∃ k, k = min s.size 100 := ⟨_, rfl⟩
  have hkz : min (s.size : Int) 100 = (k : Int) := by omega
  have hks : k ≤ s.size := by omega
  obtain ⟨t, ht⟩ : ∃ t, t = s.data.toList.take k := ⟨_, rfl⟩
  have htl : t.length ≤ 1000000 := by rw [ht, List.length_take]; omega
  have HX : Hid (s.extract 0 k = bs t) := by show _ = _; rw [ext_take, ht]
  have KA := Lib.hid (fun (w : World) (h : At w b1 o1 L) => add_any L p1 b1 o1 c1 k1 w HL.out P1.out.1 h (by omega))
  have KRA := Lib.hid (fun (w : World) (h : At w b1 o1 L) => radd_any L p1 b1 o1 c1 k1 w HL.out P1.out.1 h (by omega))
  have KS := Lib.hid (fun w : World => scale_any c n d w n0 n1' d0 d1)
  have KRS := Lib.hid (fun w : World => rscale_any c n d w n0 n1' d0 d1)
  have KP := Lib.hid (fun (w : World) (h : At w b2 o2 V) (g : 0 < k2 → b2 < w.heap.size) => split_any c V p2 b2 o2 c2 k2 w HV.out P2.out.1 h (by omega) g)
  have KRP := Lib.hid (fun (w : World) (h : At w b2 o2 V) (g : 0 < k2 → b2 < w.heap.size) => rsplit_any c V p2 b2 o2 c2 k2 w HV.out P2.out.1 h (by omega) g)
  have KT := Lib.hid (fun (w : World) (h : Tab w) => text_any c w h)
  have KRT := Lib.hid (fun w : World => rtext_any c w)
  have KQ := Lib.hid (fun (w : World) (h : Rng w) => parse_any t w h htl)
  have KRQ := Lib.hid (fun w : World => rparse_any t w htl)
  have hTl := texT_len c
  have hSl : (splL c V).length ≤ 64 := by
    unfold splL
    split
    · rename_i h
      rw [partL_length]; exact (whole_facts h.2).1
    · simp
  generalize addR L = ad at KA KRA
  generalize sclR c n d = sc at KS KRS
  generalize splL c V = SP at KP KRP hSl
  generalize splE c V = SE at KP KRP
  generalize bs (texT c) = TX at KT KRT hTl
  generalize texE c = TE at KT KRT
  generalize parM t = pm at KQ KRQ
  obtain ⟨a1, a2⟩ := ad
  obtain ⟨s1, s2⟩ := sc
  obtain ⟨q1, q2⟩ := pm
  dsimp only at KA KRA KS KRS KQ KRQ
  clear hE hR hL hV hA1 hA2 hp1 hp2 hb1 hb2 hl1 hl2 ht hk hk1 hk2 hc1 hc2 hm1 hm2
  go_enter Tryz.func3, Tryz.ntmps3
  go_wp2_with fail
  have HK : Aside (Kept w (w.alloc (.cells #[.int .i64 n, .int .i64 d] 24)) n d) := ⟨(Below.refl _ _).alloc (Nat.le_refl _) _, At2.new w _ _ _, by simp⟩
  generalize (w.alloc (.cells #[.int .i64 n, .int .i64 d] 24)) = wa at HK ⊢
  refine (head_any _ (HE.out.below HK.out.bel)).mono ?_
  rintro _ w0 ⟨rfl, hb⟩
  have HK0 : Aside (Kept w w0 n d) := HK.out.step hb
  clear hb HK
  go_wp2_with fail
  refine (KF1.out _).mono ?_
  rintro _ w1 ⟨rfl, rfl⟩
  go_wp2_with fail
  refine (KF2.out _).mono ?_
  rintro _ w1 ⟨rfl, rfl⟩
  have L0 : Aside (At w0 b1 o1 L) := fun i hi => (AL.out.below HK0.out.bel (P1.out.2 (by have := HL.out; omega))) i hi
  have V0 : Aside (At w0 b2 o2 V) := fun i hi => (AV.out.below HK0.out.bel (P2.out.2 (by have := HV.out; omega))) i hi
  go_wp2_with fail
  refine (KA.out _ L0.out).mono ?_
  rintro _ w1 ⟨rfl, rfl⟩
  go_wp2_with fail
  refine (KRA.out _ L0.out).mono ?_
  rintro _ w1 ⟨rfl, rfl⟩
  obtain ⟨x0, x1, x2, x3⟩ := HK0.out.box
  go_wp2_with fail
  refine (KS.out _).mono ?_
  rintro _ w1 ⟨rfl, hb⟩
  have HK1 : Aside (Kept w w1 n d) := HK0.out.step hb
  have hz1 := hb.size
  have V1 : Aside (At w1 b2 o2 V) := fun i hi => (AV.out.below HK1.out.bel (P2.out.2 (by have := HV.out; omega))) i hi
  have G1 : Hid (0 < k2 → b2 < w1.heap.size) := fun h => Nat.lt_of_lt_of_le (P2.out.2 h) HK1.out.bel.size
  clear hb HK0 L0 V0 x0 x1 x2 x3 hz1
  obtain ⟨x0, x1, x2, x3⟩ := HK1.out.box
  go_wp2_with fail
  refine (KRS.out _).mono ?_
  rintro _ w2 ⟨rfl, hb⟩
  have HK2 : Aside (Kept w w2 n d) := HK1.out.step hb
  have V2 : Aside (At w2 b2 o2 V) := fun i hi => (AV.out.below HK2.out.bel (P2.out.2 (by have := HV.out; omega))) i hi
  have G2 : Hid (0 < k2 → b2 < w2.heap.size) := fun h => Nat.lt_of_lt_of_le (P2.out.2 h) HK2.out.bel.size
  clear hb HK1 V1 G1 x0 x1 x2 x3
  go_wp2_with fail
  refine (KP.out _ V2.out G2.out).mono ?_
  rintro _ w3 ⟨pa, ba, rfl, ha, hA, hb⟩
  have HK3 : Aside (Kept w w3 n d) := HK2.out.step hb
  have V3 : Aside (At w3 b2 o2 V) := fun i hi => (AV.out.below HK3.out.bel (P2.out.2 (by have := HV.out; omega))) i hi
  have G3 : Hid (0 < k2 → b2 < w3.heap.size) := fun h => Nat.lt_of_lt_of_le (P2.out.2 h) HK3.out.bel.size
  have HPA : Aside (0 < SP.length → pa = some ⟨ba, 0, none⟩) := fun h => (ha h).1
  have HBA : Aside (0 < SP.length → ba < w3.heap.size) := fun h => (ha h).2.2
  have AA : Aside (At w3 ba 0 SP) := hA
  clear hb HK2 V2 G2 ha hA
  go_wp2_with fail
  refine (KRP.out _ V3.out G3.out).mono ?_
  rintro _ w4 ⟨pb, bb, rfl, ha, hA, hb⟩
  have HK4 : Aside (Kept w w4 n d) := HK3.out.step hb
  have HPB : Aside (0 < SP.length → pb = some ⟨bb, 0, none⟩) := fun h => (ha h).1
  have AB : Aside (At w4 bb 0 SP) := hA
  have AA4 : Aside (At w4 ba 0 SP) := fun i hi => (AA.out.below hb (HBA.out (by omega))) i hi
  clear hb HK3 V3 G3 ha hA AA HBA
  go_wp2_with fail
  refine (same_any SP SP pa pb ba 0 SP.length SP.length bb 0 SP.length SP.length _ rfl rfl HPA.out HPB.out AA4.out AB.out (by omega) (by omega)).mono ?_
  rintro _ w5 ⟨rfl, q, hq⟩
  rw [show decide (SP = SP) = true from decide_eq_true rfl]
  have HK5 : Aside (Kept w w5 n d) := by rw [hq]; exact HK4.out.step (below_drewN (Below.refl _ _) q)
  clear hq HK4 AB AA4
  go_wp2_with fail
  refine (KT.out _ (HE.out.below HK5.out.bel)).mono ?_
  rintro _ w6 ⟨rfl, hb⟩
  have HK6 : Aside (Kept w w6 n d) := HK5.out.step hb
  clear hb HK5
  go_wp2_with fail
  refine (KRT.out _).mono ?_
  rintro _ w7 ⟨rfl, hb⟩
  have HK7 : Aside (Kept w w7 n d) := HK6.out.step hb
  clear hb HK6
  go_wp2_with fail
  try rw [HX.out]
  refine (KQ.out _ (HR.out.below HK7.out.bel)).mono ?_
  rintro _ w8 ⟨rfl, hb⟩
  have HK8 : Aside (Kept w w8 n d) := HK7.out.step hb
  clear hb HK7
  go_wp2_with fail
  try rw [HX.out]
  refine (KRQ.out _).mono ?_
  rintro _ w9 ⟨rfl, rfl⟩
  go_wp2
  go_ret
  exact ⟨rfl, HK8.out.bel⟩

/-- The same, in the order of the arguments. -/
theorem match_row (l : List Int) (p1 : Option Addr) (b1 o1 c1 n1 : Nat) (c n d : Int) (v : List Int) (p2 : Option Addr) (b2 o2 c2 n2 : Nat) (s : ByteArray) (w : World) (hE : Tab w) (hR : Rng w)
    (hl1 : l.length = n1) (hp1 : 0 < n1 → p1 = some ⟨b1, o1, none⟩) (hA1 : At w b1 o1 l) (hm1 : n1 ≤ 9223372036854775807) (hb1 : 0 < n1 → b1 < w.heap.size) (hc1 : n1 ≤ c1)
    (_ : -9223372036854775808 ≤ c) (_ : c ≤ 9223372036854775807) (n0 : -9223372036854775808 ≤ n) (n1' : n ≤ 9223372036854775807) (d0 : -9223372036854775808 ≤ d) (d1 : d ≤ 9223372036854775807)
    (hl2 : v.length = n2) (hp2 : 0 < n2 → p2 = some ⟨b2, o2, none⟩) (hA2 : At w b2 o2 v) (hm2 : n2 ≤ 9223372036854775807) (hb2 : 0 < n2 → b2 < w.heap.size) (hc2 : n2 ≤ c2) (hs : s.size ≤ 281474976710656) :
    Calls Tryz.prog 3 #[.slice p1 n1 c1, .int .i64 c, .agg #[.int .i64 n, .int .i64 d], .slice p2 n2 c2, .string s] w fun e w' => e = .returned (.bool true) ∧ Below w.heap.size w w' :=
  match_law l v p1 p2 b1 o1 c1 n1 b2 o2 c2 n2 c n d s w hE hR n0 n1' d0 d1 hs hl1 hp1 hA1 hm1 hb1 hc1 hl2 hp2 hA2 hm2 hb2 hc2
end Go.Proofs.YtamccmeibnihpaaGreatDoor
