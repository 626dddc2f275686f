/-
  The examples of the chapter: what head returns.
-/
import Derived.Test.YtmjdolgcgbiajaaPSmall
namespace Go.Proofs.Ytmjdolgcgbiajaa
open Go.RowKit Go.Shelf Pw

def f0 : List RP := [⟨0, 0, 1, 2, 1⟩]
def g0 : List RP := [⟨0, 9, 1, 0, 1⟩, ⟨10, 0, 1, 0, 1⟩]
def A3 : List RP := [⟨0, 0, 1, 2, 1⟩, ⟨5, 9, 1, 0, 1⟩, ⟨10, 0, 1, 0, 1⟩]
def S2 : List RP := [⟨0, 9, 1, 2, 1⟩, ⟨10, 20, 1, 2, 1⟩]
def M1 : List RP := [⟨0, 0, 1, 1, 1⟩]

/-- A test that says that a list of raw numbers is a function. -/
def vB (l : List RP) : Bool := decide (1 ≤ l.length) && decide (l.length ≤ 64) && decide ((l[0]!).f = 0) && (List.range l.length).all fun k => (decide (k = 0) || decide ((l[k - 1]!).f < (l[k]!).f)) && decide ((l[k]!).f ≤ 100000) && wl (l[k]!)
theorem vB_VR {l : List RP} (h : vB l = true) : VR l := by
  unfold vB at h
  simp only [Bool.and_eq_true, decide_eq_true_eq, List.all_eq_true, List.mem_range, Bool.or_eq_true] at h
  obtain ⟨⟨⟨h1, h2⟩, h3⟩, h4⟩ := h
  refine ⟨h1, h2, fun h0 => by rw [getElem!_pos l 0 h0] at h3; exact h3, fun j hj _ => ?_⟩
  obtain ⟨⟨a, b⟩, c⟩ := h4 j hj
  rw [getElem!_pos l j hj] at a b c
  refine ⟨fun h0 => ?_, b, c⟩
  rw [getElem!_pos l (j - 1) (by omega)] at a
  rcases a with a | a
  · omega
  · exact a
theorem vr_f0 : VR f0 := vB_VR (by kernel_rfl)
theorem vr_g0 : VR g0 := vB_VR (by kernel_rfl)
theorem ps_pick2 {P : Int → Bool} {b N : Nat} (h0 : P 0 = true) (hb : P b = true) (h1 : 0 < b) (h2 : b < N) (hp : ∀ y : Int, 0 < y → y < N → y ≠ b → P y = false) : ps P N = [0, (b : Int)] := by
  rw [ps_two (x := 0) (t := b) (u := N) h0 h1 h2 hb fun y a c d => hp y (by omega) c d]
  rfl
theorem ps_pick3 {P : Int → Bool} {a b N : Nat} (h0 : P 0 = true) (ha : P a = true) (hb : P b = true) (h1 : 0 < a) (h2 : a < b) (h3 : b < N) (hp : ∀ y : Int, 0 < y → y < N → y ≠ a → y ≠ b → P y = false) : ps P N = [0, (a : Int), (b : Int)] := by
  rw [ps_two (x := a) (t := b) (u := N) ha h2 h3 hb fun y c d e => hp y (by omega) d (by omega) e, ps_one (x := 0) (u := a) h0 h1 fun y c d => hp y (by omega) (by omega) (by omega) (by omega)]
  rfl
theorem fs_f0 (x : Int) : fs (AA f0) x = decide (x = 0) := by
  unfold fs AA f0 toAP
  rw [Bool.eq_iff_iff]
  simp
  omega
theorem fs_g0 (x : Int) : fs (AA g0) x = (decide (x = 0) || decide (x = 10)) := by
  unfold fs AA g0 toAP
  rw [Bool.eq_iff_iff]
  simp
  omega
theorem vl_f0 (x : Int) : vl (AA f0) x = ((2 * x : Int) : Rat) := by
  have e : pA (AA f0) x = toAP ⟨0, 0, 1, 2, 1⟩ := by unfold pA AA f0; simp [pa]
  unfold vl
  rw [e]
  unfold toAP AP.at
  simp only [fr_int]
  rw [← Rat.intCast_mul, ← Rat.intCast_add]
  congr 1
  omega
theorem vl_g0 (x : Int) : vl (AA g0) x = ((if x < 10 then 9 else 0 : Int) : Rat) := by
  have e : pA (AA g0) x = if x < 10 then toAP ⟨0, 9, 1, 0, 1⟩ else toAP ⟨10, 0, 1, 0, 1⟩ := by
    unfold pA AA g0
    simp only [List.map_cons, List.map_nil, List.headD_cons, pa]
    by_cases h : x < 10
    · have : ¬ (toAP ⟨10, 0, 1, 0, 1⟩).f ≤ x := by show ¬ (10 : Int) ≤ x; omega
      rw [if_pos h, if_neg this]
      split <;> rfl
    · have : (toAP ⟨10, 0, 1, 0, 1⟩).f ≤ x := by show (10 : Int) ≤ x; omega
      rw [if_neg h, if_pos this]
      split <;> rfl
  unfold vl
  rw [e]
  split
  · unfold toAP AP.at
    simp only [fr_int]
    rw [← Rat.intCast_mul, ← Rat.intCast_add]
    congr 1
    omega
  · unfold toAP AP.at
    simp only [fr_int]
    rw [← Rat.intCast_mul, ← Rat.intCast_add]
    congr 1
    omega
theorem ls_fg (x : Int) : lsF (AA f0) (AA g0) x = decide (2 * x ≤ if x < 10 then 9 else 0) := by
  unfold lsF
  rw [vl_f0, vl_g0]
  simp only [Rat.intCast_le_intCast]
theorem hd1 : opR f0 g0 (leastR f0 g0) = (A3, 0) := by
  rw [show opR f0 g0 (leastR f0 g0) = leastR f0 g0 from if_pos ⟨vr_f0, vr_g0⟩]
  have e : ps (isT (AA f0) (AA g0)) 100001 = [0, ((5 : Nat) : Int), ((10 : Nat) : Int)] := by
    refine ps_pick3 ?_ ?_ ?_ (by omega) (by omega) (by omega) fun y h1 h2 h3 h4 => ?_
    · unfold isT isS; rw [fs_f0]; rfl
    · unfold isT; rw [ls_fg, ls_fg]; simp
    · unfold isT isS; rw [fs_g0]; simp
    · refine isT_false.2 ⟨by rw [fs_f0]; exact decide_eq_false (by omega), ?_, ?_⟩
      · rw [fs_g0, decide_eq_false (show ¬ y = 0 by omega), decide_eq_false (show ¬ y = 10 by omega)]; rfl
      · rw [ls_fg, ls_fg]
        by_cases h5 : y < 5
        · rw [decide_eq_true (by rw [if_pos (by omega)]; omega), decide_eq_true (by rw [if_pos (by omega)]; omega)]
        · rw [decide_eq_false (by split <;> omega), decide_eq_false (by split <;> omega)]
  have k : ((resA (([0, ((5 : Nat) : Int), ((10 : Nat) : Int)] : List Int).map (tkH (AA f0) (AA g0)))).1.map toRP, (resA (([0, ((5 : Nat) : Int), ((10 : Nat) : Int)] : List Int).map (tkH (AA f0) (AA g0)))).2) = (A3, 0) := by kernel_rfl
  unfold leastR leastL
  rw [e]
  exact k
theorem hd5 : opR f0 g0 (addR f0 g0) = (S2, 0) := by
  rw [show opR f0 g0 (addR f0 g0) = addR f0 g0 from if_pos ⟨vr_f0, vr_g0⟩]
  have e : ps (isS (AA f0) (AA g0)) 100001 = [0, ((10 : Nat) : Int)] := by
    refine ps_pick2 ?_ ?_ (by omega) (by omega) fun y h1 h2 h3 => ?_
    · unfold isS; rw [fs_f0]; rfl
    · unfold isS; rw [fs_g0]; simp
    · refine isS_false.2 ⟨by rw [fs_f0]; exact decide_eq_false (by omega), ?_⟩
      rw [fs_g0, decide_eq_false (show ¬ y = 0 by omega), decide_eq_false (show ¬ y = 10 by omega)]; rfl
  have k : ((resA (([0, ((10 : Nat) : Int)] : List Int).map (addH (AA f0) (AA g0)))).1.map toRP, (resA (([0, ((10 : Nat) : Int)] : List Int).map (addH (AA f0) (AA g0)))).2) = (S2, 0) := by kernel_rfl
  unfold addR addL
  rw [e]
  exact k
theorem hd2 : belV g0 f0 0 20 = (5, true, 0) := by
  rw [show belV g0 f0 0 20 = _ from if_pos ⟨vr_g0, vr_f0, by omega, by omega, by omega⟩]
  kernel_rfl
theorem hd3 : belV f0 g0 5 20 = (0, false, 0) := by
  rw [show belV f0 g0 5 20 = _ from if_pos ⟨vr_f0, vr_g0, by omega, by omega, by omega⟩]
  kernel_rfl
theorem hd4 : atR f0 7 = (14, 1, 0) := by
  rw [show atR f0 7 = _ from if_pos ⟨vr_f0, by omega, by omega⟩]
  kernel_rfl
theorem hd6 : scaV f0 1 2 = (M1, 0) := by
  rw [show scaV f0 1 2 = scaleR f0 1 2 from if_pos ⟨vr_f0, by kernel_rfl⟩]
  kernel_rfl
def inB (l : List RP) : Bool := l.all fun s => [s.f, s.vn, s.vd, s.sn, s.sd].all fun x => decide (-9223372036854775808 ≤ x) && decide (x ≤ 9223372036854775807)
theorem inB_all {l : List RP} (h : inB l = true) : ∀ s, s ∈ l → s.In := fun s hs => by
  unfold inB at h
  have := List.all_eq_true.1 h s hs
  simp only [List.all_cons, List.all_nil, Bool.and_eq_true, decide_eq_true_eq] at this
  unfold RP.In In64; omega
theorem same_b (l m : List RP) (c : Bool) (hc : smR l m = c) (p p' : Option Addr) (b off cap len b' off' cap' len' : Nat) (w : World) (hS : SlP w p b off len l) (hS' : SlP w p' b' off' len' m) :
    Calls Try.prog 18 #[.slice p len cap, .slice p' len' cap'] w fun e w' => e = .returned (.bool c) ∧ RowKit.Below w.heap.size w w' := by
  rw [← hc]; exact rsame_any l m p p' b off cap len b' off' cap' len' w hS hS'
theorem valid_b (l : List RP) (c : Bool) (hc : vR l = c) (p : Option Addr) (b off cap len : Nat) (w : World) (hS : SlP w p b off len l) : Calls Try.prog 14 #[.slice p len cap] w fun e w' => e = .returned (.bool c) ∧ RowKit.Below w.heap.size w w' := by
  rw [← hc]; exact valid_sl l p b off cap len w hS

/-- A number in its box. -/
def NmB (W : World) (b : Nat) (rn rd : Int) : Prop := W.heap[b]? = some (.cells #[.int .i64 rn, .int .i64 rd] 24 (0, 0))
theorem NmB.all {W : World} {b : Nat} {rn rd : Int} (h : NmB W b rn rd) : W.cell? ⟨b, 0, none⟩ = some (.int .i64 rn) ∧ W.cell? ⟨b, 1, none⟩ = some (.int .i64 rd) := by
  unfold NmB at h
  refine ⟨?_, ?_⟩ <;> simp [World.cell?, h]
theorem NmB.below {W W' : World} {b : Nat} {rn rd : Int} (h : NmB W b rn rd) (k : RowKit.Below W.heap.size W W') : NmB W' b rn rd := (k.block b (Array.getElem?_eq_some_iff.1 h).1).trans h
theorem NmB.new (W : World) (rn rd : Int) : NmB (W.alloc (.cells #[.int .i64 rn, .int .i64 rd] 24)) W.heap.size rn rd := World.alloc_heap_new W _
theorem h_least (pf pg : Option Addr) (bf of cf lf bg og cg lg : Nat) (w : World) (hS : SlP w pf bf of lf f0) (hS' : SlP w pg bg og lg g0) : Calls Try.prog 21 #[.slice pf lf cf, .slice pg lg cg] w fun e w' => OutP (RowKit.Below w.heap.size w) A3 0 e w' := by
  have := least_any f0 g0 pf pg bf of cf lf bg og cg lg w hS hS'; rw [hd1] at this; exact this
theorem h_add (pf pg : Option Addr) (bf of cf lf bg og cg lg : Nat) (w : World) (hS : SlP w pf bf of lf f0) (hS' : SlP w pg bg og lg g0) : Calls Try.prog 16 #[.slice pf lf cf, .slice pg lg cg] w fun e w' => OutP (RowKit.Below w.heap.size w) S2 0 e w' := by
  have := add_any f0 g0 pf pg bf of cf lf bg og cg lg w hS hS'; rw [hd5] at this; exact this
theorem h_bel1 (pf pg : Option Addr) (bf of cf lf bg og cg lg : Nat) (w : World) (hS : SlP w pf bf of lf g0) (hS' : SlP w pg bg og lg f0) : Calls Try.prog 23 #[.slice pf lf cf, .slice pg lg cg, .agg #[.int .i64 0, .int .i64 20]] w fun e w' => e = .returned (.tuple #[.int .i64 5, .bool true, .int .i64 0]) ∧ RowKit.Below w.heap.size w w' := by
  have := below_any g0 f0 pf pg bf of cf lf bg og cg lg 0 20 w hS hS'; rw [hd2] at this; exact this
theorem h_bel2 (pf pg : Option Addr) (bf of cf lf bg og cg lg : Nat) (w : World) (hS : SlP w pf bf of lf f0) (hS' : SlP w pg bg og lg g0) : Calls Try.prog 23 #[.slice pf lf cf, .slice pg lg cg, .agg #[.int .i64 5, .int .i64 20]] w fun e w' => e = .returned (.tuple #[.int .i64 0, .bool false, .int .i64 0]) ∧ RowKit.Below w.heap.size w w' := by
  have := below_any f0 g0 pf pg bf of cf lf bg og cg lg 5 20 w hS hS'; rw [hd3] at this; exact this
theorem h_at (pf : Option Addr) (bf of cf lf : Nat) (w : World) (hS : SlP w pf bf of lf f0) : Calls Try.prog 12 #[.slice pf lf cf, .int .i64 7] w fun e w' => e = .returned (.tuple #[.agg #[.int .i64 14, .int .i64 1], .int .i64 0]) ∧ RowKit.Below w.heap.size w w' := by
  have := atv_any f0 pf bf of cf lf 7 w hS; rw [hd4] at this; exact this
theorem h_scale (pf : Option Addr) (bf of cf lf : Nat) (w : World) (hS : SlP w pf bf of lf f0) (hc : lf ≤ cf) : Calls Try.prog 19 #[.slice pf lf cf, .agg #[.int .i64 1, .int .i64 2]] w fun e w' => OutP (RowKit.Below w.heap.size w) M1 0 e w' := by
  have := scale_any f0 pf bf of cf lf 1 2 w hS hc (by unfold In64; omega) (by unfold In64; omega); rw [hd6] at this; exact this

set_option maxRecDepth 100000 in
set_option maxHeartbeats 8000000 in
theorem head_any (w : World) : Calls Try.prog 10 #[] w fun e w' => e = .returned (.bool true) ∧ RowKit.Below w.heap.size w w' := by
  have HB0 : Hid (RowKit.Below w.heap.size w w) := Below.refl _ _
  go_enter Try.func10, Try.ntmps10
  go_wp2_with fail
  refine (lpiece_any 0 0 2 _).mono ?_
  rintro _ w1 ⟨rfl, hb⟩
  have HB1 := Lib.hid (HB0.out.trans (hb.mono HB0.out.size))
  clear hb HB0
  have HF := Lib.hid (slp_new w1 f0 #[.int .i64 0, .int .i64 0, .int .i64 1, .int .i64 2, .int .i64 1] 51 1 rfl rfl (by omega) (inB_all (by kernel_rfl)))
  have hb := (Below.refl w1.heap.size w1).alloc (Nat.le_refl _) (.cells #[.int .i64 0, .int .i64 0, .int .i64 1, .int .i64 2, .int .i64 1] 51)
  have HBHF := Lib.hid (HB1.out.trans (hb.mono HB1.out.size))
  clear hb
  go_wp2_with fail
  obtain ⟨vHF, hvHF⟩ : ∃ vHF, vHF = w1.alloc (.cells #[.int .i64 0, .int .i64 0, .int .i64 1, .int .i64 2, .int .i64 1] 51) := ⟨_, rfl⟩
  rw [← hvHF] at HF HBHF ⊢
  clear hvHF
  refine (lpiece_any 0 9 0 _).mono ?_
  rintro _ w2 ⟨rfl, hb⟩
  have HB2 := Lib.hid (HBHF.out.trans (hb.mono HBHF.out.size))
  replace HF := Lib.hid (HF.out.below hb)
  clear hb HBHF
  go_wp2_with fail
  refine (lpiece_any 10 0 0 _).mono ?_
  rintro _ w3 ⟨rfl, hb⟩
  have HB3 := Lib.hid (HB2.out.trans (hb.mono HB2.out.size))
  replace HF := Lib.hid (HF.out.below hb)
  clear hb HB2
  have HG := Lib.hid (slp_new w3 g0 #[.int .i64 0, .int .i64 9, .int .i64 1, .int .i64 0, .int .i64 1, .int .i64 10, .int .i64 0, .int .i64 1, .int .i64 0, .int .i64 1] 51 2 rfl rfl (by omega) (inB_all (by kernel_rfl)))
  have hb := (Below.refl w3.heap.size w3).alloc (Nat.le_refl _) (.cells #[.int .i64 0, .int .i64 9, .int .i64 1, .int .i64 0, .int .i64 1, .int .i64 10, .int .i64 0, .int .i64 1, .int .i64 0, .int .i64 1] 51)
  replace HF := Lib.hid (HF.out.below hb)
  have HBHG := Lib.hid (HB3.out.trans (hb.mono HB3.out.size))
  clear hb
  go_wp2_with fail
  obtain ⟨vHG, hvHG⟩ : ∃ vHG, vHG = w3.alloc (.cells #[.int .i64 0, .int .i64 9, .int .i64 1, .int .i64 0, .int .i64 1, .int .i64 10, .int .i64 0, .int .i64 1, .int .i64 0, .int .i64 1] 51) := ⟨_, rfl⟩
  rw [← hvHG] at HF HG HBHG ⊢
  clear hvHG
  refine (h_least _ _ _ _ _ _ _ _ _ _ _ HF.out HG.out).mono ?_
  rintro _ w4 ⟨p_HA, b_HA, o_HA, n_HA, c_HA, rfl, hs, hb⟩
  have HB4 := Lib.hid (HBHG.out.trans (hb.mono HBHG.out.size))
  replace HF := Lib.hid (HF.out.below hb)
  replace HG := Lib.hid (HG.out.below hb)
  clear hb HBHG
  have HA := Lib.hid hs
  clear hs
  go_wp2_with fail
  refine (h_bel1 _ _ _ _ _ _ _ _ _ _ _ HG.out HF.out).mono ?_
  rintro _ w5 ⟨rfl, hb⟩
  have HB5 := Lib.hid (HB4.out.trans (hb.mono HB4.out.size))
  replace HF := Lib.hid (HF.out.below hb)
  replace HG := Lib.hid (HG.out.below hb)
  replace HA := Lib.hid (HA.out.below hb)
  clear hb HB4
  go_wp2_with fail
  refine (h_bel2 _ _ _ _ _ _ _ _ _ _ _ HF.out HG.out).mono ?_
  rintro _ w6 ⟨rfl, hb⟩
  have HB6 := Lib.hid (HB5.out.trans (hb.mono HB5.out.size))
  replace HF := Lib.hid (HF.out.below hb)
  replace HG := Lib.hid (HG.out.below hb)
  replace HA := Lib.hid (HA.out.below hb)
  clear hb HB5
  go_wp2_with fail
  refine (h_at _ _ _ _ _ _ HF.out).mono ?_
  rintro _ w7 ⟨rfl, hb⟩
  have HB7 := Lib.hid (HB6.out.trans (hb.mono HB6.out.size))
  replace HF := Lib.hid (HF.out.below hb)
  replace HG := Lib.hid (HG.out.below hb)
  replace HA := Lib.hid (HA.out.below hb)
  clear hb HB6
  have HM := Lib.hid (NmB.new w7 14 1)
  have hb := (Below.refl w7.heap.size w7).alloc (Nat.le_refl _) (.cells #[.int .i64 14, .int .i64 1] 24)
  replace HF := Lib.hid (HF.out.below hb)
  replace HG := Lib.hid (HG.out.below hb)
  replace HA := Lib.hid (HA.out.below hb)
  have HBM := Lib.hid (HB7.out.trans (hb.mono HB7.out.size))
  clear hb
  go_wp2_with fail
  obtain ⟨wM, hwM⟩ : ∃ wM, wM = w7.alloc (.cells #[.int .i64 14, .int .i64 1] 24) := ⟨_, rfl⟩
  rw [← hwM] at HF HG HA HM HBM ⊢
  clear hwM
  refine (h_add _ _ _ _ _ _ _ _ _ _ _ HF.out HG.out).mono ?_
  rintro _ w8 ⟨p_HS, b_HS, o_HS, n_HS, c_HS, rfl, hs, hb⟩
  have HB8 := Lib.hid (HBM.out.trans (hb.mono HBM.out.size))
  replace HF := Lib.hid (HF.out.below hb)
  replace HG := Lib.hid (HG.out.below hb)
  replace HA := Lib.hid (HA.out.below hb)
  replace HM := Lib.hid (HM.out.below hb)
  clear hb HBM
  have HS := Lib.hid hs
  clear hs
  go_wp2_with fail
  refine (h_scale _ _ _ _ _ _ HF.out (by omega)).mono ?_
  rintro _ w9 ⟨p_HC, b_HC, o_HC, n_HC, c_HC, rfl, hs, hb⟩
  have HB9 := Lib.hid (HB8.out.trans (hb.mono HB8.out.size))
  replace HF := Lib.hid (HF.out.below hb)
  replace HG := Lib.hid (HG.out.below hb)
  replace HA := Lib.hid (HA.out.below hb)
  replace HM := Lib.hid (HM.out.below hb)
  replace HS := Lib.hid (HS.out.below hb)
  clear hb HB8
  have HC := Lib.hid hs
  clear hs
  go_wp2_with fail
  refine (lpiece_any 0 0 2 _).mono ?_
  rintro _ w10 ⟨rfl, hb⟩
  have HB10 := Lib.hid (HB9.out.trans (hb.mono HB9.out.size))
  replace HF := Lib.hid (HF.out.below hb)
  replace HG := Lib.hid (HG.out.below hb)
  replace HA := Lib.hid (HA.out.below hb)
  replace HM := Lib.hid (HM.out.below hb)
  replace HS := Lib.hid (HS.out.below hb)
  replace HC := Lib.hid (HC.out.below hb)
  clear hb HB9
  go_wp2_with fail
  refine (lpiece_any 5 9 0 _).mono ?_
  rintro _ w11 ⟨rfl, hb⟩
  have HB11 := Lib.hid (HB10.out.trans (hb.mono HB10.out.size))
  replace HF := Lib.hid (HF.out.below hb)
  replace HG := Lib.hid (HG.out.below hb)
  replace HA := Lib.hid (HA.out.below hb)
  replace HM := Lib.hid (HM.out.below hb)
  replace HS := Lib.hid (HS.out.below hb)
  replace HC := Lib.hid (HC.out.below hb)
  clear hb HB10
  go_wp2_with fail
  refine (lpiece_any 10 0 0 _).mono ?_
  rintro _ w12 ⟨rfl, hb⟩
  have HB12 := Lib.hid (HB11.out.trans (hb.mono HB11.out.size))
  replace HF := Lib.hid (HF.out.below hb)
  replace HG := Lib.hid (HG.out.below hb)
  replace HA := Lib.hid (HA.out.below hb)
  replace HM := Lib.hid (HM.out.below hb)
  replace HS := Lib.hid (HS.out.below hb)
  replace HC := Lib.hid (HC.out.below hb)
  clear hb HB11
  have hal := (Below.refl w12.heap.size w12).alloc (Nat.le_refl _) (.cells #[.int .i64 0, .int .i64 0, .int .i64 1, .int .i64 2, .int .i64 1, .int .i64 5, .int .i64 9, .int .i64 1, .int .i64 0, .int .i64 1, .int .i64 10, .int .i64 0, .int .i64 1, .int .i64 0, .int .i64 1] 51)
  have HT := Lib.hid (slp_new w12 A3 #[.int .i64 0, .int .i64 0, .int .i64 1, .int .i64 2, .int .i64 1, .int .i64 5, .int .i64 9, .int .i64 1, .int .i64 0, .int .i64 1, .int .i64 10, .int .i64 0, .int .i64 1, .int .i64 0, .int .i64 1] 51 3 rfl rfl (by omega) (inB_all (by kernel_rfl)))
  go_wp2_with fail
  refine (same_b A3 A3 true (by kernel_rfl) _ _ _ _ _ _ _ _ _ _ _ (HA.out.below hal) HT.out).mono ?_
  rintro _ w13 ⟨rfl, hb0⟩
  have hb := hal.trans (hb0.mono hal.size)
  clear hb0 hal HT
  have HB13 := Lib.hid (HB12.out.trans (hb.mono HB12.out.size))
  replace HF := Lib.hid (HF.out.below hb)
  replace HG := Lib.hid (HG.out.below hb)
  replace HA := Lib.hid (HA.out.below hb)
  replace HM := Lib.hid (HM.out.below hb)
  replace HS := Lib.hid (HS.out.below hb)
  replace HC := Lib.hid (HC.out.below hb)
  clear hb HB12
  obtain ⟨m0, m1⟩ := HM.out.all
  go_wp2_with fail
  refine (lpiece_any 0 9 2 _).mono ?_
  rintro _ w14 ⟨rfl, hb⟩
  have HB14 := Lib.hid (HB13.out.trans (hb.mono HB13.out.size))
  replace HF := Lib.hid (HF.out.below hb)
  replace HG := Lib.hid (HG.out.below hb)
  replace HA := Lib.hid (HA.out.below hb)
  replace HM := Lib.hid (HM.out.below hb)
  replace HS := Lib.hid (HS.out.below hb)
  replace HC := Lib.hid (HC.out.below hb)
  clear hb HB13
  clear m0 m1
  go_wp2_with fail
  refine (lpiece_any 10 20 2 _).mono ?_
  rintro _ w15 ⟨rfl, hb⟩
  have HB15 := Lib.hid (HB14.out.trans (hb.mono HB14.out.size))
  replace HF := Lib.hid (HF.out.below hb)
  replace HG := Lib.hid (HG.out.below hb)
  replace HA := Lib.hid (HA.out.below hb)
  replace HM := Lib.hid (HM.out.below hb)
  replace HS := Lib.hid (HS.out.below hb)
  replace HC := Lib.hid (HC.out.below hb)
  clear hb HB14
  have hal := (Below.refl w15.heap.size w15).alloc (Nat.le_refl _) (.cells #[.int .i64 0, .int .i64 9, .int .i64 1, .int .i64 2, .int .i64 1, .int .i64 10, .int .i64 20, .int .i64 1, .int .i64 2, .int .i64 1] 51)
  have HT := Lib.hid (slp_new w15 S2 #[.int .i64 0, .int .i64 9, .int .i64 1, .int .i64 2, .int .i64 1, .int .i64 10, .int .i64 20, .int .i64 1, .int .i64 2, .int .i64 1] 51 2 rfl rfl (by omega) (inB_all (by kernel_rfl)))
  go_wp2_with fail
  refine (same_b S2 S2 true (by kernel_rfl) _ _ _ _ _ _ _ _ _ _ _ (HS.out.below hal) HT.out).mono ?_
  rintro _ w16 ⟨rfl, hb0⟩
  have hb := hal.trans (hb0.mono hal.size)
  clear hb0 hal HT
  have HB16 := Lib.hid (HB15.out.trans (hb.mono HB15.out.size))
  replace HF := Lib.hid (HF.out.below hb)
  replace HG := Lib.hid (HG.out.below hb)
  replace HA := Lib.hid (HA.out.below hb)
  replace HM := Lib.hid (HM.out.below hb)
  replace HS := Lib.hid (HS.out.below hb)
  replace HC := Lib.hid (HC.out.below hb)
  clear hb HB15
  go_wp2_with fail
  refine (lpiece_any 0 0 1 _).mono ?_
  rintro _ w17 ⟨rfl, hb⟩
  have HB17 := Lib.hid (HB16.out.trans (hb.mono HB16.out.size))
  replace HF := Lib.hid (HF.out.below hb)
  replace HG := Lib.hid (HG.out.below hb)
  replace HA := Lib.hid (HA.out.below hb)
  replace HM := Lib.hid (HM.out.below hb)
  replace HS := Lib.hid (HS.out.below hb)
  replace HC := Lib.hid (HC.out.below hb)
  clear hb HB16
  have hal := (Below.refl w17.heap.size w17).alloc (Nat.le_refl _) (.cells #[.int .i64 0, .int .i64 0, .int .i64 1, .int .i64 1, .int .i64 1] 51)
  have HT := Lib.hid (slp_new w17 M1 #[.int .i64 0, .int .i64 0, .int .i64 1, .int .i64 1, .int .i64 1] 51 1 rfl rfl (by omega) (inB_all (by kernel_rfl)))
  go_wp2_with fail
  refine (same_b M1 M1 true (by kernel_rfl) _ _ _ _ _ _ _ _ _ _ _ (HC.out.below hal) HT.out).mono ?_
  rintro _ w18 ⟨rfl, hb0⟩
  have hb := hal.trans (hb0.mono hal.size)
  clear hb0 hal HT
  have HB18 := Lib.hid (HB17.out.trans (hb.mono HB17.out.size))
  replace HF := Lib.hid (HF.out.below hb)
  replace HG := Lib.hid (HG.out.below hb)
  replace HA := Lib.hid (HA.out.below hb)
  replace HM := Lib.hid (HM.out.below hb)
  replace HS := Lib.hid (HS.out.below hb)
  replace HC := Lib.hid (HC.out.below hb)
  clear hb HB17
  go_wp2_with fail
  refine (valid_b g0 true (vR_iff.2 vr_g0) _ _ _ _ _ _ HG.out).mono ?_
  rintro _ w19 ⟨rfl, hb⟩
  have HB19 := Lib.hid (HB18.out.trans (hb.mono HB18.out.size))
  replace HF := Lib.hid (HF.out.below hb)
  replace HG := Lib.hid (HG.out.below hb)
  replace HA := Lib.hid (HA.out.below hb)
  replace HM := Lib.hid (HM.out.below hb)
  replace HS := Lib.hid (HS.out.below hb)
  replace HC := Lib.hid (HC.out.below hb)
  clear hb HB18
  go_wp2
  go_ret
  exact ⟨rfl, HB19.out⟩
end Go.Proofs.Ytmjdolgcgbiajaa
