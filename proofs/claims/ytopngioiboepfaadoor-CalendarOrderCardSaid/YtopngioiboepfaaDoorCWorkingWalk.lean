/-
  The walk of the law on working days.
-/
import Derived.Test.YtopngioiboepfaaDoorCHead
import Derived.Test.YtopngioiboepfaaDoorCHolRef
import Derived.Test.YtopngioiboepfaaDoorCWeeksWalk
namespace Go.Proofs.YtopngioiboepfaaDoor
open Go.RowKit Cal

theorem drew3 {w W V : World} (h : ∃ q, W = w.drewN q) (k : ∃ q, V = W.drewN q) : ∃ q, V = w.drewN q := by
  obtain ⟨n, rfl⟩ := k; exact drew2 h n
theorem Sl.drew {w W : World} {p : Option Addr} {b off len : Nat} {l : List Int} (h : Sl w p b off len l) (k : ∃ q, W = w.drewN q) : Sl W p b off len l := by
  obtain ⟨n, rfl⟩ := k; exact h.drewN n
theorem Below.drew3 {w w1 W : World} (h : RowKit.Below w.heap.size w w1) (k : ∃ q, W = w1.drewN q) : RowKit.Below w.heap.size w W := by
  obtain ⟨n, rfl⟩ := k; exact below_drewN h n

theorem work_is (d : Int) (l : List Int) (p : Option Addr) (b off cap len : Nat) (c : Bool) (h0 : 0 ≤ d) (h1 : d ≤ 36524) (hh : hol l = true) (hc : WK d l = c) (w : World) (hS : Sl w p b off len l) :
    Calls Tryd.prog 23 #[.int .i64 d, .slice p len cap] w fun e w' => e = .returned (.tuple #[.bool c, .int .i64 0]) ∧ ∃ q, w' = w.drewN q := by
  have k := Working_any d l p b off cap len w hS
  unfold wkV wkE at k
  rw [(isD_iff d).2 ⟨h0, h1⟩, hh, hc] at k
  exact k
theorem few_is (p : Option Addr) (cap len : Nat) (c : Bool) (h : decide (len ≤ 150) = c) (w : World) : Calls Tryd.prog 12 #[.slice p len cap] w fun e w' => e = .returned (.bool c) ∧ w = w' := by
  rw [← h]; exact few_any p cap len w
theorem rHol_is (l : List Int) (p : Option Addr) (b off cap len : Nat) (c : Bool) (h : hol l = c) (w : World) (hS : Sl w p b off len l) :
    Calls Tryd.prog 27 #[.slice p len cap] w fun e w' => e = .returned (.bool c) ∧ ∃ q, w' = w.drewN q := by
  rw [← h]; exact rHol_any l p b off cap len w hS

/-- A day that stands at a place of holidays stands at none before. -/
theorem once {l : List Int} (hp : l.Pairwise (· < ·)) {j : Nat} (hj : j < l.length) : l[j] ∉ l.take j := by
  intro h
  obtain ⟨i, hi, e⟩ := List.mem_iff_getElem.1 h
  rw [List.length_take] at hi
  rw [List.getElem_take] at e
  have := List.pairwise_iff_getElem.1 hp i j (by omega) hj (by omega)
  omega
theorem mem_step {l : List Int} {j : Nat} (hj : j < l.length) (k : Int) : k ∈ l.take (j + 1) ↔ k ∈ l.take j ∨ k = l[j] := by
  rw [List.take_succ_eq_append_getElem hj, List.mem_append, List.mem_singleton]
/-- How often a day was met: 0 or 1. -/
def met (l : List Int) (j : Nat) (k : Int) : Int := if k ∈ l.take j then 1 else 0
theorem met_zero (l : List Int) (k : Int) : met l 0 k = 0 := by unfold met; rw [if_neg (by simp)]
theorem met_all {l : List Int} {k : Int} (h : k ∈ l) : met l l.length k = 1 := by unfold met; rw [List.take_length, if_pos h]
theorem met_le (l : List Int) (j : Nat) (k : Int) : 0 ≤ met l j k ∧ met l j k ≤ 1 := by unfold met; split <;> omega
theorem met_here {l : List Int} (hp : l.Pairwise (· < ·)) {j : Nat} (hj : j < l.length) {k : Int} (h : l[j] = k) : met l (j + 1) k = met l j k + 1 := by
  subst h
  unfold met
  rw [if_neg (once hp hj), if_pos ((mem_step hj _).2 (.inr rfl))]; rfl
theorem met_other {l : List Int} {j : Nat} (hj : j < l.length) {k : Int} (h : ¬ l[j] = k) : met l (j + 1) k = met l j k := by
  unfold met
  by_cases c : k ∈ l.take j
  · rw [if_pos c, if_pos ((mem_step hj _).2 (.inl c))]
  · rw [if_neg c, if_neg (fun x => by rcases (mem_step hj k).1 x with y | y; exact c y; exact h y.symm)]

set_option maxRecDepth 100000 in
set_option maxHeartbeats 8000000 in
theorem working_law (d : Int) (l : List Int) (p : Option Addr) (b off cap len : Nat) (w : World) (hE : Tab w) (d0 : -9223372036854775808 ≤ d) (d1 : d ≤ 9223372036854775807) (hS : Sl w p b off len l) :
    Calls Tryd.prog 8 #[.int .i64 d, .slice p len cap] w fun e w' => e = .returned (.bool true) ∧ Below w.heap.size w w' := by
  have KH := Lib.hid (head_any w hE)
  have HS := Lib.hid hS
  have hm := hS.2.2.2.2
  have hlen := hS.1
  have KF := Lib.hid (few_is p cap len)
  have KR := Lib.hid (rHol_is l p b off cap len)
  clear hE hS
  cases hh : hol l with
  | false =>
    have HH := Lib.hid hh
    have HL := Lib.hid hlen
    clear hh hlen
    cases hf : decide (len ≤ 150) with
    | false =>
      have HF := Lib.hid hf
      clear hf
      go_enter Tryd.func8, Tryd.ntmps8
      go_wp2_with fail
      refine KH.out.mono ?_
      rintro _ w1 ⟨rfl, hb1⟩
      have HB1 := Lib.hid hb1
      clear hb1
      go_wp2_with fail
      refine (KF.out false HF.out _).mono ?_
      rintro _ w' ⟨rfl, rfl⟩
      go_wp2
      go_ret
      exact ⟨rfl, HB1.out⟩
    | true =>
      have HF := Lib.hid hf
      clear hf
      go_enter Tryd.func8, Tryd.ntmps8
      go_wp2_with fail
      refine KH.out.mono ?_
      rintro _ w1 ⟨rfl, hb1⟩
      have HB1 := Lib.hid hb1
      have HS1 := Lib.hid (HS.out.below hb1)
      clear hb1
      go_wp2_with fail
      refine (KF.out true HF.out _).mono ?_
      rintro _ w' ⟨rfl, rfl⟩
      go_wp2_with fail
      refine (KR.out false HH.out _ HS1.out).mono ?_
      rintro _ w2 ⟨rfl, hq⟩
      have HQ := Lib.hid hq
      clear hq
      go_wp2
      go_ret
      exact ⟨rfl, Below.drew3 HB1.out HQ.out⟩
  | true =>
    have HH := Lib.hid hh
    have hq := (hol_iff l).1 hh
    have h100 : len ≤ 100 := by omega
    have HP := Lib.hid hq.2.2
    have HL := Lib.hid hlen
    clear hh hlen hq
    have HF : Hid (decide (len ≤ 150) = true) := decide_eq_true (by omega)
    by_cases h0 : 0 ≤ d
    · by_cases h1 : d ≤ 36518
      · go_enter Tryd.func8, Tryd.ntmps8
        go_wp2_with fail
        refine KH.out.mono ?_
        rintro _ w1 ⟨rfl, hb1⟩
        have HB1 := Lib.hid hb1
        have HS1 := Lib.hid (HS.out.below hb1)
        clear hb1
        go_wp2_with fail
        refine (KF.out true HF.out _).mono ?_
        rintro _ w' ⟨rfl, rfl⟩
        go_wp2_with fail
        refine (KR.out true HH.out _ HS1.out).mono ?_
        rintro _ w2 ⟨rfl, hq⟩
        have HB2 := Lib.hid (Below.drew3 HB1.out hq)
        have HS2 := Lib.hid (HS1.out.drew hq)
        clear hq HB1 HS1
        go_wp2_with fail
        go_loopg [6, 7, 8] (8 : Nat) (fun g s6 s7 s8 wr => ∃ (k x y : Int), s8 = .int .i64 k ∧ s6 = .int .i64 x ∧ s7 = .int .i64 y ∧ d ≤ k ∧ k ≤ d + 7 ∧ d + 7 - k ≤ (g : Int) ∧ 0 ≤ x ∧ x ≤ k - d ∧ 0 ≤ y ∧ y ≤ k - d ∧ Hid (x + y = WD k - WD d) ∧ Hid (∃ q, wr = w2.drewN q))
        case atStart => exact ⟨d, 0, 0, rfl, rfl, rfl, by omega, by omega, by omega, by omega, by omega, by omega, by omega, (show (0 : Int) + 0 = _ by omega), (⟨0, rfl⟩ : ∃ q, w2 = w2.drewN q)⟩
        case round =>
          obtain ⟨k, x, y, rfl, rfl, rfl, k0, k1, kg, x0, x1, y0, y1, HX, HW⟩ := hrel
          by_cases hk : k < d + 7
          · have HS3 := Lib.hid (HS2.out.drew HW.out)
            have hws := WD_succ k
            have hkd : k ≤ 36524 := by omega
            have hk0 : 0 ≤ k := by omega
            have wd := wd_in hk0 hkd
            have kw : ∀ w, _ := fun w => week_is k ((k + 5) % 7) 0 wd w
            have KW := Lib.hid kw
            obtain ⟨c, hc⟩ : ∃ c, WK k l = c := ⟨_, rfl⟩
            have KV := Lib.hid (work_is k l p b off cap len c hk0 hkd HH.out hc)
            clear kw wd
            cases c with
            | true =>
              have hc2 := (WK_iff k l).1 hc
              rw [if_pos hc2.1] at hws
              have HWS := Lib.hid hws
              have HNM := Lib.hid hc2.2
              have h5 := hc2.1
              clear hws hc hc2
              go_wp2_with fail
              refine (KV.out _ HS3.out).mono ?_
              rintro _ w3 ⟨rfl, hq⟩
              have HW3 := Lib.hid (drew3 HW.out hq)
              have HS4 := Lib.hid (HS3.out.drew hq)
              clear hq HW HS3
              go_wp2_with fail
              refine (KW.out _).mono ?_
              rintro _ w' ⟨rfl, rfl⟩
              go_wp2_with fail
              go_loopg [7, 62] len (fun g2 s7 s62 wr2 => ∃ (j : Nat) (z : Int), s62 = .int .i64 j ∧ s7 = .int .i64 z ∧ j ≤ len ∧ len - j ≤ g2 ∧ wr2 = w3 ∧ 0 ≤ z ∧ z ≤ y + 1 ∧ Hid (z = y))
              case atStart => exact ⟨0, y, rfl, rfl, by omega, by omega, rfl, by omega, by omega, (show _ = _ by rfl)⟩
              case round =>
                obtain ⟨j, z, rfl, rfl, hj, hjg, rfl, z0, z1, HZ⟩ := hrel
                by_cases hlt : j < len
                · have hltz : (j : Int) < (len : Int) := by omega
                  have hp1 := HS4.out.2.1 (by omega)
                  have hjl : j < l.length := by rw [HL.out]; exact hlt
                  have hc := HS4.out.2.2.1 j hjl
                  obtain ⟨v, hv⟩ : ∃ v, v = l[j] := ⟨_, rfl⟩
                  rw [← hv] at hc
                  subst hp1
                  have hne : (v == k) = false := by
                    have : ¬ v = k := fun e => HNM.out (by rw [← e, hv]; exact List.getElem_mem hjl)
                    simpa using this
                  clear hv
                  go_wp2
                  go_roundg (len - (j + 1))
                  case measure => omega
                  case rel => exact ⟨j + 1, z, by go_num, rfl, by omega, by omega, rfl, by omega, by omega, HZ⟩
                · have hltz : ¬ (j : Int) < (len : Int) := by omega
                  have hjl : j = len := by omega
                  have HN : Hid (x + 1 + z = WD (k + 1) - WD d) := by
                    have a := HZ.out
                    have b := HX.out
                    have c := HWS.out
                    show _ = _
                    omega
                  have z2 : z ≤ k + 1 - d := by have := HZ.out; omega
                  go_wp2
                  go_roundg (d + 7 - (k + 1)).toNat
                  case measure => omega
                  case rel => exact ⟨k + 1, x + 1, z, rfl, rfl, rfl, by omega, by omega, by omega, by omega, by omega, by omega, by omega, HN, HW3.out⟩
            | false =>
              by_cases h5 : (k + 5) % 7 < 5
              · skip
                have HMEM := Lib.hid (WK_false hc h5)
                rw [if_pos h5] at hws
                have HWS := Lib.hid hws
                clear hws hc
                go_wp2_with fail
                refine (KV.out _ HS3.out).mono ?_
                rintro _ w3 ⟨rfl, hq⟩
                have HW3 := Lib.hid (drew3 HW.out hq)
                have HS4 := Lib.hid (HS3.out.drew hq)
                clear hq HW HS3
                go_wp2_with fail
                refine (KW.out _).mono ?_
                rintro _ w' ⟨rfl, rfl⟩
                go_wp2_with fail
                go_loopg [7, 62] len (fun g2 s7 s62 wr2 => ∃ (j : Nat) (z : Int), s62 = .int .i64 j ∧ s7 = .int .i64 z ∧ j ≤ len ∧ len - j ≤ g2 ∧ wr2 = w3 ∧ 0 ≤ z ∧ z ≤ y + 1 ∧ Hid (z = y + met l j k))
                case atStart => exact ⟨0, y, rfl, rfl, by omega, by omega, rfl, by omega, by omega, (show _ = _ by show y = y + met l 0 k; rw [met_zero, Int.add_zero])⟩
                case round =>
                  obtain ⟨j, z, rfl, rfl, hj, hjg, rfl, z0, z1, HZ⟩ := hrel
                  by_cases hlt : j < len
                  · have hltz : (j : Int) < (len : Int) := by omega
                    have hp1 := HS4.out.2.1 (by omega)
                    have hjl : j < l.length := by rw [HL.out]; exact hlt
                    have hc := HS4.out.2.2.1 j hjl
                    obtain ⟨v, hv⟩ : ∃ v, v = l[j] := ⟨_, rfl⟩
                    rw [← hv] at hc
                    subst hp1
                    by_cases hvk : v = k
                    · have hne : (v == k) = true := by simpa using hvk
                      have hm1 := met_here (k := k) HP.out hjl (by rw [← hv]; exact hvk)
                      have hm2 := met_le l (j + 1) k
                      have hm3 := HZ.out
                      have HN : Hid (z + 1 = y + met l (j + 1) k) := by show _ = _; omega
                      have z2 : z + 1 ≤ y + 1 := by omega
                      clear hv hvk hm1 hm2 hm3
                      go_wp2
                      go_roundg (len - (j + 1))
                      case measure => omega
                      case rel => exact ⟨j + 1, z + 1, by go_num, rfl, by omega, by omega, rfl, by omega, by omega, HN⟩
                    · have hne : (v == k) = false := by simpa using hvk
                      have hm1 := met_other (k := k) hjl (by rw [← hv]; exact hvk)
                      have HN : Hid (z = y + met l (j + 1) k) := by show _ = _; rw [hm1]; exact HZ.out
                      clear hv hvk hm1
                      go_wp2
                      go_roundg (len - (j + 1))
                      case measure => omega
                      case rel => exact ⟨j + 1, z, by go_num, rfl, by omega, by omega, rfl, by omega, by omega, HN⟩
                  · have hltz : ¬ (j : Int) < (len : Int) := by omega
                    have hjl : j = len := by omega
                    have hma := met_all HMEM.out
                    have HN : Hid (x + z = WD (k + 1) - WD d) := by
                      have a := HZ.out
                      have b := HX.out
                      have c := HWS.out
                      rw [HL.out, ← hjl] at hma
                      show _ = _
                      omega
                    have z2 : z ≤ k + 1 - d := by omega
                    clear hma
                    go_wp2
                    go_roundg (d + 7 - (k + 1)).toNat
                    case measure => omega
                    case rel => exact ⟨k + 1, x, z, rfl, rfl, rfl, by omega, by omega, by omega, by omega, by omega, by omega, by omega, HN, HW3.out⟩
              · skip
                rw [if_neg h5] at hws
                have HWS := Lib.hid hws
                have h6 : decide ((k + 5) % 7 < 5) = false := decide_eq_false h5
                clear hws hc h5
                go_wp2_with fail
                refine (KV.out _ HS3.out).mono ?_
                rintro _ w3 ⟨rfl, hq⟩
                have HW3 := Lib.hid (drew3 HW.out hq)
                have HS4 := Lib.hid (HS3.out.drew hq)
                clear hq HW HS3
                go_wp2_with fail
                refine (KW.out _).mono ?_
                rintro _ w' ⟨rfl, rfl⟩
                go_wp2_with fail
                go_loopg [7, 62] len (fun g2 s7 s62 wr2 => ∃ (j : Nat) (z : Int), s62 = .int .i64 j ∧ s7 = .int .i64 z ∧ j ≤ len ∧ len - j ≤ g2 ∧ wr2 = w3 ∧ 0 ≤ z ∧ z ≤ y + 1 ∧ Hid (z = y))
                case atStart => exact ⟨0, y, rfl, rfl, by omega, by omega, rfl, by omega, by omega, (show _ = _ by rfl)⟩
                case round =>
                  obtain ⟨j, z, rfl, rfl, hj, hjg, rfl, z0, z1, HZ⟩ := hrel
                  by_cases hlt : j < len
                  · have hltz : (j : Int) < (len : Int) := by omega
                    have hp1 := HS4.out.2.1 (by omega)
                    have hjl : j < l.length := by rw [HL.out]; exact hlt
                    have hc := HS4.out.2.2.1 j hjl
                    obtain ⟨v, hv⟩ : ∃ v, v = l[j] := ⟨_, rfl⟩
                    rw [← hv] at hc
                    subst hp1
                    by_cases hvk : v = k
                    · have hne : (v == k) = true := by simpa using hvk
                      clear hv hvk
                      go_wp2
                      go_roundg (len - (j + 1))
                      case measure => omega
                      case rel => exact ⟨j + 1, z, by go_num, rfl, by omega, by omega, rfl, by omega, by omega, HZ⟩
                    · have hne : (v == k) = false := by simpa using hvk
                      clear hv hvk
                      go_wp2
                      go_roundg (len - (j + 1))
                      case measure => omega
                      case rel => exact ⟨j + 1, z, by go_num, rfl, by omega, by omega, rfl, by omega, by omega, HZ⟩
                  · have hltz : ¬ (j : Int) < (len : Int) := by omega
                    have hjl : j = len := by omega
                    have HN : Hid (x + z = WD (k + 1) - WD d) := by
                      have a := HZ.out
                      have b := HX.out
                      have c := HWS.out
                      show _ = _
                      omega
                    have z2 : z ≤ k + 1 - d := by have := HZ.out; omega
                    go_wp2
                    go_roundg (d + 7 - (k + 1)).toNat
                    case measure => omega
                    case rel => exact ⟨k + 1, x, z, rfl, rfl, rfl, by omega, by omega, by omega, by omega, by omega, by omega, by omega, HN, HW3.out⟩
          · have hkd : k = d + 7 := by omega
            have h5 : (x + y == 5) = true := by
              have a := HX.out
              have b := WD_week d
              rw [hkd] at a
              have : x + y = 5 := by omega
              simpa using this
            have x2 : x ≤ 7 := by omega
            have y2 : y ≤ 7 := by omega
            clear hkd
            go_wp2
            go_ret
            exact ⟨by first | rfl | (simp; done), Below.drew3 HB2.out HW.out⟩
      · skip
        go_enter Tryd.func8, Tryd.ntmps8
        go_wp2_with fail
        refine KH.out.mono ?_
        rintro _ w1 ⟨rfl, hb1⟩
        have HB1 := Lib.hid hb1
        have HS1 := Lib.hid (HS.out.below hb1)
        clear hb1
        go_wp2_with fail
        refine (KF.out true HF.out _).mono ?_
        rintro _ w' ⟨rfl, rfl⟩
        go_wp2_with fail
        refine (KR.out true HH.out _ HS1.out).mono ?_
        rintro _ w2 ⟨rfl, hq⟩
        have HB2 := Lib.hid (Below.drew3 HB1.out hq)
        clear hq HB1 HS1
        go_wp2
        go_ret
        exact ⟨rfl, HB2.out⟩
    · skip
      go_enter Tryd.func8, Tryd.ntmps8
      go_wp2_with fail
      refine KH.out.mono ?_
      rintro _ w1 ⟨rfl, hb1⟩
      have HB1 := Lib.hid hb1
      have HS1 := Lib.hid (HS.out.below hb1)
      clear hb1
      go_wp2_with fail
      refine (KF.out true HF.out _).mono ?_
      rintro _ w' ⟨rfl, rfl⟩
      go_wp2_with fail
      refine (KR.out true HH.out _ HS1.out).mono ?_
      rintro _ w2 ⟨rfl, hq⟩
      have HB2 := Lib.hid (Below.drew3 HB1.out hq)
      clear hq HB1 HS1
      go_wp2
      go_ret
      exact ⟨rfl, HB2.out⟩
end Go.Proofs.YtopngioiboepfaaDoor
