/-
  The walks of the reference's Amount, Whole and Same.
-/
import Derived.Test.YtamccmeibnihpaaGreatDoorMWeigh
namespace Go.Proofs.YtamccmeibnihpaaGreatDoor
open Go.RowKit

theorem ret_bool {a b : Bool} (h : a = b) : Ending.returned (.bool a) = .returned (.bool b) := by rw [h]

set_option maxHeartbeats 400000 in
theorem ramount_any (c : Int) (w : World) : Calls Tryz.prog 19 #[.int .i64 c] w fun e w' => e = .returned (.bool (amt c)) ∧ w = w' := by
  by_cases h : -1000000000 ≤ c
  · have e : amt c = decide (c ≤ 1000000000) := by unfold amt; simp [h]
    rw [e]
    go_enter Tryz.func19, Tryz.ntmps19
    go_wp2
    go_ret
    exact ⟨rfl, rfl⟩
  · have e : amt c = false := by unfold amt; simp [h]
    rw [e]
    have e' : decide (-1000000000 ≤ c) = false := by simpa using h
    go_enter Tryz.func19, Tryz.ntmps19
    go_wp2
    go_ret
    exact ⟨rfl, rfl⟩

set_option maxHeartbeats 1000000 in
set_option maxRecDepth 100000 in
theorem rwhole_any (l : List Int) (p : Option Addr) (b off cap len : Nat) (w : World) (hlen : l.length = len) (hp : 0 < len → p = some ⟨b, off, none⟩) (hA : At w b off l) (hm : len ≤ 9223372036854775807) :
    Calls Tryz.prog 25 #[.slice p len cap] w fun e w' => e = .returned (.int .i64 (whole l)) ∧ w = w' := by
  have HL : Hid (l.length = len) := hlen
  have HA : Aside (At w b off l) := hA
  by_cases h0 : len < 1
  · have e : whole l = 0 := by
      have : l = [] := List.length_eq_zero_iff.1 (by omega)
      rw [this]; decide
    rw [e]
    have hz : (len : Int) < 1 := by omega
    clear hA hlen hp e
    go_enter Tryz.func25, Tryz.ntmps25
    go_wp2
    go_ret
    exact ⟨rfl, rfl⟩
  by_cases h64 : 64 < len
  · have e : whole l = 0 := by unfold whole; rw [if_neg (by omega)]
    rw [e]
    have hz : decide ((len : Int) < 1) = false := decide_eq_false (by omega)
    have hz2 : (64 : Int) < (len : Int) := by omega
    clear hA hlen hp e h0
    go_enter Tryz.func25, Tryz.ntmps25
    go_wp2
    go_ret
    exact ⟨rfl, rfl⟩
  · have hz : decide ((len : Int) < 1) = false := decide_eq_false (by omega)
    have hz2 : ¬ (64 : Int) < (len : Int) := by omega
    have h64' : len ≤ 64 := by omega
    have HP : p = some ⟨b, off, none⟩ := hp (by omega)
    subst HP
    clear hA hlen hp h0
    go_enter Tryz.func25, Tryz.ntmps25
    go_wp2
    go_loop [3, 4] (fun t i => ∃ (k : Nat) (s : Int), k ≤ len ∧ i = .int .i64 k ∧ t = .int .i64 s ∧ 0 ≤ s ∧ s ≤ 64000000 ∧ Hid (s = (l.take k).sum ∧ (l.take k).all wok = true)) (fun _ i => len - (intOf i).toNat)
    case atStart => exact ⟨0, 0, by omega, rfl, rfl, by omega, by omega, (show _ ∧ _ from ⟨by simp, by simp⟩)⟩
    case round =>
      obtain ⟨k, s, hk, rfl, rfl, hs0, hs1, HS⟩ := hrel
      by_cases hlt : k < len
      · have hltz : (k : Int) < (len : Int) := by omega
        have hkl : k < l.length := by rw [HL.out]; exact hlt
        have hc := HA.out k hkl
        obtain ⟨x, hx⟩ : ∃ x, x = l[k] := ⟨_, rfl⟩
        rw [← hx] at hc
        by_cases h0 : 0 ≤ x
        · by_cases h1 : x ≤ 1000000
          · have hw : wok l[k] = true := by rw [← hx]; exact (wok_iff x).2 ⟨h0, h1⟩
            have HN : Hid (s + x = (l.take (k + 1)).sum ∧ (l.take (k + 1)).all wok = true) := ⟨by rw [take_sum l k hkl, ← HS.out.1, ← hx], take_all l k hkl HS.out.2 hw⟩
            have hb : s + x ≤ 64000000 := by
              have := sum_bounds _ HN.out.2
              rw [← HN.out.1] at this
              have h2 : (l.take (k + 1)).length ≤ k + 1 := List.length_take_le _ _
              omega
            have t0 : decide (x < 0) = false := decide_eq_false (by omega)
            have t1 : decide (1000000 < x) = false := decide_eq_false (by omega)
            clear hw hx HS
            go_wp2
            go_round
            case rel => exact ⟨k + 1, s + x, by omega, by go_num, rfl, by omega, hb, HN⟩
            case measure => simp [intOf]; omega
          · have e : whole l = 0 := whole_bad l k hkl (by rw [← hx, Bool.eq_false_iff]; intro h; have := (wok_iff x).1 h; omega)
            have E : Hid (whole l = 0) := e
            have t0 : decide (x < 0) = false := decide_eq_false (by omega)
            have t1 : decide (1000000 < x) = true := decide_eq_true (by omega)
            clear e hx HS
            go_wp2
            go_ret
            exact ⟨ret_int E.out.symm, rfl⟩
        · have e : whole l = 0 := whole_bad l k hkl (by rw [← hx, Bool.eq_false_iff]; intro h; have := (wok_iff x).1 h; omega)
          have E : Hid (whole l = 0) := e
          have t0 : decide (x < 0) = true := decide_eq_true (by omega)
          clear e hx HS
          go_wp2
          go_ret
          exact ⟨ret_int E.out.symm, rfl⟩
      · have hltz : ¬ (k : Int) < (len : Int) := by omega
        go_wp2
        go_ret
        refine ⟨ret_int ?_, rfl⟩
        have e : l.take k = l := List.take_of_length_le (by rw [HL.out]; omega)
        have := HS.out
        rw [e] at this
        unfold whole
        rw [if_pos ⟨by rw [HL.out]; exact h64', this.2⟩, this.1]

set_option maxHeartbeats 1000000 in
set_option maxRecDepth 100000 in
theorem same_any (l k : List Int) (p1 p2 : Option Addr) (b1 o1 n1 c1 b2 o2 n2 c2 : Nat) (w : World) (h1 : l.length = n1) (h2 : k.length = n2) (hp1 : 0 < n1 → p1 = some ⟨b1, o1, none⟩) (hp2 : 0 < n2 → p2 = some ⟨b2, o2, none⟩)
    (hA1 : At w b1 o1 l) (hA2 : At w b2 o2 k) (hm1 : n1 ≤ 9223372036854775807) (hm2 : n2 ≤ 9223372036854775807) :
    Calls Tryz.prog 12 #[.slice p1 n1 c1, .slice p2 n2 c2] w fun e w' => e = .returned (.bool (decide (l = k))) ∧ ∃ q, w' = w.drewN q := by
  by_cases hne : n1 = n2
  · subst hne
    have HL : Hid (l.length = n1 ∧ k.length = n1) := ⟨h1, h2⟩
    have HA1 : Aside (At w b1 o1 l) := hA1
    have HA2 : Aside (At w b2 o2 k) := hA2
    have HP : Aside ((0 < n1 → p1 = some ⟨b1, o1, none⟩) ∧ (0 < n1 → p2 = some ⟨b2, o2, none⟩)) := ⟨hp1, hp2⟩
    have hb : ((n1 : Int) != (n1 : Int)) = false := by simp
    clear hp1 hp2 h1 h2 hA1 hA2
    go_enter Tryz.func12, Tryz.ntmps12
    go_wp2
    go_loopg [5] n1 (fun kx vi wr => ∃ i : Nat, vi = .int .i64 i ∧ i ≤ n1 ∧ n1 - i ≤ kx ∧ Hid (l.take i = k.take i) ∧ Aside (∃ q, wr = w.drewN q))
    case atStart => exact ⟨0, rfl, by omega, by omega, (show _ = _ by simp), (⟨0, rfl⟩ : ∃ q, w = w.drewN q)⟩
    case round =>
      obtain ⟨i, rfl, hi, hkx, HE, HQ⟩ := hrel
      by_cases hlt : i < n1
      · have hltz : (i : Int) < (n1 : Int) := by omega
        have p0 : (0 : Int) ≤ (i : Int) := by omega
        have hil : i < l.length := by rw [HL.out.1]; exact hlt
        have hik : i < k.length := by rw [HL.out.2]; exact hlt
        obtain ⟨e1, e2⟩ := HP.out
        have e1 := e1 (by omega)
        have e2 := e2 (by omega)
        subst e1 e2
        have g1 : wr.cell? ⟨b1, o1 + i, none⟩ = some (.int .i64 l[i]) := by obtain ⟨q, hq⟩ := HQ.out; rw [hq]; exact HA1.out i hil
        have g2 : wr.cell? ⟨b2, o2 + i, none⟩ = some (.int .i64 k[i]) := by obtain ⟨q, hq⟩ := HQ.out; rw [hq]; exact HA2.out i hik
        obtain ⟨x, hx⟩ : ∃ x, x = l[i] := ⟨_, rfl⟩
        obtain ⟨y, hy⟩ : ∃ y, y = k[i] := ⟨_, rfl⟩
        rw [← hx] at g1
        rw [← hy] at g2
        have HX : Hid (x = l[i]) := hx
        have HY : Hid (y = k[i]) := hy
        clear hx hy
        by_cases hxy : x = y
        · have t1 : (x != y) = false := by simp [hxy]
          have HE2 : Hid (l.take (i + 1) = k.take (i + 1)) := by
            show _ = _
            rw [List.take_succ_eq_append_getElem hil, List.take_succ_eq_append_getElem hik, HE.out, ← HX.out, ← HY.out, hxy]
          clear hxy
          go_wp2_with fail
          go_quiet (fail)
          have HQ2 : Aside (∃ q, wr.drewN nq = w.drewN q) := by obtain ⟨q, hq⟩ := HQ.out; exact ⟨q + nq, by rw [hq, World.drewN_drewN]⟩
          clear g1 g2 HQ
          generalize wr.drewN nq = w2 at HQ2 ⊢
          go_wp2
          go_roundg (n1 - (i + 1))
          case measure => omega
          case rel => exact ⟨i + 1, by go_num, by omega, by omega, HE2, HQ2⟩
        · have t1 : (x != y) = true := by simp [hxy]
          have HN : Hid (decide (l = k) = false) := by
            show _ = _
            refine decide_eq_false (fun e => hxy ?_)
            rw [HX.out, HY.out]
            subst e; rfl
          clear hxy
          go_wp2_with fail
          go_quiet (fail)
          have HQ2 : Aside (∃ q, wr.drewN nq = w.drewN q) := by obtain ⟨q, hq⟩ := HQ.out; exact ⟨q + nq, by rw [hq, World.drewN_drewN]⟩
          clear g1 g2 HQ
          generalize wr.drewN nq = w2 at HQ2 ⊢
          go_wp2
          go_ret
          exact ⟨ret_bool HN.out.symm, HQ2.out⟩
      · have hltz : ¬ (i : Int) < (n1 : Int) := by omega
        have HN : Hid (decide (l = k) = true) := by
          show _ = _
          refine decide_eq_true ?_
          have := HE.out
          rw [List.take_of_length_le (by rw [HL.out.1]; omega), List.take_of_length_le (by rw [HL.out.2]; omega)] at this
          exact this
        go_wp2
        go_ret
        exact ⟨ret_bool HN.out.symm, HQ.out⟩
  · have hb : ((n1 : Int) != (n2 : Int)) = true := by simp; omega
    have HN : Hid (decide (l = k) = false) := decide_eq_false (fun e => hne (by rw [← h1, ← h2, e]))
    clear hA1 hA2 hp1 hp2 h1 h2 hne
    go_enter Tryz.func12, Tryz.ntmps12
    go_wp2
    go_ret
    exact ⟨ret_bool HN.out.symm, 0, rfl⟩
end Go.Proofs.YtamccmeibnihpaaGreatDoor
