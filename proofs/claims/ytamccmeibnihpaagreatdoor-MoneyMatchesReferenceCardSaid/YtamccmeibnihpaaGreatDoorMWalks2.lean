/-
  Contracts of Add, Scale and Split.
-/
import Derived.Test.YtamccmeibnihpaaGreatDoorMDivide
import Derived.Test.YtamccmeibnihpaaGreatDoorMWhole
namespace Go.Proofs.YtamccmeibnihpaaGreatDoor
open Go.RowKit

/-- What Add gives. -/
def addR (l : List Int) : Int × Int := if l.all amt = true then wth l.sum else (0, 1)

theorem take_all2 (l : List Int) (k : Nat) (h : k < l.length) (a : (l.take k).all amt = true) (b : amt l[k] = true) : (l.take (k + 1)).all amt = true := by
  rw [List.take_succ_eq_append_getElem h, List.all_append, a]; simp [b]

set_option maxHeartbeats 1000000 in
set_option maxRecDepth 100000 in
theorem add_any (l : List Int) (p : Option Addr) (b off cap len : Nat) (w : World) (hlen : l.length = len) (hp : 0 < len → p = some ⟨b, off, none⟩) (hA : At w b off l) (hm : len ≤ 1000) :
    Calls Tryz.prog 6 #[.slice p len cap] w fun e w' => e = .returned (.tuple #[.int .i64 (addR l).1, .int .i64 (addR l).2]) ∧ w = w' := by
  have HL : Hid (l.length = len) := hlen
  have HA : Aside (At w b off l) := hA
  have HP : Aside (0 < len → p = some ⟨b, off, none⟩) := hp
  clear hA hlen hp
  go_enter Tryz.func6, Tryz.ntmps6
  go_wp2
  go_loop [4, 9] (fun t i => ∃ (k : Nat) (s : Int), k ≤ len ∧ i = .int .i64 k ∧ t = .int .i64 s ∧ -((k : Int) * 1000000000) ≤ s ∧ s ≤ (k : Int) * 1000000000 ∧ Hid (s = (l.take k).sum ∧ (l.take k).all amt = true)) (fun _ i => len - (intOf i).toNat)
  case atStart => exact ⟨0, 0, by omega, rfl, rfl, by omega, by omega, (show _ ∧ _ from ⟨by simp, by simp⟩)⟩
  case round =>
    obtain ⟨k, s, hk, rfl, rfl, hs0, hs1, HS⟩ := hrel
    by_cases hlt : k < len
    · have hltz : (k : Int) < (len : Int) := by omega
      have hp1 := HP.out (by omega)
      have hkl : k < l.length := by rw [HL.out]; exact hlt
      have hc := HA.out k hkl
      obtain ⟨x, hx⟩ : ∃ x, x = l[k] := ⟨_, rfl⟩
      rw [← hx] at hc
      cases hax : amt x with
      | true =>
        have hb := (amt_iff x).1 hax
        have HN : Hid (s + x = (l.take (k + 1)).sum ∧ (l.take (k + 1)).all amt = true) := ⟨by rw [take_sum l k hkl, ← HS.out.1, ← hx], take_all2 l k hkl HS.out.2 (by rw [← hx]; exact hax)⟩
        have hca : ∀ w : World, Calls Tryz.prog 17 #[.int .i64 x] w fun e w' => e = .returned (.bool true) ∧ w = w' := fun w => by rw [← hax]; exact amount_any x w
        have K := Lib.hid hca
        clear hax hx HS hca
        subst hp1
        go_wp2_with ((with_reducible refine (K.out _).mono ?_); rintro e w' ⟨rfl, rfl⟩)
        go_round
        case rel => exact ⟨k + 1, s + x, by omega, by go_num, rfl, by omega, by omega, HN⟩
        case measure => simp [intOf]; omega
      | false =>
        have e : addR l = (0, 1) := by
          unfold addR
          rw [if_neg]
          intro hh
          have := List.all_eq_true.1 hh l[k] (List.getElem_mem hkl)
          rw [← hx, hax] at this; cases this
        have E : Hid (addR l = (0, 1)) := e
        have hca : ∀ w : World, Calls Tryz.prog 17 #[.int .i64 x] w fun e w' => e = .returned (.bool false) ∧ w = w' := fun w => by rw [← hax]; exact amount_any x w
        have K := Lib.hid hca
        clear hax hx HS hca e
        subst hp1
        go_wp2_with ((with_reducible refine (K.out _).mono ?_); rintro e w' ⟨rfl, rfl⟩)
        go_ret2
        exact ⟨ret_2 (by rw [E.out]) (by rw [E.out]), rfl⟩
    · have hltz : ¬ (k : Int) < (len : Int) := by omega
      have E : Hid (addR l = wth s) := by
        have e : l.take k = l := List.take_of_length_le (by rw [HL.out]; omega)
        have h := HS.out
        rw [e] at h
        show _ = _
        unfold addR
        rw [if_pos h.2, h.1]
      have K := Lib.hid (fun w : World => within_any s w)
      clear HS
      go_wp2_with ((with_reducible refine (K.out _).mono ?_); rintro e w' ⟨rfl, rfl⟩)
      go_ret2
      exact ⟨ret_2 (by rw [E.out]) (by rw [E.out]), rfl⟩

/-- The nearest integer of n / d; half of one away from 0. -/
def rnd (n d : Int) : Int := if d ≤ 2 * ab (n.tmod d) then n.tdiv d + sgn n else n.tdiv d

theorem rnd_facts (n d : Int) (n0 : -1000000000000000000 ≤ n) (n1 : n ≤ 1000000000000000000) (d0 : 1 ≤ d) (d1 : d ≤ 1000000000) :
    ∃ q r : Int, n.tdiv d = q ∧ n.tmod d = r ∧ -1000000000000000000 ≤ q ∧ q ≤ 1000000000000000000 ∧ -1000000000 < r ∧ r < 1000000000 := by
  refine ⟨_, _, rfl, rfl, ?_, ?_, ?_, ?_⟩
  all_goals
    have h2 : (n.tdiv d).natAbs ≤ 1000000000000000000 := by rw [Int.natAbs_tdiv]; exact Nat.le_trans (Nat.div_le_self _ _) (by omega)
    have h3 : (n.tmod d).natAbs < d.natAbs := by rw [Int.natAbs_tmod]; exact Nat.mod_lt _ (by omega)
    omega

set_option maxHeartbeats 1000000 in
set_option maxRecDepth 100000 in
theorem round_any (n d : Int) (w : World) (n0 : -1000000000000000000 ≤ n) (n1 : n ≤ 1000000000000000000) (d0 : 1 ≤ d) (d1 : d ≤ 1000000000) :
    Calls Tryz.prog 21 #[.int .i64 n, .int .i64 d] w fun e w' => e = .returned (.int .i64 (rnd n d)) ∧ ∃ q, w' = w.drewN q := by
  obtain ⟨q, r, hq, hr, q0, q1, r0, r1⟩ := rnd_facts n d n0 n1 d0 d1
  have hab := abs_any r
  obtain ⟨a, ha⟩ : ∃ a, a = ab r := ⟨_, rfl⟩
  have a0 : 0 ≤ a ∧ a < 1000000000 := by rw [ha]; unfold ab; split <;> omega
  have ka : ∀ w : World, Calls Tryz.prog 26 #[.int .i64 r] w fun e w' => e = .returned (.int .i64 a) ∧ w = w' := fun w => by rw [ha]; exact abs_any r w (by omega) (by omega)
  obtain ⟨s, hs⟩ : ∃ s, s = sgn n := ⟨_, rfl⟩
  have s0 := sgn_le n
  rw [← hs] at s0
  have ks : ∀ w : World, Calls Tryz.prog 36 #[.int .i64 n] w fun e w' => e = .returned (.int .i64 s) ∧ w = w' := fun w => by rw [hs]; exact sign_any n w
  have HR : Hid (rnd n d = if d ≤ 2 * a then q + s else q) := by show _ = _; unfold rnd; rw [hr, hq, ← ha, ← hs]
  have KA := Lib.hid ka
  have KS := Lib.hid ks
  have rq : IntKind.i64.wrap q = q := by rw [IntKind.wrap_i64]; omega
  have rr : IntKind.i64.wrap r = r := by rw [IntKind.wrap_i64]; omega
  clear hab ha hs ka ks
  by_cases h : d ≤ 2 * a
  · have HR2 : Hid (rnd n d = q + s) := by show _ = _; rw [HR.out, if_pos h]
    go_enter Tryz.func21, Tryz.ntmps21
    go_wp2
    go_quiet (fail)
    go_wp2_with (first | ((with_reducible refine (KA.out _).mono ?_); rintro e w' ⟨rfl, rfl⟩) | ((with_reducible refine (KS.out _).mono ?_); rintro e w' ⟨rfl, rfl⟩))
    go_ret
    exact ⟨ret_int (by rw [HR2.out]), _, rfl⟩
  · have HR2 : Hid (rnd n d = q) := by show _ = _; rw [HR.out, if_neg h]
    go_enter Tryz.func21, Tryz.ntmps21
    go_wp2
    go_quiet (fail)
    go_wp2_with (first | ((with_reducible refine (KA.out _).mono ?_); rintro e w' ⟨rfl, rfl⟩) | ((with_reducible refine (KS.out _).mono ?_); rintro e w' ⟨rfl, rfl⟩))
    go_ret
    exact ⟨ret_int (by rw [HR2.out]), _, rfl⟩

/-- What Scale gives. -/
def sclR (c n d : Int) : Int × Int := if amt c = true ∧ vld n d = true then wth (rnd (c * n) d) else (0, 1)

theorem mul_le {a b : Int} (a0 : -1000000000 ≤ a) (a1 : a ≤ 1000000000) (b0 : -1000000000 ≤ b) (b1 : b ≤ 1000000000) : -1000000000000000000 ≤ a * b ∧ a * b ≤ 1000000000000000000 := by
  have h : (a * b).natAbs ≤ 1000000000 * 1000000000 := by rw [Int.natAbs_mul]; exact Nat.mul_le_mul (by omega) (by omega)
  omega

set_option maxHeartbeats 1000000 in
set_option maxRecDepth 100000 in
theorem scale_any (c n d : Int) (w : World) (n0 : -9223372036854775808 ≤ n) (n1 : n ≤ 9223372036854775807) (d0 : -9223372036854775808 ≤ d) (d1 : d ≤ 9223372036854775807) :
    Calls Tryz.prog 8 #[.int .i64 c, .agg #[.int .i64 n, .int .i64 d]] w fun e w' =>
      e = .returned (.tuple #[.int .i64 (sclR c n d).1, .int .i64 (sclR c n d).2]) ∧ Below w.heap.size w w' := by
  cases hc : amt c with
  | false =>
    have E : Hid (sclR c n d = (0, 1)) := by show _ = _; unfold sclR; rw [if_neg (fun x => by rw [hc] at x; cases x.1)]
    have hca : ∀ w : World, Calls Tryz.prog 17 #[.int .i64 c] w fun e w' => e = .returned (.bool false) ∧ w = w' := fun w => by rw [← hc]; exact amount_any c w
    have K := Lib.hid hca
    clear hc hca
    go_enter Tryz.func8, Tryz.ntmps8
    go_wp2_with ((with_reducible refine (K.out _).mono ?_); rintro e w' ⟨rfl, rfl⟩)
    go_ret2
    exact ⟨ret_2 (by rw [E.out]) (by rw [E.out]), (Below.refl _ _).alloc (Nat.le_refl _) _⟩
  | true =>
    have hca : ∀ w : World, Calls Tryz.prog 17 #[.int .i64 c] w fun e w' => e = .returned (.bool true) ∧ w = w' := fun w => by rw [← hc]; exact amount_any c w
    have K := Lib.hid hca
    have hcb := (amt_iff c).1 hc
    cases hv : vld n d with
    | false =>
      have E : Hid (sclR c n d = (0, 1)) := by show _ = _; unfold sclR; rw [if_neg (fun x => by rw [hv] at x; cases x.2)]
      have hva : ∀ w : World, Calls Tryz.prog 20 #[.agg #[.int .i64 n, .int .i64 d]] w fun e w' => e = .returned (.bool false) ∧ Below w.heap.size w w' := fun w => by rw [← hv]; exact valid_any n d w n0 n1 d0 d1
      have KV := Lib.hid hva
      clear hc hca hv hva
      go_enter Tryz.func8, Tryz.ntmps8
      go_wp2_with fail
      refine (K.out _).mono ?_
      rintro e w' ⟨rfl, rfl⟩
      go_wp2_with fail
      refine (KV.out _).mono ?_
      rintro e w1 ⟨rfl, hb1⟩
      have HB : Aside (Below w.heap.size w w1) := ((Below.refl _ _).alloc (Nat.le_refl _) _).trans (hb1.mono (by simp))
      clear hb1
      go_wp2
      go_ret2
      exact ⟨ret_2 (by rw [E.out]) (by rw [E.out]), HB.out⟩
    | true =>
      have hQ := (vld_iff n d).1 hv
      obtain ⟨v0, v1, v2, v3, _⟩ := hQ
      have E : Hid (sclR c n d = wth (rnd (c * n) d)) := by show _ = _; unfold sclR; rw [if_pos ⟨hc, hv⟩]
      have hva : ∀ w : World, Calls Tryz.prog 20 #[.agg #[.int .i64 n, .int .i64 d]] w fun e w' => e = .returned (.bool true) ∧ Below w.heap.size w w' := fun w => by rw [← hv]; exact valid_any n d w n0 n1 d0 d1
      have KV := Lib.hid hva
      have hm := mul_le hcb.1 hcb.2 v0 v1
      obtain ⟨m, hme⟩ : ∃ m, c * n = m := ⟨_, rfl⟩
      rw [hme] at hm E
      have KR := Lib.hid (fun w : World => round_any m d w hm.1 hm.2 v2 v3)
      obtain ⟨q, hq⟩ : ∃ q, q = rnd m d := ⟨_, rfl⟩
      have HQ : Hid (q = rnd m d) := hq
      rw [← hq] at KR E
      have KW := Lib.hid (fun w : World => within_any q w)
      clear hc hca hv hva hq
      go_enter Tryz.func8, Tryz.ntmps8
      go_wp2_with fail
      refine (K.out _).mono ?_
      rintro e w' ⟨rfl, rfl⟩
      go_wp2_with fail
      refine (KV.out _).mono ?_
      rintro e w1 ⟨rfl, hb1⟩
      have hz1 := hb1.size
      simp only [World.size_alloc] at hz1
      have A1 : At2 w1 w.heap.size (.int .i64 n) (.int .i64 d) := (At2.new w _ _ _).below hb1 (by simp)
      have HB : Aside (Below w.heap.size w w1) := ((Below.refl _ _).alloc (Nat.le_refl _) _).trans (hb1.mono (by simp))
      clear hb1
      obtain ⟨p0, p1, p2, p3⟩ := A1
      go_wp2_with fail
      refine (KR.out _).mono ?_
      rintro e w2 ⟨rfl, nq, hw2⟩
      have HB2 : Aside (Below w.heap.size w w2) := by rw [hw2]; exact below_drewN HB.out nq
      clear hw2 p0 p1 p2 p3 HB
      go_wp2_with fail
      refine (KW.out _).mono ?_
      rintro e w' ⟨rfl, rfl⟩
      go_wp2
      go_ret2
      exact ⟨ret_2 (by rw [E.out]) (by rw [E.out]), HB2.out⟩

/-- What Split gives: the parts and the error. -/
def splL (c : Int) (l : List Int) : List Int := if amt c = true ∧ ¬ whole l = 0 then partL c (whole l) l (l.length - 1) else []
def splE (c : Int) (l : List Int) : Int := if amt c = true ∧ ¬ whole l = 0 then 0 else 1

theorem whole_facts {l : List Int} (h : ¬ whole l = 0) : l.length ≤ 64 ∧ l.all wok = true ∧ l.sum = whole l ∧ 0 < whole l ∧ whole l ≤ 64000000 ∧ 0 < l.length := by
  unfold whole at h ⊢
  split at h
  · rename_i hh
    rw [if_pos hh]
    have := sum_bounds l hh.2
    refine ⟨hh.1, hh.2, rfl, by omega, by omega, ?_⟩
    rcases Nat.eq_zero_or_pos l.length with e | e
    · have : l = [] := List.length_eq_zero_iff.1 e
      subst this; exact absurd rfl h
    · exact e
  · exact absurd rfl h

set_option maxHeartbeats 1000000 in
set_option maxRecDepth 100000 in
/-- Split: a new block, or nil. -/
theorem split_any (c : Int) (l : List Int) (p : Option Addr) (b off cap len : Nat) (w : World) (hlen : l.length = len) (hp : 0 < len → p = some ⟨b, off, none⟩) (hA : At w b off l) (hm : len ≤ 9223372036854775807) (hb : 0 < len → b < w.heap.size) :
    Calls Tryz.prog 10 #[.int .i64 c, .slice p len cap] w fun e w' =>
      ∃ (p' : Option Addr) (blk : Nat), e = .returned (.tuple #[.slice p' (splL c l).length (splL c l).length, .int .i64 (splE c l)]) ∧ (0 < (splL c l).length → p' = some ⟨blk, 0, none⟩ ∧ w.heap.size ≤ blk ∧ blk < w'.heap.size) ∧ At w' blk 0 (splL c l) ∧ Below w.heap.size w w' := by
  have KW := Lib.hid (fun w : World => fun (h : At w b off l) => weigh_any l p b off cap len w hlen hp h hm)
  have HA : Aside (At w b off l) := hA
  by_cases hg : amt c = true ∧ ¬ whole l = 0
  · obtain ⟨hc, hw⟩ := hg
    have E1 : Hid (splL c l = partL c (whole l) l (len - 1)) := by show _ = _; unfold splL; rw [if_pos ⟨hc, hw⟩, hlen]
    have E2 : Hid (splE c l = 0) := by show _ = _; unfold splE; rw [if_pos ⟨hc, hw⟩]
    obtain ⟨f1, f2, f3, f4, f5, f6⟩ := whole_facts hw
    have hcb := (amt_iff c).1 hc
    have hca : ∀ w : World, Calls Tryz.prog 17 #[.int .i64 c] w fun e w' => e = .returned (.bool true) ∧ w = w' := fun w => by rw [← hc]; exact amount_any c w
    have K := Lib.hid hca
    obtain ⟨W, hWe⟩ : ∃ W, W = whole l := ⟨_, rfl⟩
    rw [← hWe] at KW E1 f3 f4 f5
    have hp1 := hp (by omega)
    have hbw := hb (by omega)
    have hdv := divide_any (n := len - 1) c W l b off cap len w hlen (by omega) (by omega) f2 f3 f4 f5 hcb.1 hcb.2 hA hbw
    have KD := Lib.hid hdv
    have HL : Hid (l.length = len) := hlen
    have hl1 : 0 < len := by omega
    have hWn : (W == 0) = false := by simp; omega
    clear hc hca hw hWe hlen hp hb hA hdv f1 f2 f3 f6 hbw
    subst hp1
    go_enter Tryz.func10, Tryz.ntmps10
    go_wp2_with fail
    refine (KW.out _ HA.out).mono ?_
    rintro e w' ⟨rfl, rfl⟩
    go_wp2_with fail
    refine (K.out _).mono ?_
    rintro e w' ⟨rfl, rfl⟩
    go_wp2_with fail
    refine KD.out.mono ?_
    rintro e w2 ⟨blk, rfl, hAt, hbk, hbk2, hB⟩
    have h1 : Aside _ := hAt
    have h2 : Aside _ := hB
    clear hAt hB KD
    go_wp2
    go_ret2
    refine ⟨some ⟨blk, 0, none⟩, blk, ?_, ?_, by rw [E1.out]; exact h1.out, h2.out⟩
    · rw [E1.out, E2.out, partL_length, HL.out]; rfl
    · intro _; exact ⟨rfl, hbk, hbk2⟩
  · have E1 : Hid (splL c l = []) := by show _ = _; unfold splL; rw [if_neg hg]
    have E2 : Hid (splE c l = 1) := by show _ = _; unfold splE; rw [if_neg hg]
    obtain ⟨W, hWe⟩ : ∃ W, W = whole l := ⟨_, rfl⟩
    rw [← hWe] at KW hg
    cases hc : amt c with
    | false =>
      have hca : ∀ w : World, Calls Tryz.prog 17 #[.int .i64 c] w fun e w' => e = .returned (.bool false) ∧ w = w' := fun w => by rw [← hc]; exact amount_any c w
      have K := Lib.hid hca
      clear hc hca hWe hlen hp hb hA hg
      go_enter Tryz.func10, Tryz.ntmps10
      go_wp2_with fail
      refine (KW.out _ HA.out).mono ?_
      rintro e w' ⟨rfl, rfl⟩
      go_wp2_with fail
      refine (K.out _).mono ?_
      rintro e w' ⟨rfl, rfl⟩
      go_wp2
      go_ret2
      refine ⟨none, 0, ?_, ?_, ?_, Below.refl _ _⟩
      · rw [E1.out, E2.out]; rfl
      · rw [E1.out]; intro h; cases h
      · rw [E1.out]; intro k hk; cases hk
    | true =>
      have hca : ∀ w : World, Calls Tryz.prog 17 #[.int .i64 c] w fun e w' => e = .returned (.bool true) ∧ w = w' := fun w => by rw [← hc]; exact amount_any c w
      have K := Lib.hid hca
      have hW0 : W = 0 := Classical.byContradiction fun x => hg ⟨hc, x⟩
      clear hc hca hWe hlen hp hb hA hg
      subst hW0
      go_enter Tryz.func10, Tryz.ntmps10
      go_wp2_with fail
      refine (KW.out _ HA.out).mono ?_
      rintro e w' ⟨rfl, rfl⟩
      go_wp2_with fail
      refine (K.out _).mono ?_
      rintro e w' ⟨rfl, rfl⟩
      go_wp2
      go_ret2
      refine ⟨none, 0, ?_, ?_, ?_, Below.refl _ _⟩
      · rw [E1.out, E2.out]; rfl
      · rw [E1.out]; intro h; cases h
      · rw [E1.out]; intro k hk; cases hk
end Go.Proofs.YtamccmeibnihpaaGreatDoor
