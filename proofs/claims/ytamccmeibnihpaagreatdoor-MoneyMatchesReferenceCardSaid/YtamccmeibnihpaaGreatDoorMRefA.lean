/-
  The walks of the reference's Add and Scale: the same values as the program's.
-/
import Derived.Test.YtamccmeibnihpaaGreatDoorMWalks2
import Derived.Test.YtamccmeibnihpaaGreatDoorMRef1
namespace Go.Proofs.YtamccmeibnihpaaGreatDoor
open Go.RowKit

set_option maxHeartbeats 1000000 in
set_option maxRecDepth 100000 in
theorem radd_any (l : List Int) (p : Option Addr) (b off cap len : Nat) (w : World) (hlen : l.length = len) (hp : 0 < len → p = some ⟨b, off, none⟩) (hA : At w b off l) (hm : len ≤ 1000) :
    Calls Tryz.prog 7 #[.slice p len cap] w fun e w' => e = .returned (.tuple #[.int .i64 (addR l).1, .int .i64 (addR l).2]) ∧ w = w' := by
  have HL : Hid (l.length = len) := hlen
  have HA : Aside (At w b off l) := hA
  have HP : Aside (0 < len → p = some ⟨b, off, none⟩) := hp
  clear hA hlen hp
  go_enter Tryz.func7, Tryz.ntmps7
  go_wp2
  go_loop [4, 5] (fun t i => ∃ (k : Nat) (s : Int), k ≤ len ∧ i = .int .i64 k ∧ t = .int .i64 s ∧ -((k : Int) * 1000000000) ≤ s ∧ s ≤ (k : Int) * 1000000000 ∧ Hid (s = (l.take k).sum ∧ (l.take k).all amt = true)) (fun _ i => len - (intOf i).toNat)
  case atStart => exact ⟨0, 0, by omega, rfl, rfl, by omega, by omega, (show _ ∧ _ from ⟨by simp, by simp⟩)⟩
  case round =>
    obtain ⟨k, s, hk, rfl, rfl, hs0, hs1, HS⟩ := hrel
    by_cases hlt : k < len
    · have hltz : (k : Int) < (len : Int) := by omega
      have p0 : (0 : Int) ≤ (k : Int) := by omega
      have hp1 := HP.out (by omega)
      have hkl : k < l.length := by rw [HL.out]; exact hlt
      have hc := HA.out k hkl
      obtain ⟨x, hx⟩ : ∃ x, x = l[k] := ⟨_, rfl⟩
      rw [← hx] at hc
      cases hax : amt x with
      | true =>
        have hb := (amt_iff x).1 hax
        have HN : Hid (s + x = (l.take (k + 1)).sum ∧ (l.take (k + 1)).all amt = true) := ⟨by rw [take_sum l k hkl, ← HS.out.1, ← hx], take_all2 l k hkl HS.out.2 (by rw [← hx]; exact hax)⟩
        have hca : ∀ w : World, Calls Tryz.prog 19 #[.int .i64 x] w fun e w' => e = .returned (.bool true) ∧ w = w' := fun w => by rw [← hax]; exact ramount_any x w
        have K := Lib.hid hca
        clear hax hx HS hca
        subst hp1
        go_wp2_with ((with_reducible refine (K.out _).mono ?_); rintro e w' ⟨rfl, rfl⟩)
        go_round
        case rel => exact ⟨k + 1, s + x, by omega, by go_num, rfl, by omega, by omega, HN⟩
        case measure => simp [intOf]; omega
      | false =>
        have e : addR l = (0, 1) := by
          unfold addR
          rw [if_neg]
          intro hh
          have := List.all_eq_true.1 hh l[k] (List.getElem_mem hkl)
          rw [← hx, hax] at this; cases this
        have E : Hid (addR l = (0, 1)) := e
        have hca : ∀ w : World, Calls Tryz.prog 19 #[.int .i64 x] w fun e w' => e = .returned (.bool false) ∧ w = w' := fun w => by rw [← hax]; exact ramount_any x w
        have K := Lib.hid hca
        clear hax hx HS hca e
        subst hp1
        go_wp2_with ((with_reducible refine (K.out _).mono ?_); rintro e w' ⟨rfl, rfl⟩)
        go_ret2
        exact ⟨ret_2 (by rw [E.out]) (by rw [E.out]), rfl⟩
    · have hltz : ¬ (k : Int) < (len : Int) := by omega
      have hE : addR l = wth s := by
        have e : l.take k = l := List.take_of_length_le (by rw [HL.out]; omega)
        have h := HS.out
        rw [e] at h
        unfold addR
        rw [if_pos h.2, h.1]
      clear HS
      cases has : amt s with
      | true =>
        have E : Hid (addR l = (s, 0)) := by show _ = _; rw [hE]; unfold wth; rw [if_pos has]
        have hca : ∀ w : World, Calls Tryz.prog 19 #[.int .i64 s] w fun e w' => e = .returned (.bool true) ∧ w = w' := fun w => by rw [← has]; exact ramount_any s w
        have K := Lib.hid hca
        clear has hE hca
        go_wp2_with ((with_reducible refine (K.out _).mono ?_); rintro e w' ⟨rfl, rfl⟩)
        go_ret2
        exact ⟨ret_2 (by rw [E.out]) (by rw [E.out]), rfl⟩
      | false =>
        have E : Hid (addR l = (0, 3)) := by show _ = _; rw [hE]; unfold wth; rw [if_neg (by rw [has]; simp)]
        have hca : ∀ w : World, Calls Tryz.prog 19 #[.int .i64 s] w fun e w' => e = .returned (.bool false) ∧ w = w' := fun w => by rw [← has]; exact ramount_any s w
        have K := Lib.hid hca
        clear has hE hca
        go_wp2_with ((with_reducible refine (K.out _).mono ?_); rintro e w' ⟨rfl, rfl⟩)
        go_ret2
        exact ⟨ret_2 (by rw [E.out]) (by rw [E.out]), rfl⟩

/-- The reference's way to round is the program's. -/
theorem rnd_ref (m d q r : Int) (hq : m.tdiv d = q) (hr : m.tmod d = r) : (r < 0 → m < 0) ∧ (0 < r → 0 < m) ∧
    rnd m d = if r < 0 ∧ d ≤ -2 * r then q - 1 else if 0 < r ∧ d ≤ 2 * r then q + 1 else if r = 0 ∧ d ≤ 0 then q + sgn m else q := by
  have h1 : 0 ≤ m → 0 ≤ r := fun h => by rw [← hr]; exact Int.tmod_nonneg d h
  have h2 : m ≤ 0 → r ≤ 0 := fun h => by
    have := Int.tmod_nonneg d (show 0 ≤ -m by omega)
    rw [Int.neg_tmod] at this; omega
  refine ⟨fun h => by omega, fun h => by omega, ?_⟩
  unfold rnd
  rw [hq, hr]
  unfold ab
  rcases Int.lt_trichotomy r 0 with h | h | h
  · have hs : sgn m = -1 := sgn_neg (by omega)
    rw [hs]; repeat' split
    all_goals omega
  · subst h; simp only [Int.lt_irrefl, false_and, if_false, true_and]; simp
  · have hs : sgn m = 1 := sgn_pos (by omega)
    rw [hs]; repeat' split
    all_goals omega

set_option maxHeartbeats 1000000 in
set_option maxRecDepth 100000 in
theorem rscale_any (c n d : Int) (w : World) (n0 : -9223372036854775808 ≤ n) (n1 : n ≤ 9223372036854775807) (d0 : -9223372036854775808 ≤ d) (d1 : d ≤ 9223372036854775807) :
    Calls Tryz.prog 9 #[.int .i64 c, .agg #[.int .i64 n, .int .i64 d]] w fun e w' =>
      e = .returned (.tuple #[.int .i64 (sclR c n d).1, .int .i64 (sclR c n d).2]) ∧ Below w.heap.size w w' := by
  have hca := fun w : World => ramount_any c w
  have hva := fun w : World => rvalid_any n d w n0 n1 d0 d1
  cases hc : amt c with
  | false =>
    have E : Hid (sclR c n d = (0, 1)) := by show _ = _; unfold sclR; rw [if_neg (fun x => by rw [hc] at x; cases x.1)]
    rw [hc] at hca
    have K := Lib.hid hca
    have KV := Lib.hid hva
    clear hc hca hva
    generalize vld n d = v at KV
    go_enter Tryz.func9, Tryz.ntmps9
    go_wp2_with fail
    refine (K.out _).mono ?_
    rintro e w' ⟨rfl, rfl⟩
    go_wp2_with fail
    refine (KV.out _).mono ?_
    rintro e w1 ⟨rfl, hb1⟩
    have HB : Aside (Below w.heap.size w w1) := ((Below.refl _ _).alloc (Nat.le_refl _) _).trans (hb1.mono (by simp))
    clear hb1
    go_wp2
    go_ret2
    exact ⟨ret_2 (by rw [E.out]) (by rw [E.out]), HB.out⟩
  | true =>
    rw [hc] at hca
    have K := Lib.hid hca
    have hcb := (amt_iff c).1 hc
    cases hv : vld n d with
    | false =>
      have E : Hid (sclR c n d = (0, 1)) := by show _ = _; unfold sclR; rw [if_neg (fun x => by rw [hv] at x; cases x.2)]
      rw [hv] at hva
      have KV := Lib.hid hva
      clear hc hca hv hva
      go_enter Tryz.func9, Tryz.ntmps9
      go_wp2_with fail
      refine (K.out _).mono ?_
      rintro e w' ⟨rfl, rfl⟩
      go_wp2_with fail
      refine (KV.out _).mono ?_
      rintro e w1 ⟨rfl, hb1⟩
      have HB : Aside (Below w.heap.size w w1) := ((Below.refl _ _).alloc (Nat.le_refl _) _).trans (hb1.mono (by simp))
      clear hb1
      go_wp2
      go_ret2
      exact ⟨ret_2 (by rw [E.out]) (by rw [E.out]), HB.out⟩
    | true =>
      have hQ := (vld_iff n d).1 hv
      obtain ⟨v0, v1, v2, v3, _⟩ := hQ
      have E : Hid (sclR c n d = wth (rnd (c * n) d)) := by show _ = _; unfold sclR; rw [if_pos ⟨hc, hv⟩]
      rw [hv] at hva
      have KV := Lib.hid hva
      have hm := mul_le hcb.1 hcb.2 v0 v1
      obtain ⟨m, hme⟩ : ∃ m, c * n = m := ⟨_, rfl⟩
      rw [hme] at hm E
      obtain ⟨q, r, hq, hr, q0, q1, r0, r1⟩ := rnd_facts m d hm.1 hm.2 v2 v3
      obtain ⟨-, -, hrr⟩ := rnd_ref m d q r hq hr
      clear hc hca hv hva
      by_cases a1 : r < 0 ∧ d ≤ -2 * r
      · rw [if_pos a1] at hrr
        obtain ⟨a1, a2⟩ := a1
        have t0 : decide (0 < r) = false := decide_eq_false (by omega)
        rw [hrr] at E
        have rq : IntKind.i64.wrap q = q := by rw [IntKind.wrap_i64]; omega
        have rr : IntKind.i64.wrap r = r := by rw [IntKind.wrap_i64]; omega
        have KA := Lib.hid (fun (w : World) => ramount_any (q - 1) w)
        cases has : amt (q - 1) with
        | true =>
          have E2 : Hid (sclR c n d = (q - 1, 0)) := by show _ = _; rw [E.out]; unfold wth; rw [if_pos has]
          rw [has] at KA
          clear has E hrr
          go_enter Tryz.func9, Tryz.ntmps9
          go_wp2_with fail
          refine (K.out _).mono ?_
          rintro e w' ⟨rfl, rfl⟩
          go_wp2_with fail
          refine (KV.out _).mono ?_
          rintro e w1 ⟨rfl, hb1⟩
          have hz1 := hb1.size
          simp only [World.size_alloc] at hz1
          have A1 : At2 w1 w.heap.size (.int .i64 n) (.int .i64 d) := (At2.new w _ _ _).below hb1 (by simp)
          have HB : Aside (Below w.heap.size w w1) := ((Below.refl _ _).alloc (Nat.le_refl _) _).trans (hb1.mono (by simp))
          clear hb1
          obtain ⟨p0, p1, p2, p3⟩ := A1
          go_wp2_with fail
          all_goals
            refine (KA.out _).mono ?_
            rintro e w2 ⟨rfl, rfl⟩
            go_wp2
            go_ret2
            exact ⟨ret_2 (by rw [E2.out]) (by rw [E2.out]), HB.out⟩
        | false =>
          have E2 : Hid (sclR c n d = (0, 3)) := by show _ = _; rw [E.out]; unfold wth; rw [if_neg (by rw [has]; simp)]
          rw [has] at KA
          clear has E hrr
          go_enter Tryz.func9, Tryz.ntmps9
          go_wp2_with fail
          refine (K.out _).mono ?_
          rintro e w' ⟨rfl, rfl⟩
          go_wp2_with fail
          refine (KV.out _).mono ?_
          rintro e w1 ⟨rfl, hb1⟩
          have hz1 := hb1.size
          simp only [World.size_alloc] at hz1
          have A1 : At2 w1 w.heap.size (.int .i64 n) (.int .i64 d) := (At2.new w _ _ _).below hb1 (by simp)
          have HB : Aside (Below w.heap.size w w1) := ((Below.refl _ _).alloc (Nat.le_refl _) _).trans (hb1.mono (by simp))
          clear hb1
          obtain ⟨p0, p1, p2, p3⟩ := A1
          go_wp2_with fail
          all_goals
            refine (KA.out _).mono ?_
            rintro e w2 ⟨rfl, rfl⟩
            go_wp2
            go_ret2
            exact ⟨ret_2 (by rw [E2.out]) (by rw [E2.out]), HB.out⟩
      · rw [if_neg a1] at hrr
        by_cases a2 : 0 < r ∧ d ≤ 2 * r
        · rw [if_pos a2] at hrr
          obtain ⟨a2, a3⟩ := a2
          have t0 : decide (r < 0) = false := decide_eq_false (by omega)
          clear a1
          rw [hrr] at E
          have rq : IntKind.i64.wrap q = q := by rw [IntKind.wrap_i64]; omega
          have rr : IntKind.i64.wrap r = r := by rw [IntKind.wrap_i64]; omega
          have KA := Lib.hid (fun (w : World) => ramount_any (q + 1) w)
          cases has : amt (q + 1) with
          | true =>
            have E2 : Hid (sclR c n d = (q + 1, 0)) := by show _ = _; rw [E.out]; unfold wth; rw [if_pos has]
            rw [has] at KA
            clear has E hrr
            go_enter Tryz.func9, Tryz.ntmps9
            go_wp2_with fail
            refine (K.out _).mono ?_
            rintro e w' ⟨rfl, rfl⟩
            go_wp2_with fail
            refine (KV.out _).mono ?_
            rintro e w1 ⟨rfl, hb1⟩
            have hz1 := hb1.size
            simp only [World.size_alloc] at hz1
            have A1 : At2 w1 w.heap.size (.int .i64 n) (.int .i64 d) := (At2.new w _ _ _).below hb1 (by simp)
            have HB : Aside (Below w.heap.size w w1) := ((Below.refl _ _).alloc (Nat.le_refl _) _).trans (hb1.mono (by simp))
            clear hb1
            obtain ⟨p0, p1, p2, p3⟩ := A1
            go_wp2_with fail
            all_goals
              refine (KA.out _).mono ?_
              rintro e w2 ⟨rfl, rfl⟩
              go_wp2
              go_ret2
              exact ⟨ret_2 (by rw [E2.out]) (by rw [E2.out]), HB.out⟩
          | false =>
            have E2 : Hid (sclR c n d = (0, 3)) := by show _ = _; rw [E.out]; unfold wth; rw [if_neg (by rw [has]; simp)]
            rw [has] at KA
            clear has E hrr
            go_enter Tryz.func9, Tryz.ntmps9
            go_wp2_with fail
            refine (K.out _).mono ?_
            rintro e w' ⟨rfl, rfl⟩
            go_wp2_with fail
            refine (KV.out _).mono ?_
            rintro e w1 ⟨rfl, hb1⟩
            have hz1 := hb1.size
            simp only [World.size_alloc] at hz1
            have A1 : At2 w1 w.heap.size (.int .i64 n) (.int .i64 d) := (At2.new w _ _ _).below hb1 (by simp)
            have HB : Aside (Below w.heap.size w w1) := ((Below.refl _ _).alloc (Nat.le_refl _) _).trans (hb1.mono (by simp))
            clear hb1
            obtain ⟨p0, p1, p2, p3⟩ := A1
            go_wp2_with fail
            all_goals
              refine (KA.out _).mono ?_
              rintro e w2 ⟨rfl, rfl⟩
              go_wp2
              go_ret2
              exact ⟨ret_2 (by rw [E2.out]) (by rw [E2.out]), HB.out⟩
        · rw [if_neg a2, if_neg (by omega)] at hrr
          rcases Int.lt_trichotomy r 0 with a3 | a3 | a3
          · have a4 : ¬ d ≤ -2 * r := fun h => a1 ⟨a3, h⟩
            have t0 : decide (0 < r) = false := decide_eq_false (by omega)
            clear a1 a2
            rw [hrr] at E
            have rq : IntKind.i64.wrap q = q := by rw [IntKind.wrap_i64]; omega
            have rr : IntKind.i64.wrap r = r := by rw [IntKind.wrap_i64]; omega
            have KA := Lib.hid (fun (w : World) => ramount_any (q) w)
            cases has : amt (q) with
            | true =>
              have E2 : Hid (sclR c n d = (q, 0)) := by show _ = _; rw [E.out]; unfold wth; rw [if_pos has]
              rw [has] at KA
              clear has E hrr
              go_enter Tryz.func9, Tryz.ntmps9
              go_wp2_with fail
              refine (K.out _).mono ?_
              rintro e w' ⟨rfl, rfl⟩
              go_wp2_with fail
              refine (KV.out _).mono ?_
              rintro e w1 ⟨rfl, hb1⟩
              have hz1 := hb1.size
              simp only [World.size_alloc] at hz1
              have A1 : At2 w1 w.heap.size (.int .i64 n) (.int .i64 d) := (At2.new w _ _ _).below hb1 (by simp)
              have HB : Aside (Below w.heap.size w w1) := ((Below.refl _ _).alloc (Nat.le_refl _) _).trans (hb1.mono (by simp))
              clear hb1
              obtain ⟨p0, p1, p2, p3⟩ := A1
              go_wp2_with fail
              all_goals
                refine (KA.out _).mono ?_
                rintro e w2 ⟨rfl, rfl⟩
                go_wp2
                go_ret2
                exact ⟨ret_2 (by rw [E2.out]) (by rw [E2.out]), HB.out⟩
            | false =>
              have E2 : Hid (sclR c n d = (0, 3)) := by show _ = _; rw [E.out]; unfold wth; rw [if_neg (by rw [has]; simp)]
              rw [has] at KA
              clear has E hrr
              go_enter Tryz.func9, Tryz.ntmps9
              go_wp2_with fail
              refine (K.out _).mono ?_
              rintro e w' ⟨rfl, rfl⟩
              go_wp2_with fail
              refine (KV.out _).mono ?_
              rintro e w1 ⟨rfl, hb1⟩
              have hz1 := hb1.size
              simp only [World.size_alloc] at hz1
              have A1 : At2 w1 w.heap.size (.int .i64 n) (.int .i64 d) := (At2.new w _ _ _).below hb1 (by simp)
              have HB : Aside (Below w.heap.size w w1) := ((Below.refl _ _).alloc (Nat.le_refl _) _).trans (hb1.mono (by simp))
              clear hb1
              obtain ⟨p0, p1, p2, p3⟩ := A1
              go_wp2_with fail
              all_goals
                refine (KA.out _).mono ?_
                rintro e w2 ⟨rfl, rfl⟩
                go_wp2
                go_ret2
                exact ⟨ret_2 (by rw [E2.out]) (by rw [E2.out]), HB.out⟩
          · have t0 : decide (0 < r) = false := decide_eq_false (by omega)
            have t1 : decide (r < 0) = false := decide_eq_false (by omega)
            clear a1 a2
            rw [hrr] at E
            have rq : IntKind.i64.wrap q = q := by rw [IntKind.wrap_i64]; omega
            have rr : IntKind.i64.wrap r = r := by rw [IntKind.wrap_i64]; omega
            have KA := Lib.hid (fun (w : World) => ramount_any (q) w)
            cases has : amt (q) with
            | true =>
              have E2 : Hid (sclR c n d = (q, 0)) := by show _ = _; rw [E.out]; unfold wth; rw [if_pos has]
              rw [has] at KA
              clear has E hrr
              go_enter Tryz.func9, Tryz.ntmps9
              go_wp2_with fail
              refine (K.out _).mono ?_
              rintro e w' ⟨rfl, rfl⟩
              go_wp2_with fail
              refine (KV.out _).mono ?_
              rintro e w1 ⟨rfl, hb1⟩
              have hz1 := hb1.size
              simp only [World.size_alloc] at hz1
              have A1 : At2 w1 w.heap.size (.int .i64 n) (.int .i64 d) := (At2.new w _ _ _).below hb1 (by simp)
              have HB : Aside (Below w.heap.size w w1) := ((Below.refl _ _).alloc (Nat.le_refl _) _).trans (hb1.mono (by simp))
              clear hb1
              obtain ⟨p0, p1, p2, p3⟩ := A1
              go_wp2_with fail
              all_goals
                refine (KA.out _).mono ?_
                rintro e w2 ⟨rfl, rfl⟩
                go_wp2
                go_ret2
                exact ⟨ret_2 (by rw [E2.out]) (by rw [E2.out]), HB.out⟩
            | false =>
              have E2 : Hid (sclR c n d = (0, 3)) := by show _ = _; rw [E.out]; unfold wth; rw [if_neg (by rw [has]; simp)]
              rw [has] at KA
              clear has E hrr
              go_enter Tryz.func9, Tryz.ntmps9
              go_wp2_with fail
              refine (K.out _).mono ?_
              rintro e w' ⟨rfl, rfl⟩
              go_wp2_with fail
              refine (KV.out _).mono ?_
              rintro e w1 ⟨rfl, hb1⟩
              have hz1 := hb1.size
              simp only [World.size_alloc] at hz1
              have A1 : At2 w1 w.heap.size (.int .i64 n) (.int .i64 d) := (At2.new w _ _ _).below hb1 (by simp)
              have HB : Aside (Below w.heap.size w w1) := ((Below.refl _ _).alloc (Nat.le_refl _) _).trans (hb1.mono (by simp))
              clear hb1
              obtain ⟨p0, p1, p2, p3⟩ := A1
              go_wp2_with fail
              all_goals
                refine (KA.out _).mono ?_
                rintro e w2 ⟨rfl, rfl⟩
                go_wp2
                go_ret2
                exact ⟨ret_2 (by rw [E2.out]) (by rw [E2.out]), HB.out⟩
          · have a4 : ¬ d ≤ 2 * r := fun h => a2 ⟨a3, h⟩
            have t0 : decide (r < 0) = false := decide_eq_false (by omega)
            clear a1 a2
            rw [hrr] at E
            have rq : IntKind.i64.wrap q = q := by rw [IntKind.wrap_i64]; omega
            have rr : IntKind.i64.wrap r = r := by rw [IntKind.wrap_i64]; omega
            have KA := Lib.hid (fun (w : World) => ramount_any (q) w)
            cases has : amt (q) with
            | true =>
              have E2 : Hid (sclR c n d = (q, 0)) := by show _ = _; rw [E.out]; unfold wth; rw [if_pos has]
              rw [has] at KA
              clear has E hrr
              go_enter Tryz.func9, Tryz.ntmps9
              go_wp2_with fail
              refine (K.out _).mono ?_
              rintro e w' ⟨rfl, rfl⟩
              go_wp2_with fail
              refine (KV.out _).mono ?_
              rintro e w1 ⟨rfl, hb1⟩
              have hz1 := hb1.size
              simp only [World.size_alloc] at hz1
              have A1 : At2 w1 w.heap.size (.int .i64 n) (.int .i64 d) := (At2.new w _ _ _).below hb1 (by simp)
              have HB : Aside (Below w.heap.size w w1) := ((Below.refl _ _).alloc (Nat.le_refl _) _).trans (hb1.mono (by simp))
              clear hb1
              obtain ⟨p0, p1, p2, p3⟩ := A1
              go_wp2_with fail
              all_goals
                refine (KA.out _).mono ?_
                rintro e w2 ⟨rfl, rfl⟩
                go_wp2
                go_ret2
                exact ⟨ret_2 (by rw [E2.out]) (by rw [E2.out]), HB.out⟩
            | false =>
              have E2 : Hid (sclR c n d = (0, 3)) := by show _ = _; rw [E.out]; unfold wth; rw [if_neg (by rw [has]; simp)]
              rw [has] at KA
              clear has E hrr
              go_enter Tryz.func9, Tryz.ntmps9
              go_wp2_with fail
              refine (K.out _).mono ?_
              rintro e w' ⟨rfl, rfl⟩
              go_wp2_with fail
              refine (KV.out _).mono ?_
              rintro e w1 ⟨rfl, hb1⟩
              have hz1 := hb1.size
              simp only [World.size_alloc] at hz1
              have A1 : At2 w1 w.heap.size (.int .i64 n) (.int .i64 d) := (At2.new w _ _ _).below hb1 (by simp)
              have HB : Aside (Below w.heap.size w w1) := ((Below.refl _ _).alloc (Nat.le_refl _) _).trans (hb1.mono (by simp))
              clear hb1
              obtain ⟨p0, p1, p2, p3⟩ := A1
              go_wp2_with fail
              all_goals
                refine (KA.out _).mono ?_
                rintro e w2 ⟨rfl, rfl⟩
                go_wp2
                go_ret2
                exact ⟨ret_2 (by rw [E2.out]) (by rw [E2.out]), HB.out⟩
end Go.Proofs.YtamccmeibnihpaaGreatDoor
