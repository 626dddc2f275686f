/-
  The walk of money.weigh: the sum of weights, or 0; and of the reference's Whole, which says the same.
-/
import Derived.Test.YtamccmeibnihpaaGreatDoorMWalks1
namespace Go.Proofs.YtamccmeibnihpaaGreatDoor
open Go.RowKit

/-- A list of integers lies in a block, from a place on. -/
def At (w : World) (b off : Nat) (l : List Int) : Prop := ∀ (k : Nat) (h : k < l.length), w.cell? ⟨b, off + k, none⟩ = some (.int .i64 l[k])

/-- Is it a weight? -/
def wok (x : Int) : Bool := decide (0 ≤ x) && decide (x ≤ 1000000)
/-- The sum of weights, or 0 if nothing can be divided by them. -/
def whole (l : List Int) : Int := if l.length ≤ 64 ∧ l.all wok = true then l.sum else 0

theorem take_sum (l : List Int) (k : Nat) (h : k < l.length) : (l.take (k + 1)).sum = (l.take k).sum + l[k] := by
  rw [List.take_succ_eq_append_getElem h, List.sum_append]; simp
theorem take_all (l : List Int) (k : Nat) (h : k < l.length) (a : (l.take k).all wok = true) (b : wok l[k] = true) : (l.take (k + 1)).all wok = true := by
  rw [List.take_succ_eq_append_getElem h, List.all_append, a]; simp [b]
theorem wok_iff (x : Int) : wok x = true ↔ 0 ≤ x ∧ x ≤ 1000000 := by unfold wok; simp
theorem sum_bounds : ∀ (l : List Int), l.all wok = true → 0 ≤ l.sum ∧ l.sum ≤ 1000000 * l.length
  | [], _ => by simp
  | x :: l, h => by
    simp only [List.all_cons, Bool.and_eq_true] at h
    have := sum_bounds l h.2
    have hx := (wok_iff x).1 h.1
    simp only [List.sum_cons, List.length_cons]
    omega
theorem whole_bad (l : List Int) (k : Nat) (h : k < l.length) (b : wok l[k] = false) : whole l = 0 := by
  unfold whole
  rw [if_neg]
  intro hh
  have := List.all_eq_true.1 hh.2 l[k] (List.getElem_mem h)
  rw [b] at this; cases this

set_option maxHeartbeats 1000000 in
set_option maxRecDepth 100000 in
theorem weigh_any (l : List Int) (p : Option Addr) (b off cap len : Nat) (w : World) (hlen : l.length = len) (hp : 0 < len → p = some ⟨b, off, none⟩) (hA : At w b off l) (hm : len ≤ 9223372036854775807) :
    Calls Tryz.prog 23 #[.slice p len cap] w fun e w' => e = .returned (.int .i64 (whole l)) ∧ w = w' := by
  have HL : Hid (l.length = len) := hlen
  have HA : Aside (At w b off l) := hA
  by_cases h64 : 64 < len
  · have e : whole l = 0 := by unfold whole; rw [if_neg (by omega)]
    rw [e]
    have hz : (64 : Int) < (len : Int) := by omega
    clear hA hlen hp e
    go_enter Tryz.func23, Tryz.ntmps23
    go_wp2
    go_ret
    exact ⟨rfl, rfl⟩
  · have hz : ¬ (64 : Int) < (len : Int) := by omega
    have h64' : len ≤ 64 := by omega
    have HP : Aside (0 < len → p = some ⟨b, off, none⟩) := hp
    clear hA hlen hp
    go_enter Tryz.func23, Tryz.ntmps23
    go_wp2
    go_loop [3, 11] (fun t i => ∃ (k : Nat) (s : Int), k ≤ len ∧ i = .int .i64 k ∧ t = .int .i64 s ∧ 0 ≤ s ∧ s ≤ 64000000 ∧ Hid (s = (l.take k).sum ∧ (l.take k).all wok = true)) (fun _ i => len - (intOf i).toNat)
    case atStart => exact ⟨0, 0, by omega, rfl, rfl, by omega, by omega, (show _ ∧ _ from ⟨by simp, by simp⟩)⟩
    case round =>
      obtain ⟨k, s, hk, rfl, rfl, hs0, hs1, HS⟩ := hrel
      by_cases hlt : k < len
      · have hltz : (k : Int) < (len : Int) := by omega
        have hp1 := HP.out (by omega)
        have hkl : k < l.length := by rw [HL.out]; exact hlt
        have hc := HA.out k hkl
        obtain ⟨x, hx⟩ : ∃ x, x = l[k] := ⟨_, rfl⟩
        rw [← hx] at hc
        by_cases h0 : 0 ≤ x
        · by_cases h1 : x ≤ 1000000
          · have hw : wok l[k] = true := by rw [← hx]; exact (wok_iff x).2 ⟨h0, h1⟩
            have HN : Hid (s + x = (l.take (k + 1)).sum ∧ (l.take (k + 1)).all wok = true) := ⟨by rw [take_sum l k hkl, ← HS.out.1, ← hx], take_all l k hkl HS.out.2 hw⟩
            have hb : s + x ≤ 64000000 := by
              have := sum_bounds _ HN.out.2
              rw [← HN.out.1] at this
              have h2 : (l.take (k + 1)).length ≤ k + 1 := List.length_take_le _ _
              omega
            clear hw hx HS
            subst hp1
            go_wp2
            go_round
            case rel => exact ⟨k + 1, s + x, by omega, by go_num, rfl, by omega, hb, HN⟩
            case measure => simp [intOf]; omega
          · have e : whole l = 0 := whole_bad l k hkl (by rw [← hx, Bool.eq_false_iff]; intro h; have := (wok_iff x).1 h; omega)
            have E : Hid (whole l = 0) := e
            clear e hx HS
            subst hp1
            go_wp2
            go_ret
            exact ⟨ret_int E.out.symm, rfl⟩
        · have e : whole l = 0 := whole_bad l k hkl (by rw [← hx, Bool.eq_false_iff]; intro h; have := (wok_iff x).1 h; omega)
          have E : Hid (whole l = 0) := e
          clear e hx HS
          subst hp1
          go_wp2
          go_ret
          exact ⟨ret_int E.out.symm, rfl⟩
      · have hltz : ¬ (k : Int) < (len : Int) := by omega
        go_wp2
        go_ret
        refine ⟨ret_int ?_, rfl⟩
        have e : l.take k = l := List.take_of_length_le (by rw [HL.out]; omega)
        have := HS.out
        rw [e] at this
        unfold whole
        rw [if_pos ⟨by rw [HL.out]; exact h64', this.2⟩, this.1]
end Go.Proofs.YtamccmeibnihpaaGreatDoor
