/-
  Contracts of calendar.areHolidays, isWorking, workingFrom, Working, Deadline.
-/
import Derived.Test.YtopngioiboepfaaDoorCWalks1
import Derived.Test.YtopngioiboepfaaDoorCShelf
import Derived.Test.YtopngioiboepfaaDoorCHol
import Derived.Deep.Draws
namespace Go.Proofs.YtopngioiboepfaaDoor
open Go.RowKit Cal

/-- A list of integers lies in a block, from a place on. -/
def At (w : World) (b off : Nat) (l : List Int) : Prop := ∀ (k : Nat) (h : k < l.length), w.cell? ⟨b, off + k, none⟩ = some (.int .i64 l[k])
/-- A slice reads as a list. -/
def Sl (w : World) (p : Option Addr) (b off len : Nat) (l : List Int) : Prop := l.length = len ∧ (0 < len → p = some ⟨b, off, none⟩) ∧ At w b off l ∧ (0 < len → b < w.heap.size) ∧ len ≤ 9223372036854775807
theorem Sl.below {w w1 : World} {p : Option Addr} {b off len : Nat} {l : List Int} (h : Sl w p b off len l) (hB : RowKit.Below w.heap.size w w1) : Sl w1 p b off len l :=
  ⟨h.1, h.2.1, fun k hk => (hB.cell (p := ⟨b, off + k, none⟩) (h.2.2.2.1 (by have := h.1; omega))).trans (h.2.2.1 k hk), fun x => Nat.lt_of_lt_of_le (h.2.2.2.1 x) hB.size, h.2.2.2.2⟩
theorem Sl.drewN {w : World} {p : Option Addr} {b off len : Nat} {l : List Int} (h : Sl w p b off len l) (q : Nat) : Sl (w.drewN q) p b off len l := h.below (below_drewN (RowKit.Below.refl _ _) q)
theorem Tab.drewN {w : World} (h : Tab w) (q : Nat) : Tab (w.drewN q) := h.below (below_drewN (RowKit.Below.refl _ _) q)

set_option maxHeartbeats 2000000 in
set_option maxRecDepth 100000 in
theorem areHol_any (l : List Int) (p : Option Addr) (b off cap len : Nat) (w : World) (hS : Sl w p b off len l) :
    Calls Tryd.prog 36 #[.slice p len cap] w fun e w' => e = .returned (.bool (hol l)) ∧ w = w' := by
  have HS := Lib.hid hS
  have hm := hS.2.2.2.2
  by_cases h64 : 100 < len
  · have e : hol l = false := hol_not (by have := hS.1; omega)
    rw [e]
    have hz : (100 : Int) < (len : Int) := by omega
    clear hS e
    go_enter Tryd.func36, Tryd.ntmps36
    go_wp2
    go_ret
    exact ⟨rfl, rfl⟩
  · have hz : ¬ (100 : Int) < (len : Int) := by omega
    have h64' : len ≤ 100 := by omega
    clear hS
    go_enter Tryd.func36, Tryd.ntmps36
    go_wp2
    go_loop [3, 11] (fun t i => ∃ (k : Nat) (s : Int), k ≤ len ∧ i = .int .i64 k ∧ t = .int .i64 s ∧ -1 ≤ s ∧ s ≤ 36524 ∧ Hid (Hp l k s)) (fun _ i => len - (intOf i).toNat)
    case atStart => exact ⟨0, -1, by omega, rfl, rfl, by omega, by omega, Hp.zero l⟩
    case round =>
      obtain ⟨k, s, hk, rfl, rfl, s0, s1, HP⟩ := hrel
      by_cases hlt : k < len
      · have hltz : (k : Int) < (len : Int) := by omega
        have hp1 := HS.out.2.1 (by omega)
        have hkl : k < l.length := by rw [HS.out.1]; exact hlt
        have hc := HS.out.2.2.1 k hkl
        obtain ⟨x, hx⟩ : ∃ x, x = l[k] := ⟨_, rfl⟩
        rw [← hx] at hc
        subst hp1
        cases hd : isD x with
        | false =>
          have kd : ∀ w : World, Calls Tryd.prog 28 #[.int .i64 x] w fun e w' => e = .returned (.bool false) ∧ w = w' := fun w => by rw [← hd]; exact isDay_any x w
          have K := Lib.hid kd
          have E : Hid (hol l = false) := HP.out.bad hkl (.inl (by rw [← hx]; exact hd))
          clear kd hd hx
          go_wp2_with ((with_reducible refine (K.out _).mono ?_); rintro e w' ⟨rfl, rfl⟩)
          go_ret
          exact ⟨ret_bool E.out.symm, rfl⟩
        | true =>
          have kd : ∀ w : World, Calls Tryd.prog 28 #[.int .i64 x] w fun e w' => e = .returned (.bool true) ∧ w = w' := fun w => by rw [← hd]; exact isDay_any x w
          have K := Lib.hid kd
          have hb := (isD_iff x).1 hd
          by_cases hs : s < x
          · have HN : Hid (Hp l (k + 1) x) := by show Hp _ _ _; rw [hx]; exact HP.out.succ hkl (by rw [← hx]; exact hd) (by rw [← hx]; exact hs)
            clear kd hd hx
            go_wp2_with ((with_reducible refine (K.out _).mono ?_); rintro e w' ⟨rfl, rfl⟩)
            go_round
            case rel => exact ⟨k + 1, x, by omega, by go_num, rfl, by omega, by omega, HN⟩
            case measure => simp [intOf]; omega
          · have E : Hid (hol l = false) := HP.out.bad hkl (.inr (by rw [← hx]; omega))
            clear kd hd hx
            go_wp2_with ((with_reducible refine (K.out _).mono ?_); rintro e w' ⟨rfl, rfl⟩)
            go_ret
            exact ⟨ret_bool E.out.symm, rfl⟩
      · have hltz : ¬ (k : Int) < (len : Int) := by omega
        have E : Hid (hol l = true) := HP.out.all (by have := HS.out.1; omega) (by have := HS.out.1; omega)
        go_wp2
        go_ret
        exact ⟨ret_bool E.out.symm, rfl⟩

set_option maxHeartbeats 1000000 in
theorem search_any (l : List Int) (p : Option Addr) (b off cap len : Nat) (x : Int) (w : World) (hS : Sl w p b off len l) (hs : hol l = true) :
    Calls Tryd.prog 41 #[.slice p len cap, .int .i64 x] w fun e w' => ∃ r : Int, e = .returned (.tuple #[.int .i64 r, .bool (l.contains x)]) ∧ ∃ q, w' = w.drewN q := by
  obtain ⟨hl, hp, hA, hb, hm⟩ := hS
  have hq := (hol_iff l).1 hs
  rcases Nat.eq_zero_or_pos len with h | h
  · subst h
    obtain rfl : l = [] := List.length_eq_zero_iff.1 hl
    refine (Tryd.slices_BinarySearch_int_empty p cap x w).mono ?_
    rintro e w' ⟨rfl, rfl⟩
    exact ⟨0, rfl, 0, rfl⟩
  · have hp1 := hp h
    subst hp1
    refine (Tryd.slices_BinarySearch_int b off len cap l x w (by omega) (by omega) (fun j hj => ?_) ?_).mono ?_
    · rw [hA j hj, List.getD_eq_getElem?_getD, List.getElem?_eq_getElem hj]; rfl
    · rw [List.take_of_length_le (by omega)]
      exact hq.2.2.imp (fun h => by omega)
    · rintro e w' ⟨rfl, q, rfl⟩
      rw [List.take_of_length_le (by omega)]
      exact ⟨_, rfl, q, rfl⟩

set_option maxHeartbeats 1000000 in
theorem isWorking_any (d : Int) (l : List Int) (p : Option Addr) (b off cap len : Nat) (w : World) (hS : Sl w p b off len l) (hs : hol l = true) (h0 : 0 ≤ d) (h1 : d ≤ 36524) :
    Calls Tryd.prog 37 #[.int .i64 d, .slice p len cap] w fun e w' => e = .returned (.bool (WK d l)) ∧ ∃ q, w' = w.drewN q := by
  have k : ∀ w : World, Sl w p b off len l → Calls Tryd.prog 41 #[.slice p len cap, .int .i64 d] w fun e w' => ∃ r : Int, e = .returned (.tuple #[.int .i64 r, .bool (l.contains d)]) ∧ ∃ q, w' = w.drewN q := fun w hw => search_any l p b off cap len d w hw hs
  obtain ⟨c, hc⟩ : ∃ c, c = l.contains d := ⟨_, rfl⟩
  rw [← hc] at k
  have K := Lib.hid k
  have K2 := Lib.hid (fun w : World => weekday_any d w h0 (by omega))
  have HS := Lib.hid hS
  by_cases hw : (d + 5) % 7 < 5
  · have E : WK d l = !c := by unfold WK; rw [decide_eq_true hw, hc]; simp
    rw [E]
    clear k hc E hS
    go_enter Tryd.func37, Tryd.ntmps37
    go_wp2_with fail
    refine (K.out _ HS.out).mono ?_
    rintro e w1 ⟨r, rfl, q, rfl⟩
    go_wp2_with ((with_reducible refine (K2.out _).mono ?_); rintro e w' ⟨rfl, rfl⟩)
    go_ret
    exact ⟨rfl, _, rfl⟩
  · have E : WK d l = false := by unfold WK; rw [decide_eq_false hw]; simp
    rw [E]
    have hw2 : decide ((d + 5) % 7 < 5) = false := decide_eq_false hw
    clear k hc E hS
    go_enter Tryd.func37, Tryd.ntmps37
    go_wp2_with fail
    refine (K.out _ HS.out).mono ?_
    rintro e w1 ⟨r, rfl, q, rfl⟩
    go_wp2_with ((with_reducible refine (K2.out _).mono ?_); rintro e w' ⟨rfl, rfl⟩)
    go_ret
    exact ⟨rfl, _, rfl⟩
end Go.Proofs.YtopngioiboepfaaDoor
