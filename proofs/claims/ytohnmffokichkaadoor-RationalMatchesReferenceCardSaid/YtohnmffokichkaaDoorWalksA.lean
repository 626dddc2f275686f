/-
  Contract of numbers: are all of a list numbers?
-/
import Derived.Test.YtohnmffokichkaaDoorWalks4
namespace Go.Proofs.YtohnmffokichkaaDoor
open Go.RowKit

/-- A block holds pairs of integers, one behind the other. -/
def Pairs (w : World) (b : Nat) (l : List (Int × Int)) : Prop := ∀ (i : Nat) (x : Int × Int), l[i]? = some x → w.cell? ⟨b, i * 2, none⟩ = some (.int .i64 x.1) ∧ w.cell? ⟨b, i * 2 + 1, none⟩ = some (.int .i64 x.2)
/-- All are ints. -/
def Ints (l : List (Int × Int)) : Prop := ∀ (i : Nat) (x : Int × Int), l[i]? = some x → -9223372036854775808 ≤ x.1 ∧ x.1 ≤ 9223372036854775807 ∧ -9223372036854775808 ≤ x.2 ∧ x.2 ≤ 9223372036854775807

set_option maxRecDepth 100000 in
set_option maxHeartbeats 400000 in
theorem numbers_any (l : List (Int × Int)) (b : Nat) (w : World) (hl : l.length ≤ 1000) (hb : b < w.heap.size) (hP : Pairs w b l) (hI : Ints l) :
    Calls Tryd.prog 31 #[.slice (some ⟨b, 0, none⟩) l.length l.length] w fun e w' =>
      e = .returned (.bool (l.all fun x => vld x.1 x.2)) ∧ Below w.heap.size w w' := by
  have HP := Lib.hid hP
  have HI := Lib.hid hI
  clear hP hI
  go_enter Tryd.func31, Tryd.ntmps31
  go_wp2
  go_loopg [7] l.length (fun k i wr => ∃ j : Nat, j ≤ l.length ∧ k = l.length - j ∧ i = .int .i64 j ∧ ((l.take j).all fun x => vld x.1 x.2) = true ∧ Below w.heap.size w wr)
  case atStart => exact ⟨0, Nat.zero_le _, by omega, rfl, rfl, Below.refl _ _⟩
  case round =>
    obtain ⟨j, hj, hk, rfl, hall, hbw⟩ := hrel
    have HA := Lib.hid hall
    clear hall
    have HK := Lib.hid hk
    clear hk
    by_cases hlt : j < l.length
    · obtain ⟨x, hx⟩ : ∃ x, l[j]? = some x := ⟨l[j], List.getElem?_eq_getElem hlt⟩
      have HX := Lib.hid hx
      obtain ⟨c0, c1⟩ := HP.out j x hx
      obtain ⟨i0, i1, i2, i3⟩ := HI.out j x hx
      obtain ⟨x1, x2⟩ := x
      clear hx
      simp only at c0 c1 i0 i1 i2 i3
      have d0 : wr.cell? ⟨b, j * 2, none⟩ = some (.int .i64 x1) := (hbw.cell (p := ⟨b, j * 2, none⟩) hb).trans c0
      have d1 : wr.cell? ⟨b, j * 2 + 1, none⟩ = some (.int .i64 x2) := (hbw.cell (p := ⟨b, j * 2 + 1, none⟩) hb).trans c1
      clear c0 c1
      have hall : ((l.take (j + 1)).all fun x => vld x.1 x.2) = vld x1 x2 := by
        have e := HX.out
        rw [List.take_add_one, e, List.all_append, HA.out]
        simp
      have HL := Lib.hid hall
      clear hall
      have hzw := hbw.size
      cases hv : vld x1 x2
      · go_wp2_with fail
        refine (valid_any _ _ _ i0 i1 i2 i3).mono ?_
        rintro e w1 ⟨rfl, hb1⟩
        have HBX : Below w.heap.size w w1 := (hbw.alloc hzw _).trans (hb1.mono (by simp; omega))
        clear hb1 d0 d1
        go_wp2
        go_ret
        refine ⟨?_, HBX⟩
        have : (l.all fun x => vld x.1 x.2) = false := by
          rw [List.all_eq_false]
          exact ⟨(x1, x2), List.mem_of_getElem? HX.out, by simp [hv]⟩
        rw [this]; rfl
      · go_wp2_with fail
        refine (valid_any _ _ _ i0 i1 i2 i3).mono ?_
        rintro e w1 ⟨rfl, hb1⟩
        have HBX : Below w.heap.size w w1 := (hbw.alloc hzw _).trans (hb1.mono (by simp; omega))
        clear hb1 d0 d1
        go_wp2
        go_roundg (l.length - (j + 1))
        case measure => have := HK.out; omega
        case rel => exact ⟨j + 1, by omega, rfl, by go_num, by rw [HL.out, hv], HBX⟩
    · have e : j = l.length := by omega
      have hd : decide ((j : Int) < (l.length : Int)) = false := by simp; omega
      have hall : (l.all fun x => vld x.1 x.2) = true := by
        have := HA.out
        rw [e, List.take_length] at this; exact this
      have HL := Lib.hid hall
      clear hall e
      go_wp2
      go_ret
      exact ⟨by rw [HL.out]; rfl, hbw⟩

theorem pairs2 (w : World) (a b c d : Int) (T : Nat) : Pairs (w.alloc (.cells #[.int .i64 a, .int .i64 b, .int .i64 c, .int .i64 d] T)) w.heap.size [(a, b), (c, d)] := by
  intro i x h
  match i, h with
  | 0, h => simp at h; subst h; exact ⟨by simp, by simp⟩
  | 1, h => simp at h; subst h; exact ⟨by simp, by simp⟩
  | i + 2, h => simp at h
theorem ints2 {a b c d : Int} (a0 : -9223372036854775808 ≤ a) (a1 : a ≤ 9223372036854775807) (b0 : -9223372036854775808 ≤ b) (b1 : b ≤ 9223372036854775807)
    (c0 : -9223372036854775808 ≤ c) (c1 : c ≤ 9223372036854775807) (d0 : -9223372036854775808 ≤ d) (d1 : d ≤ 9223372036854775807) : Ints [(a, b), (c, d)] := by
  intro i x h
  match i, h with
  | 0, h => simp at h; subst h; exact ⟨a0, a1, b0, b1⟩
  | 1, h => simp at h; subst h; exact ⟨c0, c1, d0, d1⟩
  | i + 2, h => simp at h
theorem numbers2 (a b c d : Int) (v : Bool) (w : World) (hv : (vld a b && vld c d) = v)
    (a0 : -9223372036854775808 ≤ a) (a1 : a ≤ 9223372036854775807) (b0 : -9223372036854775808 ≤ b) (b1 : b ≤ 9223372036854775807)
    (c0 : -9223372036854775808 ≤ c) (c1 : c ≤ 9223372036854775807) (d0 : -9223372036854775808 ≤ d) (d1 : d ≤ 9223372036854775807) (T : Nat) :
    Calls Tryd.prog 31 #[.slice (some ⟨w.heap.size, 0, none⟩) 2 2] (w.alloc (.cells #[.int .i64 a, .int .i64 b, .int .i64 c, .int .i64 d] T)) fun e w' =>
      e = .returned (.bool v) ∧ Below w.heap.size w w' := by
  refine (numbers_any [(a, b), (c, d)] w.heap.size _ (by simp) (by simp) (pairs2 w a b c d T) (ints2 a0 a1 b0 b1 c0 c1 d0 d1)).mono ?_
  rintro e w' ⟨rfl, hb⟩
  exact ⟨by rw [← hv]; simp, ((Below.refl _ _).alloc (Nat.le_refl _) _).trans (hb.mono (by simp))⟩

theorem pairs3 (w : World) (a b c d g h : Int) (T : Nat) : Pairs (w.alloc (.cells #[.int .i64 a, .int .i64 b, .int .i64 c, .int .i64 d, .int .i64 g, .int .i64 h] T)) w.heap.size [(a, b), (c, d), (g, h)] := by
  intro i x h
  match i, h with
  | 0, h => simp at h; subst h; exact ⟨by simp, by simp⟩
  | 1, h => simp at h; subst h; exact ⟨by simp, by simp⟩
  | 2, h => simp at h; subst h; exact ⟨by simp, by simp⟩
  | i + 3, h => simp at h
theorem ints3 {a b c d g h : Int} (a0 : -9223372036854775808 ≤ a) (a1 : a ≤ 9223372036854775807) (b0 : -9223372036854775808 ≤ b) (b1 : b ≤ 9223372036854775807)
    (c0 : -9223372036854775808 ≤ c) (c1 : c ≤ 9223372036854775807) (d0 : -9223372036854775808 ≤ d) (d1 : d ≤ 9223372036854775807)
    (g0 : -9223372036854775808 ≤ g) (g1 : g ≤ 9223372036854775807) (h0 : -9223372036854775808 ≤ h) (h1 : h ≤ 9223372036854775807) : Ints [(a, b), (c, d), (g, h)] := by
  intro i x hi
  match i, hi with
  | 0, hi => simp at hi; subst hi; exact ⟨a0, a1, b0, b1⟩
  | 1, hi => simp at hi; subst hi; exact ⟨c0, c1, d0, d1⟩
  | 2, hi => simp at hi; subst hi; exact ⟨g0, g1, h0, h1⟩
  | i + 3, hi => simp at hi
theorem numbers3 (a b c d g h : Int) (v : Bool) (w : World) (hv : (vld a b && vld c d && vld g h) = v)
    (a0 : -9223372036854775808 ≤ a) (a1 : a ≤ 9223372036854775807) (b0 : -9223372036854775808 ≤ b) (b1 : b ≤ 9223372036854775807)
    (c0 : -9223372036854775808 ≤ c) (c1 : c ≤ 9223372036854775807) (d0 : -9223372036854775808 ≤ d) (d1 : d ≤ 9223372036854775807)
    (g0 : -9223372036854775808 ≤ g) (g1 : g ≤ 9223372036854775807) (h0 : -9223372036854775808 ≤ h) (h1 : h ≤ 9223372036854775807) (T : Nat) :
    Calls Tryd.prog 31 #[.slice (some ⟨w.heap.size, 0, none⟩) 3 3] (w.alloc (.cells #[.int .i64 a, .int .i64 b, .int .i64 c, .int .i64 d, .int .i64 g, .int .i64 h] T)) fun e w' =>
      e = .returned (.bool v) ∧ Below w.heap.size w w' := by
  refine (numbers_any [(a, b), (c, d), (g, h)] w.heap.size _ (by simp) (by simp) (pairs3 w a b c d g h T) (ints3 a0 a1 b0 b1 c0 c1 d0 d1 g0 g1 h0 h1)).mono ?_
  rintro e w' ⟨rfl, hb⟩
  exact ⟨by rw [← hv]; simp [Bool.and_assoc], ((Below.refl _ _).alloc (Nat.le_refl _) _).trans (hb.mono (by simp))⟩
end Go.Proofs.YtohnmffokichkaaDoor
