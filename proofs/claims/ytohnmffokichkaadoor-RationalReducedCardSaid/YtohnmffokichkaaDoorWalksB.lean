/-
  Contract of small: are all of a list at most a bound, with either sign?
-/
import Derived.Test.YtohnmffokichkaaDoorWalks4
namespace Go.Proofs.YtohnmffokichkaaDoor
open Go.RowKit

def Cells (w : World) (b : Nat) (l : List Int) : Prop := ∀ (i : Nat) (x : Int), l[i]? = some x → w.cell? ⟨b, i, none⟩ = some (.int .i64 x)
def sml (most x : Int) : Bool := decide (x ≤ most) && decide (-most ≤ x)

set_option maxRecDepth 100000 in
set_option maxHeartbeats 400000 in
theorem small_any (most : Int) (l : List Int) (b : Nat) (w : World) (h0 : 0 ≤ most) (h1 : most ≤ 1099511627776) (hl : l.length ≤ 1000) (hb : b < w.heap.size) (hP : Cells w b l) :
    Calls Tryd.prog 30 #[.int .i64 most, .slice (some ⟨b, 0, none⟩) l.length l.length] w fun e w' =>
      e = .returned (.bool (l.all (sml most))) ∧ Below w.heap.size w w' := by
  have HP := Lib.hid hP
  clear hP
  go_enter Tryd.func30, Tryd.ntmps30
  go_wp2
  go_loopg [9] l.length (fun k i wr => ∃ j : Nat, j ≤ l.length ∧ k = l.length - j ∧ i = .int .i64 j ∧ (l.take j).all (sml most) = true ∧ Below w.heap.size w wr)
  case atStart => exact ⟨0, Nat.zero_le _, by omega, rfl, rfl, Below.refl _ _⟩
  case round =>
    obtain ⟨j, hj, hk, rfl, hall, hbw⟩ := hrel
    have HA := Lib.hid hall
    clear hall
    have HK := Lib.hid hk
    clear hk
    by_cases hlt : j < l.length
    · obtain ⟨x, hx⟩ : ∃ x, l[j]? = some x := ⟨l[j], List.getElem?_eq_getElem hlt⟩
      have HX := Lib.hid hx
      have d0 : wr.cell? ⟨b, j, none⟩ = some (.int .i64 x) := (hbw.cell (p := ⟨b, j, none⟩) hb).trans (HP.out j x hx)
      clear hx
      have hall : (l.take (j + 1)).all (sml most) = sml most x := by
        have e := HX.out
        rw [List.take_add_one, e, List.all_append, HA.out]
        simp
      have HL := Lib.hid hall
      clear hall
      have hfalse : sml most x = false → l.all (sml most) = false := fun hs => by
        rw [List.all_eq_false]
        exact ⟨x, List.mem_of_getElem? HX.out, by simp [hs]⟩
      have HF := Lib.hid hfalse
      clear hfalse
      by_cases c1 : most < x
      · have hs : sml most x = false := by unfold sml; simp; omega
        have HS := Lib.hid hs
        clear hs
        go_wp2
        go_ret
        exact ⟨by rw [HF.out HS.out]; rfl, hbw⟩
      by_cases c2 : x < -most
      · have hs : sml most x = false := by unfold sml; simp; omega
        have HS := Lib.hid hs
        clear hs
        have f1 : decide (most < x) = false := by simp; omega
        have f2 : decide (x < -most) = true := by simp; omega
        go_wp2
        go_ret
        exact ⟨by rw [HF.out HS.out]; rfl, hbw⟩
      · have hs : sml most x = true := by unfold sml; simp; omega
        have HS := Lib.hid hs
        clear hs
        have f1 : decide (most < x) = false := by simp; omega
        have f2 : decide (x < -most) = false := by simp; omega
        go_wp2
        go_roundg (l.length - (j + 1))
        case measure => have := HK.out; omega
        case rel => exact ⟨j + 1, by omega, rfl, by go_num, by rw [HL.out, HS.out], hbw⟩
    · have e : j = l.length := by omega
      have hall : l.all (sml most) = true := by
        have := HA.out
        rw [e, List.take_length] at this; exact this
      have HL := Lib.hid hall
      clear hall e
      go_wp2
      go_ret
      exact ⟨by rw [HL.out]; rfl, hbw⟩

theorem cells1 (w : World) (a : Int) (T : Nat) : Cells (w.alloc (.cells #[.int .i64 a] T)) w.heap.size [a] := by
  intro i x h
  match i, h with
  | 0, h => simp at h; subst h; simp
  | i + 1, h => simp at h
theorem cells2 (w : World) (a b : Int) (T : Nat) : Cells (w.alloc (.cells #[.int .i64 a, .int .i64 b] T)) w.heap.size [a, b] := by
  intro i x h
  match i, h with
  | 0, h => simp at h; subst h; simp
  | 1, h => simp at h; subst h; simp
  | i + 2, h => simp at h
theorem small1 (most a : Int) (v : Bool) (w : World) (b0 : Nat) (hb0 : b0 = w.heap.size) (hv : sml most a = v) (h0 : 0 ≤ most) (h1 : most ≤ 1099511627776) (T : Nat) :
    Calls Tryd.prog 30 #[.int .i64 most, .slice (some ⟨b0, 0, none⟩) 1 1] (w.alloc (.cells #[.int .i64 a] T)) fun e w' =>
      e = .returned (.bool v) ∧ Below w.heap.size w w' := by
  subst hb0
  refine (small_any most [a] w.heap.size _ h0 h1 (by simp) (by simp) (cells1 w a T)).mono ?_
  rintro e w' ⟨rfl, hb⟩
  exact ⟨by rw [← hv]; simp, ((Below.refl _ _).alloc (Nat.le_refl _) _).trans (hb.mono (by simp))⟩
theorem small2 (most a b : Int) (v : Bool) (w : World) (b0 : Nat) (hb0 : b0 = w.heap.size) (hv : (sml most a && sml most b) = v) (h0 : 0 ≤ most) (h1 : most ≤ 1099511627776) (T : Nat) :
    Calls Tryd.prog 30 #[.int .i64 most, .slice (some ⟨b0, 0, none⟩) 2 2] (w.alloc (.cells #[.int .i64 a, .int .i64 b] T)) fun e w' =>
      e = .returned (.bool v) ∧ Below w.heap.size w w' := by
  subst hb0
  refine (small_any most [a, b] w.heap.size _ h0 h1 (by simp) (by simp) (cells2 w a b T)).mono ?_
  rintro e w' ⟨rfl, hb⟩
  exact ⟨by rw [← hv]; simp, ((Below.refl _ _).alloc (Nat.le_refl _) _).trans (hb.mono (by simp))⟩
end Go.Proofs.YtohnmffokichkaaDoor
