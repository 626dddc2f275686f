/-
  Contracts of few and of head: the examples of the chapter.
-/
import Derived.Test.YtopngioiboepfaaDoorCWalks2
import Derived.Test.YtopngioiboepfaaDoorCWalks4
namespace Go.Proofs.YtopngioiboepfaaDoor
open Go.RowKit Cal

theorem few_any (p : Option Addr) (cap len : Nat) (w : World) : Calls Tryd.prog 12 #[.slice p len cap] w fun e w' => e = .returned (.bool (decide (len ≤ 150))) ∧ w = w' := by
  by_cases h : len ≤ 150
  · have hz : ((len : Int) ≤ 150) := by omega
    have E := Lib.hid (decide_eq_true h)
    clear h
    go_enter Tryd.func12, Tryd.ntmps12
    go_wp2
    go_ret
    exact ⟨ret_bool E.out.symm, rfl⟩
  · have hz : ¬ ((len : Int) ≤ 150) := by omega
    have E := Lib.hid (decide_eq_false h)
    clear h
    go_enter Tryd.func12, Tryd.ntmps12
    go_wp2
    go_ret
    exact ⟨ret_bool E.out.symm, rfl⟩

theorem mo_0 : MO 0 = 0 := MO_uniq (by omega) (by omega) (by omega) (by decide +kernel) (by decide +kernel)
theorem mo_366 : MO 366 = 12 := MO_uniq (by omega) (by omega) (by omega) (by decide +kernel) (by decide +kernel)

theorem hd_date (w : World) (hT : Tab w) : Calls Tryd.prog 13 #[.int .i64 0] w fun e w' => e = .returned (.tuple #[.int .i64 2000, .int .i64 1, .int .i64 1, .int .i64 0]) ∧ w = w' := by
  have k := Date_any 0 w hT
  have e : isD 0 = true := by decide
  unfold dtY dtM dtT dtE at k
  rw [e, mo_0] at k
  exact k
theorem hd_week (w : World) : Calls Tryd.prog 17 #[.int .i64 0] w fun e w' => e = .returned (.tuple #[.int .i64 5, .int .i64 0]) ∧ w = w' := by
  have k := Weekday_any 0 w
  rw [show wdV 0 = 5 by decide, show dtE 0 = 0 by decide] at k
  exact k
theorem hd_day (y m t x e : Int) (w : World) (hT : Tab w) (h : dyV y m t = x) (h' : dyE y m t = e) : Calls Tryd.prog 15 #[.int .i64 y, .int .i64 m, .int .i64 t] w fun e' w' => e' = .returned (.tuple #[.int .i64 x, .int .i64 e]) ∧ w = w' := by
  rw [← h, ← h']; exact Day_any y m t w hT
theorem hd_month (w : World) (hT : Tab w) : Calls Tryd.prog 19 #[.int .i64 366] w fun e w' => e = .returned (.tuple #[.int .i64 12, .int .i64 0]) ∧ w = w' := by
  have k := Month_any 366 w hT
  have e : isD 366 = true := by decide
  unfold moV dtE at k
  rw [e, mo_366] at k
  exact k
theorem hd_days (w : World) (hT : Tab w) : Calls Tryd.prog 21 #[.int .i64 1] w fun e w' => e = .returned (.tuple #[.agg #[.int .i64 31, .int .i64 60], .int .i64 0]) ∧ Below w.heap.size w w' := by
  have k := Days_any 1 w hT
  rw [show dsF 1 = 31 by decide +kernel, show dsU 1 = 60 by decide +kernel, show dsE 1 = 0 by decide +kernel] at k
  exact k
theorem sl_nil (w : World) : Sl w none 0 0 0 [] := ⟨rfl, (fun h => by omega), (fun k hk => by simp at hk), (fun h => by omega), by omega⟩
theorem sl_one (w : World) (x : Int) (T : Nat) : Sl (w.alloc (.cells #[.int .i64 x] T)) (some ⟨w.heap.size, 0, none⟩) w.heap.size 0 1 [x] :=
  ⟨rfl, fun _ => rfl, fun k hk => by
    simp only [List.length_cons, List.length_nil] at hk
    obtain rfl : k = 0 := by omega
    rw [World.cell?_alloc_new]; rfl, fun _ => by simp, by omega⟩
theorem hd_dead (day days how : Int) (l : List Int) (p : Option Addr) (b off cap len : Nat) (x : Int) (w : World) (hS : Sl w p b off len l) (h : dnV day days how l = x) (h' : dnE day days how l = 0) :
    Calls Tryd.prog 25 #[.int .i64 day, .int .i64 days, .int .i64 how, .slice p len cap] w fun e w' => e = .returned (.tuple #[.int .i64 x, .int .i64 0]) ∧ Below w.heap.size w w' := by
  have k := Deadline_any day days how l p b off cap len w hS
  rw [h, h'] at k
  refine k.mono ?_
  rintro e w' ⟨rfl, q, rfl⟩
  exact ⟨rfl, below_drewN (Below.refl _ _) q⟩
theorem hd_work (w : World) : Calls Tryd.prog 23 #[.int .i64 2, .slice none 0 0] w fun e w' => e = .returned (.tuple #[.bool true, .int .i64 0]) ∧ Below w.heap.size w w' := by
  have k := Working_any 2 [] none 0 0 0 0 w (sl_nil w)
  rw [show wkV 2 [] = true by decide +kernel, show wkE 2 [] = 0 by decide +kernel] at k
  refine k.mono ?_
  rintro e w' ⟨rfl, q, rfl⟩
  exact ⟨rfl, below_drewN (Below.refl _ _) q⟩

set_option maxRecDepth 100000 in
set_option maxHeartbeats 4000000 in
theorem head_any (w : World) (hE : Tab w) : Calls Tryd.prog 11 #[] w fun e w' => e = .returned (.bool true) ∧ RowKit.Below w.heap.size w w' := by
  have HE := Lib.hid hE
  clear hE
  go_enter Tryd.func11, Tryd.ntmps11
  go_wp2_with fail
  refine (hd_date _ HE.out).mono ?_
  rintro e w' ⟨rfl, rfl⟩
  go_wp2_with fail
  refine (hd_week _).mono ?_
  rintro e w' ⟨rfl, rfl⟩
  go_wp2_with fail
  refine (hd_day 2000 2 29 59 0 _ HE.out (by decide +kernel) (by decide +kernel)).mono ?_
  rintro e w' ⟨rfl, rfl⟩
  go_wp2_with fail
  refine (hd_day 2099 12 31 36524 0 _ HE.out (by decide +kernel) (by decide +kernel)).mono ?_
  rintro e w' ⟨rfl, rfl⟩
  go_wp2_with fail
  refine (hd_month _ HE.out).mono ?_
  rintro e w' ⟨rfl, rfl⟩
  go_wp2_with fail
  refine (hd_days _ HE.out).mono ?_
  rintro e w1 ⟨rfl, hb1⟩
  have HB1 : Aside (RowKit.Below w.heap.size w w1) := hb1
  clear hb1
  go_wp2_with fail
  refine (hd_dead 2 5 1 [] _ 0 0 _ _ 9 _ (sl_nil _) (by decide +kernel) (by decide +kernel)).mono ?_
  rintro e w2 ⟨rfl, hb2⟩
  have HB2 : Aside (RowKit.Below w.heap.size w w2) := (HB1.out.alloc HB1.out.size _).trans (hb2.mono (by have := HB1.out.size; simp; omega))
  clear hb2 HB1
  go_wp2_with fail
  refine (hd_dead 2 5 1 [9] _ w2.heap.size 0 _ _ 10 _ (sl_one w2 9 _) (by decide +kernel) (by decide +kernel)).mono ?_
  rintro e w3 ⟨rfl, hb3⟩
  have HB3 : Aside (RowKit.Below w.heap.size w w3) := (HB2.out.alloc HB2.out.size _).trans (hb3.mono (by have := HB2.out.size; simp; omega))
  clear hb3 HB2
  go_wp2_with fail
  refine (hd_dead 2 4 2 [] _ 0 0 _ _ 9 _ (sl_nil _) (by decide +kernel) (by decide +kernel)).mono ?_
  rintro e w4 ⟨rfl, hb4⟩
  have HB4 : Aside (RowKit.Below w.heap.size w w4) := HB3.out.trans (hb4.mono HB3.out.size)
  clear hb4 HB3
  go_wp2_with fail
  refine (hd_day 2001 2 29 0 3 _ (HE.out.below HB4.out) (by decide +kernel) (by decide +kernel)).mono ?_
  rintro e w' ⟨rfl, rfl⟩
  go_wp2_with fail
  refine (hd_work _).mono ?_
  rintro e w5 ⟨rfl, hb5⟩
  have HB5 : Aside (RowKit.Below w.heap.size w w5) := HB4.out.trans (hb5.mono HB4.out.size)
  clear hb5 HB4
  go_wp2
  go_ret
  exact ⟨rfl, HB5.out⟩
end Go.Proofs.YtopngioiboepfaaDoor
