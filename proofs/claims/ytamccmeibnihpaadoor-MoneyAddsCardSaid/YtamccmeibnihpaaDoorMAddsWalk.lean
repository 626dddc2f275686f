/-
  The walk of the law on sums.
-/
import Derived.Test.YtamccmeibnihpaaDoorMHead
import Derived.Test.YtamccmeibnihpaaDoorMRndMath
namespace Go.Proofs.YtamccmeibnihpaaDoor
open Go.RowKit

theorem at2 (w : World) (x y : Int) (T : Nat) : At (w.alloc (.cells #[.int .i64 x, .int .i64 y] T)) w.heap.size 0 [x, y] := by
  intro k hk
  rw [World.cell?_alloc_new, Nat.zero_add]
  simp only [List.length_cons, List.length_nil] at hk
  match k, hk with
  | 0, _ => rfl
  | 1, _ => rfl

/-- The sum of three, and of two, in new memory. -/
theorem add3 (a b c x e : Int) (h : addR [a, b, c] = (x, e)) (w : World) : Calls Tryd.prog 10 #[.slice (some ⟨w.heap.size, 0, none⟩) 3 3] (w.alloc (.cells #[.int .i64 a, .int .i64 b, .int .i64 c] 3)) fun e' w' =>
    e' = .returned (.tuple #[.int .i64 x, .int .i64 e]) ∧ Below w.heap.size w w' := by
  have k := add_any [a, b, c] (some ⟨w.heap.size, 0, none⟩) w.heap.size 0 3 3 _ rfl (fun _ => rfl) (at3 w a b c 3) (by omega)
  rw [h] at k
  refine k.mono ?_
  rintro e' w' ⟨he, rfl⟩
  exact ⟨he, (Below.refl _ _).alloc (Nat.le_refl _) _⟩
theorem add2 (a b x e : Int) (h : addR [a, b] = (x, e)) (w : World) : Calls Tryd.prog 10 #[.slice (some ⟨w.heap.size, 0, none⟩) 2 2] (w.alloc (.cells #[.int .i64 a, .int .i64 b] 3)) fun e' w' =>
    e' = .returned (.tuple #[.int .i64 x, .int .i64 e]) ∧ Below w.heap.size w w' := by
  have k := add_any [a, b] (some ⟨w.heap.size, 0, none⟩) w.heap.size 0 2 2 _ rfl (fun _ => rfl) (at2 w a b 3) (by omega)
  rw [h] at k
  refine k.mono ?_
  rintro e' w' ⟨he, rfl⟩
  exact ⟨he, (Below.refl _ _).alloc (Nat.le_refl _) _⟩

set_option maxRecDepth 100000 in
set_option maxHeartbeats 4000000 in
theorem adds_law (a b c : Int) (w : World) (hE : Tab w) (a0 : -9223372036854775808 ≤ a) (a1 : a ≤ 9223372036854775807) (_b0 : -9223372036854775808 ≤ b) (_b1 : b ≤ 9223372036854775807) (_c0 : -9223372036854775808 ≤ c) (_c1 : c ≤ 9223372036854775807) :
    Calls Tryd.prog 3 #[.int .i64 a, .int .i64 b, .int .i64 c] w fun e w' => e = .returned (.bool true) ∧ Below w.heap.size w w' := by
  have HE := Lib.hid hE
  obtain ⟨x, e, h1⟩ : ∃ x e, addR [a, b, c] = (x, e) := ⟨_, _, rfl⟩
  obtain ⟨z, g, h3⟩ : ∃ x e, addR [a, b] = (x, e) := ⟨_, _, rfl⟩
  have K1 := Lib.hid (fun w => add3 a b c x e h1 w)
  have K2 := Lib.hid (fun w => add3 c a b x e (by rw [add_rot, h1]) w)
  have K3 := Lib.hid (fun w => add2 a b z g h3 w)
  have hstep := add_step a b c
  rw [h1, h3] at hstep
  have n1 : (x != x) = false := by simp
  have n2 : (e != e) = false := by simp
  have KA := Lib.hid (fun w : World => ramount_any a w)
  cases ha : amt a with
  | true =>
    have hab := (amt_iff a).1 ha
    have K5 := Lib.hid (fun w => add2 a (-a) 0 0 (add_neg a ha) w)
    rw [ha] at KA
    by_cases hg : g = 0 ∧ e = 0
    · obtain ⟨rfl, rfl⟩ := hg
      have K4 := Lib.hid (fun w => add2 z c x 0 (hstep rfl rfl) w)
      clear hE h1 h3 hstep ha
      go_enter Tryd.func3, Tryd.ntmps3
      go_wp2_with fail
      refine (head_any _ HE.out).mono ?_
      rintro _ w0 ⟨rfl, hb⟩
      have HB0 : Aside (Below w.heap.size w w0) := hb
      clear hb
      go_wp2_with fail
      refine (K1.out _).mono ?_
      rintro _ w1 ⟨rfl, hb⟩
      have HB1 : Aside (Below w.heap.size w w1) := HB0.out.trans (hb.mono HB0.out.size)
      clear hb HB0
      go_wp2_with fail
      refine (K2.out _).mono ?_
      rintro _ w2 ⟨rfl, hb⟩
      have HB2 : Aside (Below w.heap.size w w2) := HB1.out.trans (hb.mono HB1.out.size)
      clear hb HB1
      go_wp2_with fail
      refine (K3.out _).mono ?_
      rintro _ w3 ⟨rfl, hb⟩
      have HB3 : Aside (Below w.heap.size w w3) := HB2.out.trans (hb.mono HB2.out.size)
      clear hb HB2
      go_wp2_with fail
      refine (K4.out _).mono ?_
      rintro _ w4 ⟨rfl, hb⟩
      have HB4 : Aside (Below w.heap.size w w4) := HB3.out.trans (hb.mono HB3.out.size)
      clear hb HB3
      go_wp2_with fail
      refine (KA.out _).mono ?_
      rintro _ w5 ⟨rfl, hw⟩
      have HB5 : Aside (Below w.heap.size w w5) := by rw [← hw]; exact HB4.out
      clear hw HB4
      go_wp2_with fail
      refine (K5.out _).mono ?_
      rintro _ w6 ⟨rfl, hb⟩
      have HB6 : Aside (Below w.heap.size w w6) := HB5.out.trans (hb.mono HB5.out.size)
      clear hb HB5
      go_wp2
      go_ret
      exact ⟨rfl, HB6.out⟩
    · by_cases hg0 : g = 0
      · have he : (e == 0) = false := by simp; exact fun x => hg ⟨hg0, x⟩
        subst hg0
        clear hE h1 h3 hstep ha hg
        go_enter Tryd.func3, Tryd.ntmps3
        go_wp2_with fail
        refine (head_any _ HE.out).mono ?_
        rintro _ w0 ⟨rfl, hb⟩
        have HB0 : Aside (Below w.heap.size w w0) := hb
        clear hb
        go_wp2_with fail
        refine (K1.out _).mono ?_
        rintro _ w1 ⟨rfl, hb⟩
        have HB1 : Aside (Below w.heap.size w w1) := HB0.out.trans (hb.mono HB0.out.size)
        clear hb HB0
        go_wp2_with fail
        refine (K2.out _).mono ?_
        rintro _ w2 ⟨rfl, hb⟩
        have HB2 : Aside (Below w.heap.size w w2) := HB1.out.trans (hb.mono HB1.out.size)
        clear hb HB1
        go_wp2_with fail
        refine (K3.out _).mono ?_
        rintro _ w3 ⟨rfl, hb⟩
        have HB3 : Aside (Below w.heap.size w w3) := HB2.out.trans (hb.mono HB2.out.size)
        clear hb HB2
        go_wp2_with fail
        refine (KA.out _).mono ?_
        rintro _ w4 ⟨rfl, hw⟩
        have HB4 : Aside (Below w.heap.size w w4) := by rw [← hw]; exact HB3.out
        clear hw HB3
        go_wp2_with fail
        refine (K5.out _).mono ?_
        rintro _ w5 ⟨rfl, hb⟩
        have HB5 : Aside (Below w.heap.size w w5) := HB4.out.trans (hb.mono HB4.out.size)
        clear hb HB4
        go_wp2
        go_ret
        exact ⟨rfl, HB5.out⟩
      · have he : (g == 0) = false := by simp; exact hg0
        clear hE h1 h3 hstep ha hg hg0
        go_enter Tryd.func3, Tryd.ntmps3
        go_wp2_with fail
        refine (head_any _ HE.out).mono ?_
        rintro _ w0 ⟨rfl, hb⟩
        have HB0 : Aside (Below w.heap.size w w0) := hb
        clear hb
        go_wp2_with fail
        refine (K1.out _).mono ?_
        rintro _ w1 ⟨rfl, hb⟩
        have HB1 : Aside (Below w.heap.size w w1) := HB0.out.trans (hb.mono HB0.out.size)
        clear hb HB0
        go_wp2_with fail
        refine (K2.out _).mono ?_
        rintro _ w2 ⟨rfl, hb⟩
        have HB2 : Aside (Below w.heap.size w w2) := HB1.out.trans (hb.mono HB1.out.size)
        clear hb HB1
        go_wp2_with fail
        refine (K3.out _).mono ?_
        rintro _ w3 ⟨rfl, hb⟩
        have HB3 : Aside (Below w.heap.size w w3) := HB2.out.trans (hb.mono HB2.out.size)
        clear hb HB2
        go_wp2_with fail
        refine (KA.out _).mono ?_
        rintro _ w4 ⟨rfl, hw⟩
        have HB4 : Aside (Below w.heap.size w w4) := by rw [← hw]; exact HB3.out
        clear hw HB3
        go_wp2_with fail
        refine (K5.out _).mono ?_
        rintro _ w5 ⟨rfl, hb⟩
        have HB5 : Aside (Below w.heap.size w w5) := HB4.out.trans (hb.mono HB4.out.size)
        clear hb HB4
        go_wp2
        go_ret
        exact ⟨rfl, HB5.out⟩
  | false =>
    rw [ha] at KA
    by_cases hg : g = 0 ∧ e = 0
    · obtain ⟨rfl, rfl⟩ := hg
      have K4 := Lib.hid (fun w => add2 z c x 0 (hstep rfl rfl) w)
      clear hE h1 h3 hstep ha
      go_enter Tryd.func3, Tryd.ntmps3
      go_wp2_with fail
      refine (head_any _ HE.out).mono ?_
      rintro _ w0 ⟨rfl, hb⟩
      have HB0 : Aside (Below w.heap.size w w0) := hb
      clear hb
      go_wp2_with fail
      refine (K1.out _).mono ?_
      rintro _ w1 ⟨rfl, hb⟩
      have HB1 : Aside (Below w.heap.size w w1) := HB0.out.trans (hb.mono HB0.out.size)
      clear hb HB0
      go_wp2_with fail
      refine (K2.out _).mono ?_
      rintro _ w2 ⟨rfl, hb⟩
      have HB2 : Aside (Below w.heap.size w w2) := HB1.out.trans (hb.mono HB1.out.size)
      clear hb HB1
      go_wp2_with fail
      refine (K3.out _).mono ?_
      rintro _ w3 ⟨rfl, hb⟩
      have HB3 : Aside (Below w.heap.size w w3) := HB2.out.trans (hb.mono HB2.out.size)
      clear hb HB2
      go_wp2_with fail
      refine (K4.out _).mono ?_
      rintro _ w4 ⟨rfl, hb⟩
      have HB4 : Aside (Below w.heap.size w w4) := HB3.out.trans (hb.mono HB3.out.size)
      clear hb HB3
      go_wp2_with fail
      refine (KA.out _).mono ?_
      rintro _ w5 ⟨rfl, hw⟩
      have HB5 : Aside (Below w.heap.size w w5) := by rw [← hw]; exact HB4.out
      clear hw HB4
      go_wp2
      go_ret
      exact ⟨rfl, HB5.out⟩
    · by_cases hg0 : g = 0
      · have he : (e == 0) = false := by simp; exact fun x => hg ⟨hg0, x⟩
        subst hg0
        clear hE h1 h3 hstep ha hg
        go_enter Tryd.func3, Tryd.ntmps3
        go_wp2_with fail
        refine (head_any _ HE.out).mono ?_
        rintro _ w0 ⟨rfl, hb⟩
        have HB0 : Aside (Below w.heap.size w w0) := hb
        clear hb
        go_wp2_with fail
        refine (K1.out _).mono ?_
        rintro _ w1 ⟨rfl, hb⟩
        have HB1 : Aside (Below w.heap.size w w1) := HB0.out.trans (hb.mono HB0.out.size)
        clear hb HB0
        go_wp2_with fail
        refine (K2.out _).mono ?_
        rintro _ w2 ⟨rfl, hb⟩
        have HB2 : Aside (Below w.heap.size w w2) := HB1.out.trans (hb.mono HB1.out.size)
        clear hb HB1
        go_wp2_with fail
        refine (K3.out _).mono ?_
        rintro _ w3 ⟨rfl, hb⟩
        have HB3 : Aside (Below w.heap.size w w3) := HB2.out.trans (hb.mono HB2.out.size)
        clear hb HB2
        go_wp2_with fail
        refine (KA.out _).mono ?_
        rintro _ w4 ⟨rfl, hw⟩
        have HB4 : Aside (Below w.heap.size w w4) := by rw [← hw]; exact HB3.out
        clear hw HB3
        go_wp2
        go_ret
        exact ⟨rfl, HB4.out⟩
      · have he : (g == 0) = false := by simp; exact hg0
        clear hE h1 h3 hstep ha hg hg0
        go_enter Tryd.func3, Tryd.ntmps3
        go_wp2_with fail
        refine (head_any _ HE.out).mono ?_
        rintro _ w0 ⟨rfl, hb⟩
        have HB0 : Aside (Below w.heap.size w w0) := hb
        clear hb
        go_wp2_with fail
        refine (K1.out _).mono ?_
        rintro _ w1 ⟨rfl, hb⟩
        have HB1 : Aside (Below w.heap.size w w1) := HB0.out.trans (hb.mono HB0.out.size)
        clear hb HB0
        go_wp2_with fail
        refine (K2.out _).mono ?_
        rintro _ w2 ⟨rfl, hb⟩
        have HB2 : Aside (Below w.heap.size w w2) := HB1.out.trans (hb.mono HB1.out.size)
        clear hb HB1
        go_wp2_with fail
        refine (K3.out _).mono ?_
        rintro _ w3 ⟨rfl, hb⟩
        have HB3 : Aside (Below w.heap.size w w3) := HB2.out.trans (hb.mono HB2.out.size)
        clear hb HB2
        go_wp2_with fail
        refine (KA.out _).mono ?_
        rintro _ w4 ⟨rfl, hw⟩
        have HB4 : Aside (Below w.heap.size w w4) := by rw [← hw]; exact HB3.out
        clear hw HB3
        go_wp2
        go_ret
        exact ⟨rfl, HB4.out⟩
end Go.Proofs.YtamccmeibnihpaaDoor
