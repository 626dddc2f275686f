/-
  Contracts of the reference: Same, Equal.
-/
import Derived.Test.YtidhhndclkilnaaDoorGRefD
namespace Go.Proofs.YtidhhndclkilnaaDoor
open Go.RowKit Dg Gr

theorem sl_six (w : World) (x0 x1 x2 x3 x4 x5 : Int) : SlF i64v (w.alloc (.cells #[.int .i64 x0, .int .i64 x1, .int .i64 x2, .int .i64 x3, .int .i64 x4, .int .i64 x5] 3)) (some ⟨w.heap.size, 0, none⟩) w.heap.size 0 6 [x0, x1, x2, x3, x4, x5] :=
  ⟨rfl, fun _ => rfl, fun k hk => by
    simp only [List.length_cons, List.length_nil] at hk
    have : k = 0 ∨ k = 1 ∨ k = 2 ∨ k = 3 ∨ k = 4 ∨ k = 5 := by omega
    rcases this with rfl | rfl | rfl | rfl | rfl | rfl <;> simp [i64v], fun _ => by simp, by omega⟩
theorem i64s_nil : I64s [] := fun y hy => by cases hy
/-- What Same returns. -/
noncomputable def samC (b o x once : Nat) : Nat := chl [(b : Int), (pw b x 2147483579 : Nat), (o : Int), (pw o x 2147483579 : Nat), (pw b once 2147483579 : Nat), (pw o once 2147483579 : Nat)]
noncomputable def samR (b o x once : Int) : Int × Int × Int :=
  if (basZ b && basZ o && secZ x && secZ once) = true then ((samC b.toNat o.toNat x.toNat once.toNat : Nat), (once + (samC b.toNat o.toNat x.toNat once.toNat : Nat) * x) % 1073741789, 0) else (0, 0, 1)
set_option maxRecDepth 100000 in
set_option maxHeartbeats 3000000 in
theorem rsame_any (b o x once : Int) (w : World) :
    Calls Tryd.prog 25 #[.int .i64 b, .int .i64 o, .int .i64 x, .int .i64 once] w fun e w' => e = .returned (.tuple #[.agg #[.int .i64 (samR b o x once).1, .int .i64 (samR b o x once).2.1], .int .i64 (samR b o x once).2.2]) ∧ RowKit.Below w.heap.size w w' := by
  have K1 := Lib.hid (rbase_any b)
  have K2 := Lib.hid (rbase_any o)
  have K3 := Lib.hid (rsecret_any x)
  have K4 := Lib.hid (rsecret_any once)
  obtain ⟨r, hR⟩ : ∃ r, samR b o x once = r := ⟨_, rfl⟩
  rw [hR]
  unfold samR at hR
  have B1 := Lib.hid ((Below.refl w.heap.size w).alloc (Nat.le_refl _) (.cells #[.int .i64 0, .int .i64 0] 23))
  have C1 := Lib.hid (Cel.new w (.int .i64 0) (.int .i64 0) 23)
  cases h : (basZ b && basZ o && secZ x && secZ once) with
  | true =>
    rw [h, if_pos rfl] at hR
    simp only [Bool.and_eq_true] at h
    obtain ⟨⟨⟨h1, h2⟩, h3⟩, h4⟩ := h
    rw [h1] at K1
    rw [h2] at K2
    rw [h3] at K3
    rw [h4] at K4
    obtain ⟨b, rfl, hb, -⟩ := basZ_nat h1
    obtain ⟨o, rfl, ho, -⟩ := basZ_nat h2
    obtain ⟨x, rfl, hx1, hx⟩ := secZ_nat h3
    obtain ⟨s, rfl, hs1, hs⟩ := secZ_nat h4
    have hb2 : b < 2147483579 := hb.2.1
    have ho2 : o < 2147483579 := ho.2.1
    unfold samC at hR
    simp only [Int.toNat_natCast] at hR
    have P1 := Lib.hid (fun w => rpower_any b x 2147483579 w hb2 (by decide) (by decide) (by omega))
    have P2 := Lib.hid (fun w => rpower_any o x 2147483579 w ho2 (by decide) (by decide) (by omega))
    have P3 := Lib.hid (fun w => rpower_any b s 2147483579 w hb2 (by decide) (by decide) (by omega))
    have P4 := Lib.hid (fun w => rpower_any o s 2147483579 w ho2 (by decide) (by decide) (by omega))
    have l1 : pw b x 2147483579 < 2147483579 := pw_lt (by decide) _ _
    have l2 : pw o x 2147483579 < 2147483579 := pw_lt (by decide) _ _
    have l3 : pw b s 2147483579 < 2147483579 := pw_lt (by decide) _ _
    have l4 : pw o s 2147483579 < 2147483579 := pw_lt (by decide) _ _
    generalize pw b x 2147483579 = y1 at *
    generalize pw o x 2147483579 = y2 at *
    generalize pw b s 2147483579 = y3 at *
    generalize pw o s 2147483579 = y4 at *
    have KC := Lib.hid (fun w p b3 cap3 hS3 => rchl_any [(b : Int), (y1 : Int), (o : Int), (y2 : Int), (y3 : Int), (y4 : Int)] p b3 0 cap3 6 w hS3 (i64s_cons (by omega) (i64s_cons (by omega) (i64s_cons (by omega) (i64s_cons (by omega) (i64s_cons (by omega) (i64s_cons (by omega) i64s_nil)))))) (by decide))
    have lc := chl_lt [(b : Int), (y1 : Int), (o : Int), (y2 : Int), (y3 : Int), (y4 : Int)]
    have TW := Lib.hid (fun v => sl_six v (b : Int) (y1 : Int) (o : Int) (y2 : Int) (y3 : Int) (y4 : Int))
    generalize chl [(b : Int), (y1 : Int), (o : Int), (y2 : Int), (y3 : Int), (y4 : Int)] = c at *
    have zc : c * x ≤ 4611686018427387904 := by
      have h1 : c * x ≤ 2147483648 * 2147483648 := Nat.mul_le_mul (by omega) (by omega)
      omega
    have z1 : (c : Int) * (x : Int) ≤ 4611686018427387904 := by rw [← Int.natCast_mul]; omega
    have z0 : 0 ≤ (c : Int) * (x : Int) := Int.mul_nonneg (by omega) (by omega)
    have hw : IntKind.i64.wrap ((c : Int) * (x : Int)) = (c : Int) * (x : Int) := IntWalk.i64_in _ (by omega)
    have hw2 : IntKind.i64.wrap ((s : Int) + (c : Int) * (x : Int)) = (s : Int) + (c : Int) * (x : Int) := IntWalk.i64_in _ (by omega)
    have h00 : 0 ≤ (s : Int) + (c : Int) * (x : Int) := by omega
    subst hR
    clear h1 h2 h3 h4 hb ho zc
    go_enter Tryd.func25, Tryd.ntmps25
    go_wp2_with fail
    generalize w.alloc (.cells #[.int .i64 0, .int .i64 0] 23) = W1 at *
    refine (K1.out _).mono ?_
    rintro _ _ ⟨rfl, rfl⟩
    go_wp2_with fail
    refine (K2.out _).mono ?_
    rintro _ _ ⟨rfl, rfl⟩
    go_wp2_with fail
    refine (K3.out _).mono ?_
    rintro _ _ ⟨rfl, rfl⟩
    go_wp2_with fail
    refine (K4.out _).mono ?_
    rintro _ _ ⟨rfl, rfl⟩
    go_wp2_with fail
    refine (P1.out _).mono ?_
    rintro _ _ ⟨rfl, rfl⟩
    go_wp2_with fail
    refine (P2.out _).mono ?_
    rintro _ _ ⟨rfl, rfl⟩
    go_wp2_with fail
    refine (P3.out _).mono ?_
    rintro _ _ ⟨rfl, rfl⟩
    go_wp2_with fail
    refine (P4.out _).mono ?_
    rintro _ _ ⟨rfl, rfl⟩
    go_wp2_with fail
    rename World => W1
    have BA := Lib.hid (B1.out.alloc B1.out.size (.cells #[.int .i64 b, .int .i64 y1, .int .i64 o, .int .i64 y2, .int .i64 y3, .int .i64 y4] 3))
    have CA := Lib.hid (C1.out.below ((Below.refl W1.heap.size W1).alloc (Nat.le_refl _) (.cells #[.int .i64 b, .int .i64 y1, .int .i64 o, .int .i64 y2, .int .i64 y3, .int .i64 y4] 3)))
    refine (KC.out _ _ _ _ (TW.out W1)).mono ?_
    rintro _ w4 ⟨rfl, hb4⟩
    have B4 := Lib.hid (BA.out.trans (hb4.mono BA.out.size))
    have C4 := Lib.hid (CA.out.below hb4)
    obtain ⟨c0, c1, f0, f1⟩ := C4.out
    clear hb4 BA CA B1 C1
    go_wp2_with fail
    exact bodyPost_ret (v := .tuple #[.agg #[.int .i64 c, .int .i64 (((s : Int) + (c : Int) * (x : Int)) % 1073741789)], .int .i64 0]) (by simp [results, Tryd.results25, go_sem, c0, c1]) rfl ⟨rfl, (by repeat' (first | (with_reducible exact B4.out) | (with_reducible refine Below.setCell ?_ ?_ _) | (with_reducible refine Below.alloc ?_ ?_ _) | (with_reducible refine Below.drew ?_) | (with_reducible refine below_drewN ?_ _) | (with_reducible exact Below.refl _ _) | omega | (simp; done) | (simp; omega)))⟩
  | false =>
    rw [h] at hR
    simp only [Bool.false_eq_true, if_false] at hR
    subst hR
    generalize basZ b = a1 at *
    generalize basZ o = a2 at *
    generalize secZ x = a3 at *
    generalize secZ once = a4 at *
    cases a1 <;> cases a2 <;> cases a3 <;> cases a4
    all_goals first | (cases h; done) | skip
    all_goals
      clear h
      go_enter Tryd.func25, Tryd.ntmps25
      go_wp2_with fail
      generalize w.alloc (.cells #[.int .i64 0, .int .i64 0] 23) = W1 at *
      refine (K1.out _).mono ?_
      rintro _ _ ⟨rfl, rfl⟩
      go_wp2_with fail
      refine (K2.out _).mono ?_
      rintro _ _ ⟨rfl, rfl⟩
      go_wp2_with fail
      refine (K3.out _).mono ?_
      rintro _ _ ⟨rfl, rfl⟩
      go_wp2_with fail
      refine (K4.out _).mono ?_
      rintro _ _ ⟨rfl, rfl⟩
      obtain ⟨c0, c1, f0, f1⟩ := C1.out
      go_wp2_with fail
      exact bodyPost_ret (v := .tuple #[.agg #[.int .i64 0, .int .i64 0], .int .i64 1]) (by simp [results, Tryd.results25, go_sem, c0, c1]) rfl ⟨rfl, (by repeat' (first | (with_reducible exact B1.out) | (with_reducible refine Below.setCell ?_ ?_ _) | (with_reducible refine Below.alloc ?_ ?_ _) | (with_reducible refine Below.drew ?_) | (with_reducible refine below_drewN ?_ _) | (with_reducible exact Below.refl _ _) | omega | (simp; done) | (simp; omega)))⟩
end Go.Proofs.YtidhhndclkilnaaDoor
