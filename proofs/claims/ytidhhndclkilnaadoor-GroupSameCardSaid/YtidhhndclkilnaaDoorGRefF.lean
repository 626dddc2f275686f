/-
  Contracts of the reference: Equal.
-/
import Derived.Test.YtidhhndclkilnaaDoorGRefE
namespace Go.Proofs.YtidhhndclkilnaaDoor
open Go.RowKit Dg Gr

/-- What Equal returns. -/
noncomputable def eqlC (b x o y c s : Nat) : Nat := chl [(b : Int), (x : Int), (o : Int), (y : Int), (bck b x c s : Nat), (bck o y c s : Nat)]
noncomputable def eqlR (b x o y C S : Int) : Bool × Int :=
  if (basZ b && basZ o && memZ x && memZ y && (expZ C && expZ S)) = true then ((((eqlC b.toNat x.toNat o.toNat y.toNat C.toNat S.toNat : Nat) : Int) == C), 0) else (false, 1)
set_option maxRecDepth 100000 in
set_option maxHeartbeats 3000000 in
theorem requal_any (b x o y C S : Int) (w : World) :
    Calls Tryd.prog 27 #[.int .i64 b, .int .i64 x, .int .i64 o, .int .i64 y, .agg #[.int .i64 C, .int .i64 S]] w fun e w' => e = .returned (.tuple #[.bool (eqlR b x o y C S).1, .int .i64 (eqlR b x o y C S).2]) ∧ RowKit.Below w.heap.size w w' := by
  have K1 := Lib.hid (rbase_any b)
  have K2 := Lib.hid (rbase_any o)
  have K3 := Lib.hid (rmember_any x)
  have K4 := Lib.hid (rmember_any y)
  have K5 := Lib.hid (rform_any C S)
  obtain ⟨r, hR⟩ : ∃ r, eqlR b x o y C S = r := ⟨_, rfl⟩
  rw [hR]
  unfold eqlR at hR
  have B1 := Lib.hid ((Below.refl w.heap.size w).alloc (Nat.le_refl _) (.cells #[.int .i64 C, .int .i64 S] 23))
  have C1 := Lib.hid (Cel.new w (.int .i64 C) (.int .i64 S) 23)
  cases h : (basZ b && basZ o && memZ x && memZ y && (expZ C && expZ S)) with
  | true =>
    rw [h, if_pos rfl] at hR
    rw [Bool.and_eq_true, Bool.and_eq_true, Bool.and_eq_true, Bool.and_eq_true] at h
    obtain ⟨⟨⟨⟨h1, h2⟩, h3⟩, h4⟩, h5⟩ := h
    rw [h1] at K1
    rw [h2] at K2
    rw [h3] at K3
    rw [h4] at K4
    rw [h5] at K5
    rw [Bool.and_eq_true] at h5
    obtain ⟨b, rfl, hb, -⟩ := basZ_nat h1
    obtain ⟨o, rfl, ho, -⟩ := basZ_nat h2
    obtain ⟨x, rfl, hx⟩ := memZ_nat h3
    obtain ⟨y, rfl, hy⟩ := memZ_nat h4
    obtain ⟨c, rfl, hc⟩ := expZ_nat h5.1
    obtain ⟨s, rfl, hs⟩ := expZ_nat h5.2
    have hb2 : b < 2147483579 := hb.2.1
    have ho2 : o < 2147483579 := ho.2.1
    have hx2 : x < 2147483579 := hx.2.1
    have hy2 : y < 2147483579 := hy.2.1
    unfold eqlC at hR
    simp only [Int.toNat_natCast] at hR
    have P1 := Lib.hid (fun w => rback_any b x c s w hb2 hx2 hc hs)
    have P2 := Lib.hid (fun w => rback_any o y c s w ho2 hy2 hc hs)
    have l1 : bck b x c s < 2147483579 := Nat.mod_lt _ (by decide)
    have l2 : bck o y c s < 2147483579 := Nat.mod_lt _ (by decide)
    generalize bck b x c s = y1 at *
    generalize bck o y c s = y2 at *
    have KC := Lib.hid (fun w p b3 cap3 hS3 => rchl_any [(b : Int), (x : Int), (o : Int), (y : Int), (y1 : Int), (y2 : Int)] p b3 0 cap3 6 w hS3 (i64s_cons (by omega) (i64s_cons (by omega) (i64s_cons (by omega) (i64s_cons (by omega) (i64s_cons (by omega) (i64s_cons (by omega) i64s_nil)))))) (by decide))
    have TW := Lib.hid (fun v => sl_six v (b : Int) (x : Int) (o : Int) (y : Int) (y1 : Int) (y2 : Int))
    generalize chl [(b : Int), (x : Int), (o : Int), (y : Int), (y1 : Int), (y2 : Int)] = d at *
    obtain ⟨z, e1⟩ : ∃ z, ((d : Int) == (c : Int)) = z := ⟨_, rfl⟩
    rw [e1] at hR
    subst hR
    clear h1 h2 h3 h4 h5 hb ho hx hy
    go_enter Tryd.func27, Tryd.ntmps27
    go_wp2_with fail
    generalize w.alloc (.cells #[.int .i64 c, .int .i64 s] 23) = W1 at *
    refine (K1.out _).mono ?_
    rintro _ _ ⟨rfl, rfl⟩
    go_wp2_with fail
    refine (K2.out _).mono ?_
    rintro _ _ ⟨rfl, rfl⟩
    go_wp2_with fail
    refine (K3.out _).mono ?_
    rintro _ _ ⟨rfl, rfl⟩
    go_wp2_with fail
    refine (K4.out _).mono ?_
    rintro _ _ ⟨rfl, rfl⟩
    rename World => W1
    obtain ⟨c0, c1, f0, f1⟩ := C1.out
    go_wp2_with fail
    refine (K5.out _).mono ?_
    rintro _ W2 ⟨rfl, hb2⟩
    have B2 := Lib.hid (B1.out.trans (hb2.mono B1.out.size))
    have C2 := Lib.hid (C1.out.below hb2)
    clear hb2 B1 C1 c0 c1 f0 f1
    obtain ⟨c0, c1, f0, f1⟩ := C2.out
    have Hkd := Lib.hid (Kp.of c0 c1 (World.block_lt_of_cell? _ _ c0) (World.block_lt_of_cell? _ _ c1) (Below.refl W2.heap.size W2).drew)
    go_wp2_with fail
    go_region_held3 (fun w' => w'.cell? ⟨w.heap.size, 0, none⟩ = some (.int .i64 c) ∧ w'.cell? ⟨w.heap.size, 1, none⟩ = some (.int .i64 s) ∧ RowKit.Below W2.heap.size W2 w')
      (first | with_reducible exact Hkd.out | ((with_reducible refine Kp.call ?_ hv3); (with_reducible assumption)) | ((with_reducible refine Kp.call ?_ hv1); (with_reducible assumption)) | ((with_reducible refine Kp.call ?_ hv2); (with_reducible assumption)) | ((with_reducible refine Kp.alc ?_); (with_reducible assumption)))
      (first | (go_at_call 33; (with_reducible show Calls _ _ #[.int .i64 b, .int .i64 x, _] _ _); refine (P1.out _).mono ?_; rintro _ v1 ⟨rfl, hv1⟩) | (go_at_call 33; (with_reducible show Calls _ _ #[.int .i64 o, .int .i64 y, _] _ _); refine (P2.out _).mono ?_; rintro _ v2 ⟨rfl, hv2⟩) | (go_at_call 34; refine (KC.out _ _ _ _ (TW.out _)).mono ?_; rintro _ v3 ⟨rfl, hv3⟩))
    all_goals
      have HBW : Hid (RowKit.Below W2.heap.size W2 v3) := (‹_ ∧ _ ∧ RowKit.Below W2.heap.size W2 v3›).2.2
      go_wp2_with fail
      go_ret2
      exact ⟨rfl, B2.out.trans (HBW.out.mono B2.out.size)⟩
  | false =>
    rw [h] at hR
    simp only [Bool.false_eq_true, if_false] at hR
    subst hR
    generalize basZ b = a1 at *
    generalize basZ o = a2 at *
    generalize memZ x = a3 at *
    generalize memZ y = a4 at *
    generalize (expZ C && expZ S) = a5 at *
    cases a1 <;> cases a2 <;> cases a3 <;> cases a4 <;> cases a5
    all_goals first | (cases h; done) | skip
    all_goals
      clear h
      go_enter Tryd.func27, Tryd.ntmps27
      go_wp2_with fail
      generalize w.alloc (.cells #[.int .i64 C, .int .i64 S] 23) = W1 at *
      refine (K1.out _).mono ?_
      rintro _ _ ⟨rfl, rfl⟩
      go_wp2_with fail
      refine (K2.out _).mono ?_
      rintro _ _ ⟨rfl, rfl⟩
      go_wp2_with fail
      refine (K3.out _).mono ?_
      rintro _ _ ⟨rfl, rfl⟩
      go_wp2_with fail
      refine (K4.out _).mono ?_
      rintro _ _ ⟨rfl, rfl⟩
      rename World => W1
      obtain ⟨c0, c1, f0, f1⟩ := C1.out
      go_wp2_with fail
      refine (K5.out _).mono ?_
      rintro _ W2 ⟨rfl, hb2⟩
      have B2 := Lib.hid (B1.out.trans (hb2.mono B1.out.size))
      go_wp2_with fail
      go_ret2
      exact ⟨rfl, B2.out⟩
end Go.Proofs.YtidhhndclkilnaaDoor
