/-
  Contracts of the package: Same, Equal; all contracts of the package.
-/
import Derived.Test.YtidhhndclkilnaaDoorGPrgD
import Derived.Test.YtidhhndclkilnaaDoorGCon
namespace Go.Proofs.YtidhhndclkilnaaDoor
open Go.RowKit Dg Gr

set_option maxRecDepth 100000 in
set_option maxHeartbeats 4000000 in
theorem gsame_any (b o x once : Int) (w : World) (hT : Tab w) :
    Calls Tryd.prog 24 #[.int .i64 b, .int .i64 o, .int .i64 x, .int .i64 once] w fun e w' => e = .returned (.tuple #[.agg #[.int .i64 (samR b o x once).1, .int .i64 (samR b o x once).2.1], .int .i64 (samR b o x once).2.2]) ∧ RowKit.Below w.heap.size w w' := by
  have K1 := Lib.hid (gbase_any b)
  have K2 := Lib.hid (gbase_any o)
  have K3 := Lib.hid (gsecret_any x)
  have K4 := Lib.hid (gsecret_any once)
  obtain ⟨r, hR⟩ : ∃ r, samR b o x once = r := ⟨_, rfl⟩
  rw [hR]
  unfold samR at hR
  have B := Lib.hid ((Below.refl w.heap.size w).alloc (Nat.le_refl _) (.cells #[.int .i64 0, .int .i64 0] 23))
  have C := Lib.hid (Cel.new w (.int .i64 0) (.int .i64 0) 23)
  have T := Lib.hid (hT.below B.out)
  clear hT
  cases h : (basZ b && basZ o && secZ x && secZ once) with
  | true =>
    rw [h, if_pos rfl] at hR
    simp only [Bool.and_eq_true] at h
    obtain ⟨⟨⟨h1, h2⟩, h3⟩, h4⟩ := h
    rw [h1] at K1
    rw [h2] at K2
    rw [h3] at K3
    rw [h4] at K4
    obtain ⟨b, rfl, hb, -⟩ := basZ_nat h1
    obtain ⟨o, rfl, ho, -⟩ := basZ_nat h2
    obtain ⟨x, rfl, hx1, hx⟩ := secZ_nat h3
    obtain ⟨s, rfl, hs1, hs⟩ := secZ_nat h4
    have hb2 : b < 2147483579 := hb.2.1
    have ho2 : o < 2147483579 := ho.2.1
    unfold samC at hR
    simp only [Int.toNat_natCast] at hR
    have P1 := Lib.hid (fun w => gpower_any b x w hb2 (by omega))
    have P2 := Lib.hid (fun w => gpower_any o x w ho2 (by omega))
    have P3 := Lib.hid (fun w => gpower_any b s w hb2 (by omega))
    have P4 := Lib.hid (fun w => gpower_any o s w ho2 (by omega))
    have l1 : pw b x 2147483579 < 2147483579 := pw_lt (by decide) _ _
    have l2 : pw o x 2147483579 < 2147483579 := pw_lt (by decide) _ _
    have l3 : pw b s 2147483579 < 2147483579 := pw_lt (by decide) _ _
    have l4 : pw o s 2147483579 < 2147483579 := pw_lt (by decide) _ _
    generalize pw b x 2147483579 = y1 at *
    generalize pw o x 2147483579 = y2 at *
    generalize pw b s 2147483579 = y3 at *
    generalize pw o s 2147483579 = y4 at *
    have KC := Lib.hid (fun w p b3 cap3 hS3 hT => gchl_any [(b : Int), (y1 : Int), (o : Int), (y2 : Int), (y3 : Int), (y4 : Int)] p b3 0 cap3 6 w hS3 (i64s_cons (by omega) (i64s_cons (by omega) (i64s_cons (by omega) (i64s_cons (by omega) (i64s_cons (by omega) (i64s_cons (by omega) i64s_nil)))))) hT)
    have lc := chl_lt [(b : Int), (y1 : Int), (o : Int), (y2 : Int), (y3 : Int), (y4 : Int)]
    have TW := Lib.hid (fun v => sl_six v (b : Int) (y1 : Int) (o : Int) (y2 : Int) (y3 : Int) (y4 : Int))
    generalize chl [(b : Int), (y1 : Int), (o : Int), (y2 : Int), (y3 : Int), (y4 : Int)] = c at *
    have KA := Lib.hid (fun w => ganswer_any c x s w lc hx hs)
    subst hR
    clear h1 h2 h3 h4 hb ho
    generalize ((s : Int) + (c : Int) * (x : Int)) % 1073741789 = z at *
    go_enter Tryd.func24, Tryd.ntmps24
    go_wp2_with fail
    generalize w.alloc (.cells #[.int .i64 0, .int .i64 0] 23) = W1 at *
    refine (K1.out _).mono ?_
    rintro _ v ⟨rfl, hb⟩
    replace B := Lib.hid (B.out.trans (hb.mono B.out.size))
    replace C := Lib.hid (C.out.below hb)
    replace T := Lib.hid (T.out.below hb)
    clear hb
    go_wp2_with fail
    refine (K2.out _).mono ?_
    rintro _ v ⟨rfl, hb⟩
    replace B := Lib.hid (B.out.trans (hb.mono B.out.size))
    replace C := Lib.hid (C.out.below hb)
    replace T := Lib.hid (T.out.below hb)
    clear hb
    go_wp2_with fail
    refine (K3.out _).mono ?_
    rintro _ _ ⟨rfl, rfl⟩
    go_wp2_with fail
    refine (K4.out _).mono ?_
    rintro _ _ ⟨rfl, rfl⟩
    go_wp2_with fail
    refine (P1.out _).mono ?_
    rintro _ v ⟨rfl, hb⟩
    replace B := Lib.hid (B.out.trans (hb.mono B.out.size))
    replace C := Lib.hid (C.out.below hb)
    replace T := Lib.hid (T.out.below hb)
    clear hb
    go_wp2_with fail
    refine (P2.out _).mono ?_
    rintro _ v ⟨rfl, hb⟩
    replace B := Lib.hid (B.out.trans (hb.mono B.out.size))
    replace C := Lib.hid (C.out.below hb)
    replace T := Lib.hid (T.out.below hb)
    clear hb
    go_wp2_with fail
    refine (P3.out _).mono ?_
    rintro _ v ⟨rfl, hb⟩
    replace B := Lib.hid (B.out.trans (hb.mono B.out.size))
    replace C := Lib.hid (C.out.below hb)
    replace T := Lib.hid (T.out.below hb)
    clear hb
    go_wp2_with fail
    refine (P4.out _).mono ?_
    rintro _ v ⟨rfl, hb⟩
    replace B := Lib.hid (B.out.trans (hb.mono B.out.size))
    replace C := Lib.hid (C.out.below hb)
    replace T := Lib.hid (T.out.below hb)
    clear hb
    go_wp2_with fail
    rename World => W2
    have hbn := (Below.refl W2.heap.size W2).alloc (Nat.le_refl _) (.cells #[.int .i64 b, .int .i64 y1, .int .i64 o, .int .i64 y2, .int .i64 y3, .int .i64 y4] 3)
    replace B := Lib.hid (B.out.trans (hbn.mono B.out.size))
    replace C := Lib.hid (C.out.below hbn)
    replace T := Lib.hid (T.out.below hbn)
    clear hbn
    refine (KC.out _ _ _ _ (TW.out W2) T.out).mono ?_
    rintro _ v ⟨rfl, hb⟩
    replace B := Lib.hid (B.out.trans (hb.mono B.out.size))
    replace C := Lib.hid (C.out.below hb)
    replace T := Lib.hid (T.out.below hb)
    clear hb
    go_wp2_with fail
    refine (KA.out _).mono ?_
    rintro _ v ⟨rfl, hb⟩
    replace B := Lib.hid (B.out.trans (hb.mono B.out.size))
    replace C := Lib.hid (C.out.below hb)
    clear hb T
    obtain ⟨c0, c1, f0, f1⟩ := C.out
    go_wp2_with fail
    exact bodyPost_ret (v := .tuple #[.agg #[.int .i64 c, .int .i64 z], .int .i64 0]) (by simp [results, Tryd.results24, go_sem, c0, c1]) rfl ⟨rfl, (by repeat' (first | (with_reducible exact B.out) | (with_reducible refine Below.setCell ?_ ?_ _) | (with_reducible refine Below.alloc ?_ ?_ _) | (with_reducible refine Below.drew ?_) | (with_reducible refine below_drewN ?_ _) | (with_reducible exact Below.refl _ _) | omega | (simp; done) | (simp; omega)))⟩
  | false =>
    rw [h] at hR
    simp only [Bool.false_eq_true, if_false] at hR
    subst hR
    clear T
    generalize basZ b = a1 at *
    generalize basZ o = a2 at *
    generalize secZ x = a3 at *
    generalize secZ once = a4 at *
    have e4 : a1 = false ∨ (a1 = true ∧ a2 = false) ∨ (a1 = true ∧ a2 = true ∧ a3 = false) ∨ (a1 = true ∧ a2 = true ∧ a3 = true ∧ a4 = false) := by
      cases a1 <;> cases a2 <;> cases a3 <;> cases a4 <;> simp at h ⊢
    clear h
    rcases e4 with rfl | ⟨rfl, rfl⟩ | ⟨rfl, rfl, rfl⟩ | ⟨rfl, rfl, rfl, rfl⟩
    · go_enter Tryd.func24, Tryd.ntmps24
      go_wp2_with fail
      generalize w.alloc (.cells #[.int .i64 0, .int .i64 0] 23) = W1 at *
      refine (K1.out _).mono ?_
      rintro _ v ⟨rfl, hb⟩
      replace B := Lib.hid (B.out.trans (hb.mono B.out.size))
      replace C := Lib.hid (C.out.below hb)
      clear hb
      obtain ⟨c0, c1, f0, f1⟩ := C.out
      go_wp2_with fail
      exact bodyPost_ret (v := .tuple #[.agg #[.int .i64 0, .int .i64 0], .int .i64 1]) (by simp [results, Tryd.results24, go_sem, c0, c1]) rfl ⟨rfl, (by repeat' (first | (with_reducible exact B.out) | (with_reducible refine Below.setCell ?_ ?_ _) | (with_reducible refine Below.alloc ?_ ?_ _) | (with_reducible refine Below.drew ?_) | (with_reducible refine below_drewN ?_ _) | (with_reducible exact Below.refl _ _) | omega | (simp; done) | (simp; omega)))⟩
    · go_enter Tryd.func24, Tryd.ntmps24
      go_wp2_with fail
      generalize w.alloc (.cells #[.int .i64 0, .int .i64 0] 23) = W1 at *
      refine (K1.out _).mono ?_
      rintro _ v ⟨rfl, hb⟩
      replace B := Lib.hid (B.out.trans (hb.mono B.out.size))
      replace C := Lib.hid (C.out.below hb)
      clear hb
      go_wp2_with fail
      refine (K2.out _).mono ?_
      rintro _ v ⟨rfl, hb⟩
      replace B := Lib.hid (B.out.trans (hb.mono B.out.size))
      replace C := Lib.hid (C.out.below hb)
      clear hb
      obtain ⟨c0, c1, f0, f1⟩ := C.out
      go_wp2_with fail
      exact bodyPost_ret (v := .tuple #[.agg #[.int .i64 0, .int .i64 0], .int .i64 1]) (by simp [results, Tryd.results24, go_sem, c0, c1]) rfl ⟨rfl, (by repeat' (first | (with_reducible exact B.out) | (with_reducible refine Below.setCell ?_ ?_ _) | (with_reducible refine Below.alloc ?_ ?_ _) | (with_reducible refine Below.drew ?_) | (with_reducible refine below_drewN ?_ _) | (with_reducible exact Below.refl _ _) | omega | (simp; done) | (simp; omega)))⟩
    · go_enter Tryd.func24, Tryd.ntmps24
      go_wp2_with fail
      generalize w.alloc (.cells #[.int .i64 0, .int .i64 0] 23) = W1 at *
      refine (K1.out _).mono ?_
      rintro _ v ⟨rfl, hb⟩
      replace B := Lib.hid (B.out.trans (hb.mono B.out.size))
      replace C := Lib.hid (C.out.below hb)
      clear hb
      go_wp2_with fail
      refine (K2.out _).mono ?_
      rintro _ v ⟨rfl, hb⟩
      replace B := Lib.hid (B.out.trans (hb.mono B.out.size))
      replace C := Lib.hid (C.out.below hb)
      clear hb
      go_wp2_with fail
      refine (K3.out _).mono ?_
      rintro _ _ ⟨rfl, rfl⟩
      obtain ⟨c0, c1, f0, f1⟩ := C.out
      go_wp2_with fail
      exact bodyPost_ret (v := .tuple #[.agg #[.int .i64 0, .int .i64 0], .int .i64 1]) (by simp [results, Tryd.results24, go_sem, c0, c1]) rfl ⟨rfl, (by repeat' (first | (with_reducible exact B.out) | (with_reducible refine Below.setCell ?_ ?_ _) | (with_reducible refine Below.alloc ?_ ?_ _) | (with_reducible refine Below.drew ?_) | (with_reducible refine below_drewN ?_ _) | (with_reducible exact Below.refl _ _) | omega | (simp; done) | (simp; omega)))⟩
    · go_enter Tryd.func24, Tryd.ntmps24
      go_wp2_with fail
      generalize w.alloc (.cells #[.int .i64 0, .int .i64 0] 23) = W1 at *
      refine (K1.out _).mono ?_
      rintro _ v ⟨rfl, hb⟩
      replace B := Lib.hid (B.out.trans (hb.mono B.out.size))
      replace C := Lib.hid (C.out.below hb)
      clear hb
      go_wp2_with fail
      refine (K2.out _).mono ?_
      rintro _ v ⟨rfl, hb⟩
      replace B := Lib.hid (B.out.trans (hb.mono B.out.size))
      replace C := Lib.hid (C.out.below hb)
      clear hb
      go_wp2_with fail
      refine (K3.out _).mono ?_
      rintro _ _ ⟨rfl, rfl⟩
      go_wp2_with fail
      refine (K4.out _).mono ?_
      rintro _ _ ⟨rfl, rfl⟩
      obtain ⟨c0, c1, f0, f1⟩ := C.out
      go_wp2_with fail
      exact bodyPost_ret (v := .tuple #[.agg #[.int .i64 0, .int .i64 0], .int .i64 1]) (by simp [results, Tryd.results24, go_sem, c0, c1]) rfl ⟨rfl, (by repeat' (first | (with_reducible exact B.out) | (with_reducible refine Below.setCell ?_ ?_ _) | (with_reducible refine Below.alloc ?_ ?_ _) | (with_reducible refine Below.drew ?_) | (with_reducible refine below_drewN ?_ _) | (with_reducible exact Below.refl _ _) | omega | (simp; done) | (simp; omega)))⟩
set_option maxRecDepth 100000 in
set_option maxHeartbeats 4000000 in
theorem gequal_any (b x o y SC S : Int) (w : World) (hT : Tab w) :
    Calls Tryd.prog 26 #[.int .i64 b, .int .i64 x, .int .i64 o, .int .i64 y, .agg #[.int .i64 SC, .int .i64 S]] w fun e w' => e = .returned (.tuple #[.bool (eqlR b x o y SC S).1, .int .i64 (eqlR b x o y SC S).2]) ∧ RowKit.Below w.heap.size w w' := by
  have K1 := Lib.hid (gbase_any b)
  have K2 := Lib.hid (gbase_any o)
  have K3 := Lib.hid (gmember_any x)
  have K4 := Lib.hid (gmember_any y)
  have K5 := Lib.hid (gare_any SC S)
  obtain ⟨r, hR⟩ : ∃ r, eqlR b x o y SC S = r := ⟨_, rfl⟩
  rw [hR]
  unfold eqlR at hR
  have B := Lib.hid ((Below.refl w.heap.size w).alloc (Nat.le_refl _) (.cells #[.int .i64 SC, .int .i64 S] 23))
  have C := Lib.hid (Cel.new w (.int .i64 SC) (.int .i64 S) 23)
  have T := Lib.hid (hT.below B.out)
  clear hT
  cases h : (basZ b && basZ o && memZ x && memZ y && (expZ SC && expZ S)) with
  | true =>
    rw [h, if_pos rfl] at hR
    rw [Bool.and_eq_true, Bool.and_eq_true, Bool.and_eq_true, Bool.and_eq_true] at h
    obtain ⟨⟨⟨⟨h1, h2⟩, h3⟩, h4⟩, h5⟩ := h
    rw [h1] at K1
    rw [h2] at K2
    rw [h3] at K3
    rw [h4] at K4
    rw [h5] at K5
    rw [Bool.and_eq_true] at h5
    obtain ⟨b, rfl, hb, -⟩ := basZ_nat h1
    obtain ⟨o, rfl, ho, -⟩ := basZ_nat h2
    obtain ⟨x, rfl, hx⟩ := memZ_nat h3
    obtain ⟨y, rfl, hy⟩ := memZ_nat h4
    obtain ⟨c, rfl, hc⟩ := expZ_nat h5.1
    obtain ⟨s, rfl, hs⟩ := expZ_nat h5.2
    have hb2 : b < 2147483579 := hb.2.1
    have ho2 : o < 2147483579 := ho.2.1
    have hx2 : x < 2147483579 := hx.2.1
    have hy2 : y < 2147483579 := hy.2.1
    unfold eqlC at hR
    simp only [Int.toNat_natCast] at hR
    have P1 := Lib.hid (fun w => gopen_any b x c s w hb2 hx2 hc hs)
    have P2 := Lib.hid (fun w => gopen_any o y c s w ho2 hy2 hc hs)
    have l1 : bck b x c s < 2147483579 := Nat.mod_lt _ (by decide)
    have l2 : bck o y c s < 2147483579 := Nat.mod_lt _ (by decide)
    generalize bck b x c s = y1 at *
    generalize bck o y c s = y2 at *
    have KC := Lib.hid (fun w p b3 cap3 hS3 hT => gchl_any [(b : Int), (x : Int), (o : Int), (y : Int), (y1 : Int), (y2 : Int)] p b3 0 cap3 6 w hS3 (i64s_cons (by omega) (i64s_cons (by omega) (i64s_cons (by omega) (i64s_cons (by omega) (i64s_cons (by omega) (i64s_cons (by omega) i64s_nil)))))) hT)
    have TW := Lib.hid (fun v => sl_six v (b : Int) (x : Int) (o : Int) (y : Int) (y1 : Int) (y2 : Int))
    generalize chl [(b : Int), (x : Int), (o : Int), (y : Int), (y1 : Int), (y2 : Int)] = d at *
    have KH := Lib.hid (fun w => ghas_any c s d w)
    have e1 : ((c : Int) == (d : Int)) = ((d : Int) == (c : Int)) := by
      by_cases h : (d : Int) = (c : Int)
      · rw [h]
      · rw [beq_false_of_ne h, beq_false_of_ne (Ne.symm h)]
    rw [e1] at KH
    clear e1
    obtain ⟨z, hz⟩ : ∃ z, ((d : Int) == (c : Int)) = z := ⟨_, rfl⟩
    rw [hz] at hR KH
    subst hR
    clear h1 h2 h3 h4 h5 hb ho hx hy hz
    go_enter Tryd.func26, Tryd.ntmps26
    go_wp2_with fail
    generalize w.alloc (.cells #[.int .i64 c, .int .i64 s] 23) = W1 at *
    refine (K1.out _).mono ?_
    rintro _ v ⟨rfl, hb⟩
    replace B := Lib.hid (B.out.trans (hb.mono B.out.size))
    replace C := Lib.hid (C.out.below hb)
    replace T := Lib.hid (T.out.below hb)
    clear hb
    go_wp2_with fail
    refine (K2.out _).mono ?_
    rintro _ v ⟨rfl, hb⟩
    replace B := Lib.hid (B.out.trans (hb.mono B.out.size))
    replace C := Lib.hid (C.out.below hb)
    replace T := Lib.hid (T.out.below hb)
    clear hb
    go_wp2_with fail
    refine (K3.out _).mono ?_
    rintro _ v ⟨rfl, hb⟩
    replace B := Lib.hid (B.out.trans (hb.mono B.out.size))
    replace C := Lib.hid (C.out.below hb)
    replace T := Lib.hid (T.out.below hb)
    clear hb
    go_wp2_with fail
    refine (K4.out _).mono ?_
    rintro _ v ⟨rfl, hb⟩
    replace B := Lib.hid (B.out.trans (hb.mono B.out.size))
    replace C := Lib.hid (C.out.below hb)
    replace T := Lib.hid (T.out.below hb)
    clear hb
    obtain ⟨c0, c1, f0, f1⟩ := C.out
    go_wp2_with fail
    clear c0 c1 f0 f1
    refine (K5.out _).mono ?_
    rintro _ v ⟨rfl, hb⟩
    replace B := Lib.hid (B.out.trans (hb.mono B.out.size))
    replace C := Lib.hid (C.out.below hb)
    replace T := Lib.hid (T.out.below hb)
    clear hb
    rename World => W2
    obtain ⟨c0, c1, f0, f1⟩ := C.out
    have Hkd := Lib.hid (Kp.of c0 c1 (World.block_lt_of_cell? _ _ c0) (World.block_lt_of_cell? _ _ c1) (Below.refl W2.heap.size W2).drew)
    go_wp2_with fail
    go_region_held3 (fun w' => w'.cell? ⟨w.heap.size, 0, none⟩ = some (.int .i64 c) ∧ w'.cell? ⟨w.heap.size, 1, none⟩ = some (.int .i64 s) ∧ RowKit.Below W2.heap.size W2 w')
      (first | with_reducible exact Hkd.out | ((with_reducible refine Kp.call ?_ hv4); (with_reducible assumption)) | ((with_reducible refine Kp.call ?_ hv3); (with_reducible assumption)) | ((with_reducible refine Kp.call ?_ hv1); (with_reducible assumption)) | ((with_reducible refine Kp.call ?_ hv2); (with_reducible assumption)) | ((with_reducible refine Kp.alc ?_); (with_reducible assumption)) | (with_reducible assumption))
      (first | (go_at_call 48; (with_reducible show Calls _ _ #[.int .i64 b, .int .i64 x, _] _ _); refine (P1.out _).mono ?_; rintro _ v1 ⟨rfl, hv1⟩) | (go_at_call 48; (with_reducible show Calls _ _ #[.int .i64 o, .int .i64 y, _] _ _); refine (P2.out _).mono ?_; rintro _ v2 ⟨rfl, hv2⟩) | (go_at_call 50; refine (KC.out _ _ _ _ (TW.out _) (T.out.below (‹_ ∧ _ ∧ RowKit.Below W2.heap.size W2 _›).2.2)).mono ?_; rintro _ v3 ⟨rfl, hv3⟩) | (go_at_call 47; refine (KH.out _).mono ?_; rintro _ v4 ⟨rfl, hv4⟩))
    all_goals
      have HBW : Hid (RowKit.Below W2.heap.size W2 v4) := (‹_ ∧ _ ∧ RowKit.Below W2.heap.size W2 v4›).2.2
      go_wp2_with fail
      go_ret2
      exact ⟨rfl, B.out.trans (HBW.out.mono B.out.size)⟩
  | false =>
    rw [h] at hR
    simp only [Bool.false_eq_true, if_false] at hR
    subst hR
    clear T
    generalize basZ b = a1 at *
    generalize basZ o = a2 at *
    generalize memZ x = a3 at *
    generalize memZ y = a4 at *
    generalize (expZ SC && expZ S) = a5 at *
    have e4 : a1 = false ∨ (a1 = true ∧ a2 = false) ∨ (a1 = true ∧ a2 = true ∧ a3 = false) ∨ (a1 = true ∧ a2 = true ∧ a3 = true ∧ a4 = false) ∨ (a1 = true ∧ a2 = true ∧ a3 = true ∧ a4 = true ∧ a5 = false) := by
      cases a1 <;> cases a2 <;> cases a3 <;> cases a4 <;> cases a5 <;> simp at h ⊢
    clear h
    rcases e4 with rfl | ⟨rfl, rfl⟩ | ⟨rfl, rfl, rfl⟩ | ⟨rfl, rfl, rfl, rfl⟩ | ⟨rfl, rfl, rfl, rfl, rfl⟩
    · go_enter Tryd.func26, Tryd.ntmps26
      go_wp2_with fail
      generalize w.alloc (.cells #[.int .i64 SC, .int .i64 S] 23) = W1 at *
      refine (K1.out _).mono ?_
      rintro _ v ⟨rfl, hb⟩
      replace B := Lib.hid (B.out.trans (hb.mono B.out.size))
      replace C := Lib.hid (C.out.below hb)
      clear hb
      obtain ⟨c0, c1, f0, f1⟩ := C.out
      go_wp2_with fail
      go_ret2
      exact ⟨rfl, B.out⟩
    · go_enter Tryd.func26, Tryd.ntmps26
      go_wp2_with fail
      generalize w.alloc (.cells #[.int .i64 SC, .int .i64 S] 23) = W1 at *
      refine (K1.out _).mono ?_
      rintro _ v ⟨rfl, hb⟩
      replace B := Lib.hid (B.out.trans (hb.mono B.out.size))
      replace C := Lib.hid (C.out.below hb)
      clear hb
      go_wp2_with fail
      refine (K2.out _).mono ?_
      rintro _ v ⟨rfl, hb⟩
      replace B := Lib.hid (B.out.trans (hb.mono B.out.size))
      replace C := Lib.hid (C.out.below hb)
      clear hb
      obtain ⟨c0, c1, f0, f1⟩ := C.out
      go_wp2_with fail
      go_ret2
      exact ⟨rfl, B.out⟩
    · go_enter Tryd.func26, Tryd.ntmps26
      go_wp2_with fail
      generalize w.alloc (.cells #[.int .i64 SC, .int .i64 S] 23) = W1 at *
      refine (K1.out _).mono ?_
      rintro _ v ⟨rfl, hb⟩
      replace B := Lib.hid (B.out.trans (hb.mono B.out.size))
      replace C := Lib.hid (C.out.below hb)
      clear hb
      go_wp2_with fail
      refine (K2.out _).mono ?_
      rintro _ v ⟨rfl, hb⟩
      replace B := Lib.hid (B.out.trans (hb.mono B.out.size))
      replace C := Lib.hid (C.out.below hb)
      clear hb
      go_wp2_with fail
      refine (K3.out _).mono ?_
      rintro _ v ⟨rfl, hb⟩
      replace B := Lib.hid (B.out.trans (hb.mono B.out.size))
      replace C := Lib.hid (C.out.below hb)
      clear hb
      obtain ⟨c0, c1, f0, f1⟩ := C.out
      go_wp2_with fail
      go_ret2
      exact ⟨rfl, B.out⟩
    · go_enter Tryd.func26, Tryd.ntmps26
      go_wp2_with fail
      generalize w.alloc (.cells #[.int .i64 SC, .int .i64 S] 23) = W1 at *
      refine (K1.out _).mono ?_
      rintro _ v ⟨rfl, hb⟩
      replace B := Lib.hid (B.out.trans (hb.mono B.out.size))
      replace C := Lib.hid (C.out.below hb)
      clear hb
      go_wp2_with fail
      refine (K2.out _).mono ?_
      rintro _ v ⟨rfl, hb⟩
      replace B := Lib.hid (B.out.trans (hb.mono B.out.size))
      replace C := Lib.hid (C.out.below hb)
      clear hb
      go_wp2_with fail
      refine (K3.out _).mono ?_
      rintro _ v ⟨rfl, hb⟩
      replace B := Lib.hid (B.out.trans (hb.mono B.out.size))
      replace C := Lib.hid (C.out.below hb)
      clear hb
      go_wp2_with fail
      refine (K4.out _).mono ?_
      rintro _ v ⟨rfl, hb⟩
      replace B := Lib.hid (B.out.trans (hb.mono B.out.size))
      replace C := Lib.hid (C.out.below hb)
      clear hb
      obtain ⟨c0, c1, f0, f1⟩ := C.out
      go_wp2_with fail
      go_ret2
      exact ⟨rfl, B.out⟩
    · go_enter Tryd.func26, Tryd.ntmps26
      go_wp2_with fail
      generalize w.alloc (.cells #[.int .i64 SC, .int .i64 S] 23) = W1 at *
      refine (K1.out _).mono ?_
      rintro _ v ⟨rfl, hb⟩
      replace B := Lib.hid (B.out.trans (hb.mono B.out.size))
      replace C := Lib.hid (C.out.below hb)
      clear hb
      go_wp2_with fail
      refine (K2.out _).mono ?_
      rintro _ v ⟨rfl, hb⟩
      replace B := Lib.hid (B.out.trans (hb.mono B.out.size))
      replace C := Lib.hid (C.out.below hb)
      clear hb
      go_wp2_with fail
      refine (K3.out _).mono ?_
      rintro _ v ⟨rfl, hb⟩
      replace B := Lib.hid (B.out.trans (hb.mono B.out.size))
      replace C := Lib.hid (C.out.below hb)
      clear hb
      go_wp2_with fail
      refine (K4.out _).mono ?_
      rintro _ v ⟨rfl, hb⟩
      replace B := Lib.hid (B.out.trans (hb.mono B.out.size))
      replace C := Lib.hid (C.out.below hb)
      clear hb
      obtain ⟨c0, c1, f0, f1⟩ := C.out
      go_wp2_with fail
      refine (K5.out _).mono ?_
      rintro _ v ⟨rfl, hb⟩
      replace B := Lib.hid (B.out.trans (hb.mono B.out.size))
      replace C := Lib.hid (C.out.below hb)
      clear hb
      obtain ⟨c0, c1, f0, f1⟩ := C.out
      go_wp2_with fail
      go_ret2
      exact ⟨rfl, B.out⟩
/-- All contracts of the package. -/
theorem con : Con where
  member := gmember_any
  mul := gmul_any
  exp := gexp_any
  commit := gcommit_any
  sign := gsign_any
  verify := gverify_any
  same := gsame_any
  equal := gequal_any
end Go.Proofs.YtidhhndclkilnaaDoor
