/-
  Contracts of the package: Sign, Verify.
-/
import Derived.Test.YtidhhndclkilnaaDoorGPrgC
namespace Go.Proofs.YtidhhndclkilnaaDoor
open Go.RowKit Dg Gr

set_option maxRecDepth 100000 in
set_option maxHeartbeats 2000000 in
theorem gsign_any (key once : Int) (l : List Int) (p : Option Addr) (b off cap len : Nat) (w : World) (hS : SlF i64v w p b off len l) (hI : I64s l) (hn : len ≤ 900) (hT : Tab w) :
    Calls Tryd.prog 20 #[.int .i64 key, .int .i64 once, .slice p len cap] w fun e w' => e = .returned (.tuple #[.agg #[.int .i64 (sigR key once l).1, .int .i64 (sigR key once l).2.1], .int .i64 (sigR key once l).2.2]) ∧ RowKit.Below w.heap.size w w' := by
  have K1 := Lib.hid (gsecret_any key)
  have K2 := Lib.hid (gsecret_any once)
  obtain ⟨r, hR⟩ : ∃ r, sigR key once l = r := ⟨_, rfl⟩
  rw [hR]
  unfold sigR at hR
  have B1 := Lib.hid ((Below.refl w.heap.size w).alloc (Nat.le_refl _) (.cells #[.int .i64 0, .int .i64 0] 23))
  have C1 := Lib.hid (Cel.new w (.int .i64 0) (.int .i64 0) 23)
  have HS := Lib.hid (hS.alloc (.cells #[.int .i64 0, .int .i64 0] 23))
  have HT := Lib.hid (hT.below B1.out)
  rcases cast_and' hR with ⟨h1, h2, h3⟩ | ⟨h1, h3⟩
  · rw [h1] at K1
    rw [h2] at K2
    obtain ⟨k, rfl, hk1, hk⟩ := secZ_nat h1
    obtain ⟨o, rfl, ho1, ho⟩ := secZ_nat h2
    unfold sigC at h3
    rw [Int.toNat_natCast, Int.toNat_natCast] at h3
    have KO := Lib.hid (fun w => gpower_any 4 o w (by decide) (by omega))
    have KK := Lib.hid (fun w => gpower_any 4 k w (by decide) (by omega))
    have l1 : pw 4 o 2147483579 < 2147483579 := pw_lt (by decide) _ _
    have l2 : pw 4 k 2147483579 < 2147483579 := pw_lt (by decide) _ _
    generalize pw 4 o 2147483579 = x at *
    generalize pw 4 k 2147483579 = y at *
    have lc := chl_lt ((x : Int) :: (y : Int) :: l)
    have KC := Lib.hid (fun w hS hT => gcf_any x y l p b off cap len w (by omega) (by omega) hS hI hn hT)
    obtain ⟨c, hc⟩ : ∃ c, c = chl ((x : Int) :: (y : Int) :: l) := ⟨_, rfl⟩
    rw [← hc] at lc KC h3
    have KA := Lib.hid (fun w => ganswer_any c k o w lc hk ho)
    subst h3
    clear hR h1 h2 hS hI hT hc
    generalize ((o : Int) + (c : Int) * (k : Int)) % 1073741789 = s at *
    go_enter Tryd.func20, Tryd.ntmps20
    go_wp2_with fail
    generalize w.alloc (.cells #[.int .i64 0, .int .i64 0] 23) = W1 at *
    refine (K1.out _).mono ?_
    rintro _ _ ⟨rfl, rfl⟩
    go_wp2_with fail
    refine (K2.out _).mono ?_
    rintro _ _ ⟨rfl, rfl⟩
    go_wp2_with fail
    refine (KO.out _).mono ?_
    rintro _ w2 ⟨rfl, hb2⟩
    have B2 := Lib.hid (B1.out.trans (hb2.mono B1.out.size))
    have C2 := Lib.hid (C1.out.below hb2)
    have S2 := Lib.hid (HS.out.bel hb2)
    have T2 := Lib.hid (HT.out.below hb2)
    clear hb2 B1 C1 HS HT
    go_wp2_with fail
    refine (KK.out _).mono ?_
    rintro _ w3 ⟨rfl, hb3⟩
    have B3 := Lib.hid (B2.out.trans (hb3.mono B2.out.size))
    have C3 := Lib.hid (C2.out.below hb3)
    have S3 := Lib.hid (S2.out.bel hb3)
    have T3 := Lib.hid (T2.out.below hb3)
    clear hb3 B2 C2 S2 T2
    go_wp2_with fail
    refine (KC.out _ S3.out T3.out).mono ?_
    rintro _ w4 ⟨rfl, hb4⟩
    have B4 := Lib.hid (B3.out.trans (hb4.mono B3.out.size))
    have C4 := Lib.hid (C3.out.below hb4)
    clear hb4 B3 C3 S3 T3
    go_wp2_with fail
    refine (KA.out _).mono ?_
    rintro _ w5 ⟨rfl, hb5⟩
    have B5 := Lib.hid (B4.out.trans (hb5.mono B4.out.size))
    have C5 := Lib.hid (C4.out.below hb5)
    clear hb5 B4 C4
    obtain ⟨c0, c1, f0, f1⟩ := C5.out
    go_wp2_with fail
    exact bodyPost_ret (v := .tuple #[.agg #[.int .i64 c, .int .i64 s], .int .i64 0]) (by simp [results, Tryd.results20, go_sem, c0, c1]) rfl ⟨rfl, (by repeat' (first | (with_reducible exact B5.out) | (with_reducible refine Below.setCell ?_ ?_ _) | (with_reducible refine Below.alloc ?_ ?_ _) | (with_reducible refine Below.drew ?_) | (with_reducible refine below_drewN ?_ _) | (with_reducible exact Below.refl _ _) | omega | (simp; done) | (simp; omega)))⟩
  · generalize secZ key = x at *
    generalize secZ once = y at *
    subst h3
    clear hR hS hI hT
    cases x
    · go_enter Tryd.func20, Tryd.ntmps20
      go_wp2_with fail
      generalize w.alloc (.cells #[.int .i64 0, .int .i64 0] 23) = W1 at *
      refine (K1.out _).mono ?_
      rintro _ _ ⟨rfl, rfl⟩
      obtain ⟨c0, c1, f0, f1⟩ := C1.out
      go_wp2_with fail
      exact bodyPost_ret (v := .tuple #[.agg #[.int .i64 0, .int .i64 0], .int .i64 1]) (by simp [results, Tryd.results20, go_sem, c0, c1]) rfl ⟨rfl, (by repeat' (first | (with_reducible exact B1.out) | (with_reducible refine Below.setCell ?_ ?_ _) | (with_reducible refine Below.alloc ?_ ?_ _) | (with_reducible refine Below.drew ?_) | (with_reducible refine below_drewN ?_ _) | (with_reducible exact Below.refl _ _) | omega | (simp; done) | (simp; omega)))⟩
    · cases y
      · go_enter Tryd.func20, Tryd.ntmps20
        go_wp2_with fail
        generalize w.alloc (.cells #[.int .i64 0, .int .i64 0] 23) = W1 at *
        refine (K1.out _).mono ?_
        rintro _ _ ⟨rfl, rfl⟩
        go_wp2_with fail
        refine (K2.out _).mono ?_
        rintro _ _ ⟨rfl, rfl⟩
        obtain ⟨c0, c1, f0, f1⟩ := C1.out
        go_wp2_with fail
        exact bodyPost_ret (v := .tuple #[.agg #[.int .i64 0, .int .i64 0], .int .i64 1]) (by simp [results, Tryd.results20, go_sem, c0, c1]) rfl ⟨rfl, (by repeat' (first | (with_reducible exact B1.out) | (with_reducible refine Below.setCell ?_ ?_ _) | (with_reducible refine Below.alloc ?_ ?_ _) | (with_reducible refine Below.drew ?_) | (with_reducible refine below_drewN ?_ _) | (with_reducible exact Below.refl _ _) | omega | (simp; done) | (simp; omega)))⟩
      · cases h1
set_option maxRecDepth 100000 in
set_option maxHeartbeats 2000000 in
theorem gverify_any (pub C S : Int) (l : List Int) (p : Option Addr) (b off cap len : Nat) (w : World) (hS : SlF i64v w p b off len l) (hI : I64s l) (hn : len ≤ 900) (hT : Tab w) :
    Calls Tryd.prog 22 #[.int .i64 pub, .agg #[.int .i64 C, .int .i64 S], .slice p len cap] w fun e w' => e = .returned (.tuple #[.bool (verR pub C S l).1, .int .i64 (verR pub C S l).2]) ∧ RowKit.Below w.heap.size w w' := by
  have K1 := Lib.hid (gmember_any pub)
  have K2 := Lib.hid (gare_any C S)
  obtain ⟨r, hR⟩ : ∃ r, verR pub C S l = r := ⟨_, rfl⟩
  rw [hR]
  unfold verR at hR
  have B1 := Lib.hid ((Below.refl w.heap.size w).alloc (Nat.le_refl _) (.cells #[.int .i64 C, .int .i64 S] 23))
  have C1 := Lib.hid (Cel.new w (.int .i64 C) (.int .i64 S) 23)
  have HS := Lib.hid (hS.alloc (.cells #[.int .i64 C, .int .i64 S] 23))
  have HT := Lib.hid (hT.below B1.out)
  rcases cast_andb hR with ⟨h1, h2, h3⟩ | ⟨h1, h3⟩
  · rw [h1] at K1
    rw [h2] at K2
    obtain ⟨k, rfl, hk⟩ := memZ_nat h1
    rw [Bool.and_eq_true] at h2
    obtain ⟨c, rfl, hc⟩ := expZ_nat h2.1
    obtain ⟨s, rfl, hs⟩ := expZ_nat h2.2
    rw [Int.toNat_natCast, Int.toNat_natCast, Int.toNat_natCast] at h3
    have KK := Lib.hid (fun w => gopen_any 4 k c s w (by decide) hk.2.1 hc hs)
    have l1 : bck 4 k c s < 2147483579 := Nat.mod_lt _ (by decide)
    have l2 : k < 2147483579 := hk.2.1
    generalize bck 4 k c s = x at *
    have KC := Lib.hid (fun w hS hT => gcf_any x k l p b off cap len w (by omega) (by omega) hS hI hn hT)
    obtain ⟨d, hd⟩ : ∃ d, d = chl ((x : Int) :: (k : Int) :: l) := ⟨_, rfl⟩
    rw [← hd] at KC h3
    have KH := Lib.hid (fun w => ghas_any c s d w)
    have e1 : ((c : Int) == (d : Int)) = decide ((d : Int) = (c : Int)) := by
      by_cases h : (d : Int) = (c : Int)
      · rw [decide_eq_true h, h]; simp
      · rw [decide_eq_false h]; simp; omega
    rw [e1] at KH
    generalize decide ((d : Int) = (c : Int)) = z at *
    subst h3
    clear hR h1 h2 hS hI hT hd hk e1
    go_enter Tryd.func22, Tryd.ntmps22
    go_wp2_with fail
    generalize w.alloc (.cells #[.int .i64 c, .int .i64 s] 23) = W1 at *
    refine (K1.out _).mono ?_
    rintro _ W2 ⟨rfl, hb2⟩
    have B2 := Lib.hid (B1.out.trans (hb2.mono B1.out.size))
    have C2 := Lib.hid (C1.out.below hb2)
    have S2 := Lib.hid (HS.out.bel hb2)
    have T2 := Lib.hid (HT.out.below hb2)
    clear hb2 B1 C1 HS HT
    obtain ⟨c0, c1, f0, f1⟩ := C2.out
    go_wp2_with fail
    refine (K2.out _).mono ?_
    rintro _ W3 ⟨rfl, hb3⟩
    have B3 := Lib.hid (B2.out.trans (hb3.mono B2.out.size))
    have C3 := Lib.hid (C2.out.below hb3)
    have S3 := Lib.hid (S2.out.bel hb3)
    have T3 := Lib.hid (T2.out.below hb3)
    clear hb3 B2 C2 S2 T2 c0 c1 f0 f1
    obtain ⟨c0, c1, f0, f1⟩ := C3.out
    have Hkd := Lib.hid (Kp.of c0 c1 (World.block_lt_of_cell? _ _ c0) (World.block_lt_of_cell? _ _ c1) (Below.refl W3.heap.size W3).drew)
    go_wp2_with fail
    go_region_held3 (fun w' => w'.cell? ⟨w.heap.size, 0, none⟩ = some (.int .i64 c) ∧ w'.cell? ⟨w.heap.size, 1, none⟩ = some (.int .i64 s) ∧ RowKit.Below W3.heap.size W3 w')
      (first | with_reducible exact Hkd.out | ((with_reducible refine Kp.call ?_ hv1); (with_reducible assumption)) | ((with_reducible refine Kp.call ?_ hv2); (with_reducible assumption)) | ((with_reducible refine Kp.call ?_ hv3); (with_reducible assumption)) | (with_reducible assumption))
      (first | (go_at_call 48; refine (KK.out _).mono ?_; rintro _ v1 ⟨rfl, hv1⟩) | (go_at_call 42; refine (KC.out _ (S3.out.bel ((Below.refl W3.heap.size W3).drew.trans hv1)) (T3.out.below ((Below.refl W3.heap.size W3).drew.trans hv1))).mono ?_; rintro _ v2 ⟨rfl, hv2⟩) | (go_at_call 47; refine (KH.out _).mono ?_; rintro _ v3 ⟨rfl, hv3⟩))
    all_goals
      have HBW : Hid (RowKit.Below W3.heap.size W3 v3) := (‹_ ∧ _ ∧ RowKit.Below W3.heap.size W3 v3›).2.2
      go_wp2_with fail
      go_ret2
      exact ⟨rfl, B3.out.trans (HBW.out.mono B3.out.size)⟩
  · generalize memZ pub = x at *
    generalize (expZ C && expZ S) = y at *
    subst h3
    clear hR hS hI hT HS HT
    cases x
    · go_enter Tryd.func22, Tryd.ntmps22
      go_wp2_with fail
      generalize w.alloc (.cells #[.int .i64 C, .int .i64 S] 23) = W1 at *
      refine (K1.out _).mono ?_
      rintro _ W2 ⟨rfl, hb2⟩
      have B2 := Lib.hid (B1.out.trans (hb2.mono B1.out.size))
      clear hb2
      go_wp2_with fail
      go_ret2
      exact ⟨rfl, B2.out⟩
    · cases y
      · go_enter Tryd.func22, Tryd.ntmps22
        go_wp2_with fail
        generalize w.alloc (.cells #[.int .i64 C, .int .i64 S] 23) = W1 at *
        refine (K1.out _).mono ?_
        rintro _ W2 ⟨rfl, hb2⟩
        have B2 := Lib.hid (B1.out.trans (hb2.mono B1.out.size))
        have C2 := Lib.hid (C1.out.below hb2)
        clear hb2 C1
        obtain ⟨c0, c1, f0, f1⟩ := C2.out
        go_wp2_with fail
        refine (K2.out _).mono ?_
        rintro _ W3 ⟨rfl, hb3⟩
        have B3 := Lib.hid (B2.out.trans (hb3.mono B2.out.size))
        go_wp2_with fail
        go_ret2
        exact ⟨rfl, B3.out⟩
      · cases h1
end Go.Proofs.YtidhhndclkilnaaDoor
