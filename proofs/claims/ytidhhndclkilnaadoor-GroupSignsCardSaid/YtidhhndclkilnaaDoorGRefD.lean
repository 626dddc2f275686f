/-
  Contracts of the reference: Verify.
-/
import Derived.Test.YtidhhndclkilnaaDoorGRefC
import Derived.Deep.RegionHeld3
namespace Go.Proofs.YtidhhndclkilnaaDoor
open Go.RowKit Dg Gr

/-- What Verify returns. -/
noncomputable def verR (pub C S : Int) (l : List Int) : Bool × Int :=
  if memZ pub = true ∧ (expZ C && expZ S) = true then (decide (((chl ((bck 4 pub.toNat C.toNat S.toNat : Nat) :: pub :: l) : Nat) : Int) = C), 0) else (false, 1)
theorem cast_andb {a b : Bool} {x y z : Bool × Int} (h : (if a = true ∧ b = true then x else y) = z) : (a = true ∧ b = true ∧ x = z) ∨ ((a && b) = false ∧ y = z) := by
  cases a <;> cases b <;> simp at h ⊢ <;> exact h
section
variable {z w v : World} {a1 a2 : Addr} {x1 x2 : Value}
theorem Kp.of (h1 : z.cell? a1 = some x1) (h2 : z.cell? a2 = some x2) (b1 : a1.block < z.heap.size) (b2 : a2.block < z.heap.size) (hb : RowKit.Below z.heap.size z w) : w.cell? a1 = some x1 ∧ w.cell? a2 = some x2 ∧ RowKit.Below z.heap.size z w :=
  ⟨(hb.cell b1).trans h1, (hb.cell b2).trans h2, hb⟩
theorem Kp.call (h : w.cell? a1 = some x1 ∧ w.cell? a2 = some x2 ∧ RowKit.Below z.heap.size z w) (hb : RowKit.Below w.heap.size w v) : v.cell? a1 = some x1 ∧ v.cell? a2 = some x2 ∧ RowKit.Below z.heap.size z v :=
  ⟨(hb.cell (World.block_lt_of_cell? _ _ h.1)).trans h.1, (hb.cell (World.block_lt_of_cell? _ _ h.2.1)).trans h.2.1, h.2.2.trans (hb.mono h.2.2.size)⟩
theorem Kp.alc {o : Obj} (h : w.cell? a1 = some x1 ∧ w.cell? a2 = some x2 ∧ RowKit.Below z.heap.size z w) : (w.alloc o).cell? a1 = some x1 ∧ (w.alloc o).cell? a2 = some x2 ∧ RowKit.Below z.heap.size z (w.alloc o) :=
  Kp.call h ((Below.refl _ _).alloc (Nat.le_refl _) o)
end
set_option maxRecDepth 100000 in
set_option maxHeartbeats 2000000 in
theorem rverify_any (pub C S : Int) (l : List Int) (p : Option Addr) (b off cap len : Nat) (w : World) (hS : SlF i64v w p b off len l) (hI : I64s l) (hn : len ≤ 900) :
    Calls Tryd.prog 23 #[.int .i64 pub, .agg #[.int .i64 C, .int .i64 S], .slice p len cap] w fun e w' => e = .returned (.tuple #[.bool (verR pub C S l).1, .int .i64 (verR pub C S l).2]) ∧ RowKit.Below w.heap.size w w' := by
  have K1 := Lib.hid (rmember_any pub)
  have K2 := Lib.hid (rform_any C S)
  obtain ⟨r, hR⟩ : ∃ r, verR pub C S l = r := ⟨_, rfl⟩
  rw [hR]
  unfold verR at hR
  have B1 := Lib.hid ((Below.refl w.heap.size w).alloc (Nat.le_refl _) (.cells #[.int .i64 C, .int .i64 S] 23))
  have C1 := Lib.hid (Cel.new w (.int .i64 C) (.int .i64 S) 23)
  have HS := Lib.hid (hS.alloc (.cells #[.int .i64 C, .int .i64 S] 23))
  rcases cast_andb hR with ⟨h1, h2, h3⟩ | ⟨h1, h3⟩
  · rw [h1] at K1
    rw [h2] at K2
    obtain ⟨k, rfl, hk⟩ := memZ_nat h1
    rw [Bool.and_eq_true] at h2
    obtain ⟨c, rfl, hc⟩ := expZ_nat h2.1
    obtain ⟨s, rfl, hs⟩ := expZ_nat h2.2
    rw [Int.toNat_natCast, Int.toNat_natCast, Int.toNat_natCast] at h3
    have KK := Lib.hid (fun w => rback_any 4 k c s w (by decide) hk.2.1 hc hs)
    have l1 : bck 4 k c s < 2147483579 := Nat.mod_lt _ (by decide)
    have l2 : k < 2147483579 := hk.2.1
    generalize bck 4 k c s = x at *
    have lc := chl_lt ((x : Int) :: (k : Int) :: l)
    have KB := Lib.hid (fun w p2 b2 off2 cap2 hA hS2 => behind_any [(x : Int), (k : Int)] l p2 p b2 off2 cap2 2 b off cap len w hA hS2 (by decide) (by omega))
    have KC := Lib.hid (fun w q b3 cap3 N (hN : (([(x : Int), (k : Int)] ++ l).length = N)) hS3 (hNN : N ≤ 1000) => rchl_any ((x : Int) :: (k : Int) :: l) q b3 0 cap3 N w hS3 (i64s_cons (by omega) (i64s_cons (by omega) hI)) hNN)
    have hN : ([(x : Int), (k : Int)] ++ l).length = len + 2 := by rw [List.length_append, hS.ln]; simp; omega
    obtain ⟨d, hd⟩ : ∃ d, d = chl ((x : Int) :: (k : Int) :: l) := ⟨_, rfl⟩
    rw [← hd] at lc KC h3
    have e1 : ((d : Int) == (c : Int)) = decide ((d : Int) = (c : Int)) := by by_cases h : (d : Int) = (c : Int) <;> simp [h]
    generalize decide ((d : Int) = (c : Int)) = z at *
    subst h3
    clear hR h1 h2 hS hI hd hk
    go_enter Tryd.func23, Tryd.ntmps23
    go_wp2_with fail
    generalize w.alloc (.cells #[.int .i64 c, .int .i64 s] 23) = W1 at *
    refine (K1.out _).mono ?_
    rintro _ _ ⟨rfl, rfl⟩
    rename World => W1
    obtain ⟨c0, c1, f0, f1⟩ := C1.out
    go_wp2_with fail
    refine (K2.out _).mono ?_
    rintro _ W2 ⟨rfl, hb2⟩
    have B2 := Lib.hid (B1.out.trans (hb2.mono B1.out.size))
    have C2 := Lib.hid (C1.out.below hb2)
    have S2 := Lib.hid (HS.out.bel hb2)
    clear hb2 B1 C1 HS c0 c1 f0 f1
    obtain ⟨c0, c1, f0, f1⟩ := C2.out
    have Hkd := Lib.hid (Kp.of c0 c1 (World.block_lt_of_cell? _ _ c0) (World.block_lt_of_cell? _ _ c1) (Below.refl W2.heap.size W2).drew)
    have TW := Lib.hid (fun v : World => sl_two v x k)
    go_wp2_with fail
    go_region_held3 (fun w' => w'.cell? ⟨w.heap.size, 0, none⟩ = some (.int .i64 c) ∧ w'.cell? ⟨w.heap.size, 1, none⟩ = some (.int .i64 s) ∧ RowKit.Below W2.heap.size W2 w')
      (first | with_reducible exact Hkd.out | ((with_reducible refine Kp.call ?_ hv1); (with_reducible assumption)) | ((with_reducible refine Kp.call ?_ hv2); (with_reducible assumption)) | ((with_reducible refine Kp.call ?_ hv3); (with_reducible assumption)) | ((with_reducible refine Kp.alc ?_); (with_reducible assumption)))
      (first | (go_at_call 33; refine (KK.out _).mono ?_; rintro _ v1 ⟨rfl, hv1⟩) | (go_at_call 45; refine (KB.out _ _ _ _ _ (TW.out _) ((S2.out.bel ((Below.refl W2.heap.size W2).drew.trans hv1)).alloc _)).mono ?_; rintro _ v2 ⟨q, b3, cap3, rfl, s3, hc3, hv2⟩; rw [hN] at s3 ⊢) | (go_at_call 34; refine (KC.out _ q b3 cap3 (len + 2) hN s3 (by omega)).mono ?_; rintro _ v3 ⟨rfl, hv3⟩))
    have HBW : Hid (RowKit.Below W2.heap.size W2 v3) := (‹_ ∧ _ ∧ RowKit.Below W2.heap.size W2 v3›).2.2
    go_wp2_with fail
    go_ret2
    exact ⟨rfl, B2.out.trans (HBW.out.mono B2.out.size)⟩
  · generalize memZ pub = x at *
    generalize (expZ C && expZ S) = y at *
    subst h3
    clear hR hS hI
    cases x <;> cases y
    all_goals first | (cases h1; done) | skip
    all_goals
      clear h1
      go_enter Tryd.func23, Tryd.ntmps23
      go_wp2_with fail
      generalize w.alloc (.cells #[.int .i64 C, .int .i64 S] 23) = W1 at *
      refine (K1.out _).mono ?_
      rintro _ _ ⟨rfl, rfl⟩
      rename World => W1
      obtain ⟨c0, c1, f0, f1⟩ := C1.out
      go_wp2_with fail
      refine (K2.out _).mono ?_
      rintro _ W2 ⟨rfl, hb2⟩
      have B2 := Lib.hid (B1.out.trans (hb2.mono B1.out.size))
      go_wp2_with fail
      go_ret2
      exact ⟨rfl, B2.out⟩
end Go.Proofs.YtidhhndclkilnaaDoor
