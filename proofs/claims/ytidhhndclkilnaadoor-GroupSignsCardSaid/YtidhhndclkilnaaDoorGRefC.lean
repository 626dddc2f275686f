/-
  Contracts of the reference: Sign, Verify.
-/
import Derived.Test.YtidhhndclkilnaaDoorGRefB
namespace Go.Proofs.YtidhhndclkilnaaDoor
open Go.RowKit Dg Gr

/-- A struct of two numbers that may be written, at the head of a block. -/
structure Cel (w : World) (b : Nat) (x y : Value) : Prop where
  c0 : w.cell? ⟨b, 0, none⟩ = some x
  c1 : w.cell? ⟨b, 1, none⟩ = some y
  f0 : w.frozen? ⟨b, 0, none⟩ = false
  f1 : w.frozen? ⟨b, 1, none⟩ = false
theorem Cel.new (w : World) (x y : Value) (T : Nat) : Cel (w.alloc (.cells #[x, y] T)) w.heap.size x y := ⟨by simp, by simp, by simp, by simp⟩
theorem Cel.below {w w1 : World} {b : Nat} {x y : Value} (h : Cel w b x y) (hB : RowKit.Below w.heap.size w w1) : Cel w1 b x y := by
  have hb : b < w.heap.size := World.block_lt_of_cell? _ _ h.c0
  exact ⟨(hB.cell (p := ⟨b, 0, none⟩) hb).trans h.c0, (hB.cell (p := ⟨b, 1, none⟩) hb).trans h.c1, (hB.frozen (p := ⟨b, 0, none⟩) hb).trans h.f0, (hB.frozen (p := ⟨b, 1, none⟩) hb).trans h.f1⟩
theorem Cel.drewN {w : World} {b : Nat} {x y : Value} (h : Cel w b x y) (n : Nat) : Cel (w.drewN n) b x y := h.below (below_drewN (Below.refl _ _) n)
theorem sl_two (w : World) (x y : Int) : SlF i64v (w.alloc (.cells #[.int .i64 x, .int .i64 y] 3)) (some ⟨w.heap.size, 0, none⟩) w.heap.size 0 2 [x, y] :=
  ⟨rfl, fun _ => rfl, fun k hk => by
    simp only [List.length_cons, List.length_nil] at hk
    have : k = 0 ∨ k = 1 := by omega
    rcases this with rfl | rfl <;> simp [i64v], fun _ => by simp, by omega⟩
theorem i64s_cons {x : Int} {l : List Int} (hx : -9223372036854775808 ≤ x ∧ x ≤ 9223372036854775807) (h : I64s l) : I64s (x :: l) := fun y hy => by
  rw [List.mem_cons] at hy
  rcases hy with rfl | hy
  · exact hx
  · exact h y hy
/-- What Sign returns. -/
noncomputable def sigC (key once : Int) (l : List Int) : Nat := chl ((pw 4 once.toNat 2147483579 : Nat) :: (pw 4 key.toNat 2147483579 : Nat) :: l)
noncomputable def sigR (key once : Int) (l : List Int) : Int × Int × Int :=
  if secZ key = true ∧ secZ once = true then ((sigC key once l : Nat), (once + (sigC key once l : Nat) * key) % 1073741789, 0) else (0, 0, 1)
theorem cast_and' {a b : Bool} {x y : Int × Int × Int} {z : Int × Int × Int} (h : (if a = true ∧ b = true then x else y) = z) : (a = true ∧ b = true ∧ x = z) ∨ ((a && b) = false ∧ y = z) := by
  cases a <;> cases b <;> simp at h ⊢ <;> exact h
set_option maxRecDepth 100000 in
set_option maxHeartbeats 2000000 in
theorem rsign_any (key once : Int) (l : List Int) (p : Option Addr) (b off cap len : Nat) (w : World) (hS : SlF i64v w p b off len l) (hI : I64s l) (hn : len ≤ 900) :
    Calls Tryd.prog 21 #[.int .i64 key, .int .i64 once, .slice p len cap] w fun e w' => e = .returned (.tuple #[.agg #[.int .i64 (sigR key once l).1, .int .i64 (sigR key once l).2.1], .int .i64 (sigR key once l).2.2]) ∧ RowKit.Below w.heap.size w w' := by
  have K1 := Lib.hid (rsecret_any key)
  have K2 := Lib.hid (rsecret_any once)
  obtain ⟨r, hR⟩ : ∃ r, sigR key once l = r := ⟨_, rfl⟩
  rw [hR]
  unfold sigR at hR
  have B1 := Lib.hid ((Below.refl w.heap.size w).alloc (Nat.le_refl _) (.cells #[.int .i64 0, .int .i64 0] 23))
  have C1 := Lib.hid (Cel.new w (.int .i64 0) (.int .i64 0) 23)
  have HS := Lib.hid (hS.alloc (.cells #[.int .i64 0, .int .i64 0] 23))
  rcases cast_and' hR with ⟨h1, h2, h3⟩ | ⟨h1, h3⟩
  · rw [h1] at K1
    rw [h2] at K2
    obtain ⟨k, rfl, hk1, hk⟩ := secZ_nat h1
    obtain ⟨o, rfl, ho1, ho⟩ := secZ_nat h2
    unfold sigC at h3
    rw [Int.toNat_natCast, Int.toNat_natCast] at h3
    have KO := Lib.hid (fun w => rpower_any 4 o 2147483579 w (by decide) (by decide) (by decide) (by omega))
    have KK := Lib.hid (fun w => rpower_any 4 k 2147483579 w (by decide) (by decide) (by decide) (by omega))
    have l1 : pw 4 o 2147483579 < 2147483579 := pw_lt (by decide) _ _
    have l2 : pw 4 k 2147483579 < 2147483579 := pw_lt (by decide) _ _
    generalize pw 4 o 2147483579 = x at *
    generalize pw 4 k 2147483579 = y at *
    have lc := chl_lt ((x : Int) :: (y : Int) :: l)
    have KB := Lib.hid (fun w p2 b2 off2 cap2 hA hS2 => behind_any [(x : Int), (y : Int)] l p2 p b2 off2 cap2 2 b off cap len w hA hS2 (by decide) (by omega))
    have KC := Lib.hid (fun w q b3 cap3 N (hN : (([(x : Int), (y : Int)] ++ l).length = N)) hS3 (hNN : N ≤ 1000) => rchl_any ((x : Int) :: (y : Int) :: l) q b3 0 cap3 N w hS3 (i64s_cons (by omega) (i64s_cons (by omega) hI)) hNN)
    have hN : ([(x : Int), (y : Int)] ++ l).length = len + 2 := by rw [List.length_append, hS.ln]; simp; omega
    obtain ⟨c, hc⟩ : ∃ c, c = chl ((x : Int) :: (y : Int) :: l) := ⟨_, rfl⟩
    rw [← hc] at lc KC h3
    have zc : c * k ≤ 4611686018427387904 := by
      have h1 : c * k ≤ 2147483648 * 2147483648 := Nat.mul_le_mul (by omega) (by omega)
      omega
    have z1 : (c : Int) * (k : Int) ≤ 4611686018427387904 := by rw [← Int.natCast_mul]; omega
    have z0 : 0 ≤ (c : Int) * (k : Int) := Int.mul_nonneg (by omega) (by omega)
    have hw : IntKind.i64.wrap ((c : Int) * (k : Int)) = (c : Int) * (k : Int) := IntWalk.i64_in _ (by omega)
    have hw2 : IntKind.i64.wrap ((o : Int) + (c : Int) * (k : Int)) = (o : Int) + (c : Int) * (k : Int) := IntWalk.i64_in _ (by omega)
    have h00 : 0 ≤ (o : Int) + (c : Int) * (k : Int) := by omega
    subst h3
    clear hR h1 h2 hS hI hc zc
    go_enter Tryd.func21, Tryd.ntmps21
    go_wp2_with fail
    generalize w.alloc (.cells #[.int .i64 0, .int .i64 0] 23) = W1 at *
    refine (K1.out _).mono ?_
    rintro _ _ ⟨rfl, rfl⟩
    go_wp2_with fail
    refine (K2.out _).mono ?_
    rintro _ _ ⟨rfl, rfl⟩
    go_wp2_with fail
    refine (KO.out _).mono ?_
    rintro _ _ ⟨rfl, rfl⟩
    go_wp2_with fail
    refine (KK.out _).mono ?_
    rintro _ _ ⟨rfl, rfl⟩
    go_wp2_with fail
    rename World => W1
    have BA := Lib.hid (B1.out.alloc B1.out.size (.cells #[.int .i64 x, .int .i64 y] 3))
    have CA := Lib.hid (C1.out.below ((Below.refl W1.heap.size W1).alloc (Nat.le_refl _) (.cells #[.int .i64 x, .int .i64 y] 3)))
    refine (KB.out _ _ _ _ _ (sl_two W1 x y) (HS.out.alloc _)).mono ?_
    rintro _ w2 ⟨q, b3, cap3, rfl, s3, hc3, hb3⟩
    have B2 := Lib.hid (BA.out.trans (hb3.mono BA.out.size))
    have C2 := Lib.hid (CA.out.below hb3)
    rw [hN] at s3 ⊢
    have S3 := Lib.hid s3
    clear hc3 hb3 s3 BA CA B1 C1
    go_wp2_with fail
    refine (KC.out _ q b3 cap3 (len + 2) hN S3.out (by omega)).mono ?_
    rintro _ w4 ⟨rfl, hb4⟩
    have B4 := Lib.hid (B2.out.trans (hb4.mono B2.out.size))
    have C4 := Lib.hid (C2.out.below hb4)
    obtain ⟨c0, c1, f0, f1⟩ := C4.out
    clear hb4 B2 C2 S3
    go_wp2_with fail
    exact bodyPost_ret (v := .tuple #[.agg #[.int .i64 c, .int .i64 (((o : Int) + (c : Int) * (k : Int)) % 1073741789)], .int .i64 0]) (by simp [results, Tryd.results21, go_sem, c0, c1]) rfl ⟨rfl, (by repeat' (first | (with_reducible exact B4.out) | (with_reducible refine Below.setCell ?_ ?_ _) | (with_reducible refine Below.alloc ?_ ?_ _) | (with_reducible refine Below.drew ?_) | (with_reducible refine below_drewN ?_ _) | (with_reducible exact Below.refl _ _) | omega | (simp; done) | (simp; omega)))⟩
  · generalize secZ key = x at *
    generalize secZ once = y at *
    subst h3
    clear hR hS hI
    cases x <;> cases y
    all_goals first | (cases h1; done) | skip
    all_goals
      clear h1
      go_enter Tryd.func21, Tryd.ntmps21
      go_wp2_with fail
      generalize w.alloc (.cells #[.int .i64 0, .int .i64 0] 23) = W1 at *
      refine (K1.out _).mono ?_
      rintro _ _ ⟨rfl, rfl⟩
      go_wp2_with fail
      refine (K2.out _).mono ?_
      rintro _ _ ⟨rfl, rfl⟩
      obtain ⟨c0, c1, f0, f1⟩ := C1.out
      go_wp2_with fail
      exact bodyPost_ret (v := .tuple #[.agg #[.int .i64 0, .int .i64 0], .int .i64 1]) (by simp [results, Tryd.results21, go_sem, c0, c1]) rfl ⟨rfl, (by repeat' (first | (with_reducible exact B1.out) | (with_reducible refine Below.setCell ?_ ?_ _) | (with_reducible refine Below.alloc ?_ ?_ _) | (with_reducible refine Below.drew ?_) | (with_reducible refine below_drewN ?_ _) | (with_reducible exact Below.refl _ _) | omega | (simp; done) | (simp; omega)))⟩
end Go.Proofs.YtidhhndclkilnaaDoor
