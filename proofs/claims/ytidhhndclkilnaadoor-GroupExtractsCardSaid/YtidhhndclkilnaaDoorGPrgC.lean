/-
  Contracts of the package: challengeFor.
-/
import Derived.Test.YtidhhndclkilnaaDoorGPrgB
namespace Go.Proofs.YtidhhndclkilnaaDoor
open Go.RowKit Dg Gr

set_option maxRecDepth 100000 in
set_option maxHeartbeats 600000 in
theorem gcf_any (x y : Int) (l : List Int) (p : Option Addr) (b off cap len : Nat) (w : World) (hx : -9223372036854775808 ≤ x ∧ x ≤ 9223372036854775807) (hy : -9223372036854775808 ≤ y ∧ y ≤ 9223372036854775807) (hS : SlF i64v w p b off len l) (hI : I64s l) (hn : len ≤ 900) (hT : Tab w) :
    Calls Tryd.prog 42 #[.int .i64 x, .int .i64 y, .slice p len cap] w fun e w' => e = .returned (.int .i64 (chl (x :: y :: l) : Nat)) ∧ RowKit.Below w.heap.size w w' := by
  have HN : Hid (([x, y] ++ l).length = len + 2) := by show _ = _; rw [List.length_append, hS.ln]; simp; omega
  obtain ⟨W1, hW1⟩ : ∃ W1, W1 = w.alloc (.cells #[.int .i64 x, .int .i64 y] 3) := ⟨_, rfl⟩
  obtain ⟨W2, hW2⟩ : ∃ W2, W2 = W1.alloc (.cells #[.slice (some ⟨w.heap.size, 0, none⟩) 2 2, .slice p len cap] 24) := ⟨_, rfl⟩
  have hs1 : W1.heap.size = w.heap.size + 1 := by rw [hW1]; simp
  have B2 : Hid (RowKit.Below w.heap.size w W2) := by
    show RowKit.Below _ _ _
    rw [hW2, hW1]; exact ((Below.refl w.heap.size w).alloc (Nat.le_refl _) _).alloc (by simp) _
  have KB : Hid (Calls Tryd.prog 53 #[.slice (some ⟨W1.heap.size, 0, none⟩) 2 2] W2 (OutI ([x, y] ++ l) W2)) :=
    gconcat_any [x, y] l (some ⟨w.heap.size, 0, none⟩) p W1.heap.size w.heap.size 0 2 2 b off cap len W2 (by rw [hW2]; simp) (by rw [hW2]; simp)
      (by rw [hW2, hW1]; exact (sl_two w x y).alloc _) (by rw [hW2, hW1]; exact (hS.alloc _).alloc _) (by decide) (by decide) (by omega)
  rw [hs1] at KB
  have KC := Lib.hid (fun w q b3 cap3 hS3 hT => gchl_any (x :: y :: l) q b3 0 cap3 (len + 2) w hS3 (i64s_cons hx (i64s_cons hy hI)) hT)
  have HT := Lib.hid (hT.below B2.out)
  generalize chl (x :: y :: l) = c at *
  clear hS hI hT hx hy
  go_enter Tryd.func42, Tryd.ntmps42
  go_wp2_with fail
  rw [← hW1, ← hW2]
  refine KB.out.mono ?_
  rintro _ w3 ⟨q, b3, cap3, rfl, s3, hc3, hb3⟩
  have B3 := Lib.hid (B2.out.trans (hb3.mono B2.out.size))
  have HT3 := Lib.hid (HT.out.below hb3)
  rw [HN.out] at s3 ⊢
  have S3 := Lib.hid s3
  clear hc3 hb3 s3 hW1 hW2
  go_wp2_with fail
  refine (KC.out _ q b3 cap3 S3.out HT3.out).mono ?_
  rintro _ w4 ⟨rfl, hb4⟩
  have B4 := Lib.hid (B3.out.trans (hb4.mono B3.out.size))
  clear hb4
  go_wp2_with fail
  go_ret
  exact ⟨rfl, B4.out⟩
end Go.Proofs.YtidhhndclkilnaaDoor
