/-
  Contracts of the reference: Back, behind, Challenge, Sign, Verify, Same, Equal.
-/
import Derived.Test.YtidhhndclkilnaaDoorGRef
namespace Go.Proofs.YtidhhndclkilnaaDoor
open Go.RowKit Dg Gr

/-- The challenge of integers. -/
noncomputable def chl (l : List Int) : Nat := dig (txs l) % 1073741789
theorem chl_lt (l : List Int) : chl l < 1073741789 := Nat.mod_lt _ (by decide)
set_option maxRecDepth 100000 in
set_option maxHeartbeats 1000000 in
theorem rback_any (b a C S : Nat) (w : World) (hb : b < 2147483579) (ha : a < 2147483579) (hC : C < 1073741789) (hS : S < 1073741789) :
    Calls Tryd.prog 33 #[.int .i64 b, .int .i64 a, .agg #[.int .i64 C, .int .i64 S]] w fun e w' => e = .returned (.int .i64 (bck b a C S : Nat)) ∧ RowKit.Below w.heap.size w w' := by
  have K1 := Lib.hid (fun w => rpower_any b S 2147483579 w hb (by decide) (by decide) (by omega))
  obtain ⟨Z, hZ⟩ : ∃ Z, Z = (1073741789 - C) % 1073741789 := ⟨_, rfl⟩
  have K2 := Lib.hid (fun w => rpower_any a Z 2147483579 w ha (by decide) (by decide) (by omega))
  have l1 : pw b S 2147483579 < 2147483579 := pw_lt (by decide) _ _
  have l2 : pw a Z 2147483579 < 2147483579 := pw_lt (by decide) _ _
  have E0 : bck b a C S = pw b S 2147483579 * pw a Z 2147483579 % 2147483579 := by rw [hZ]; unfold bck P Q; rfl
  obtain ⟨R, hR⟩ : ∃ R, R = bck b a C S := ⟨_, rfl⟩
  rw [← hR] at E0 ⊢
  clear hR
  generalize pw b S 2147483579 = x at *
  generalize pw a Z 2147483579 = y at *
  have hnm := mul_top l1 l2 (by decide)
  have E : Hid ((R : Int) = (x : Int) * (y : Int) % 2147483579) := by show _ = _; rw [E0, cast_mulmod]; rfl
  have z1 : (x : Int) * (y : Int) ≤ 4611686018427387904 := by rw [← Int.natCast_mul]; omega
  have z0 : 0 ≤ (x : Int) * (y : Int) := Int.mul_nonneg (by omega) (by omega)
  have hw : IntKind.i64.wrap ((x : Int) * (y : Int)) = (x : Int) * (y : Int) := IntWalk.i64_in _ (by omega)
  have B := Lib.hid ((Below.refl w.heap.size w).alloc (Nat.le_refl _) (.cells #[.int .i64 C, .int .i64 S] 23))
  have w1 : IntKind.i64.wrap (1073741789 - (C : Int)) = 1073741789 - (C : Int) := IntWalk.i64_in _ (by omega)
  have w2 : (1073741789 - (C : Int)).tmod 1073741789 = (Z : Int) := by rw [Int.tmod_eq_emod_of_nonneg (by omega)]; omega
  clear hnm E0 hZ
  go_enter Tryd.func33, Tryd.ntmps33
  go_wp2_with fail
  go_quiet (first | (go_at_call 29; with_reducible exact Calls.quiet_of_same (K1.out _)) | (go_at_call 29; with_reducible exact Calls.quiet_of_same (K2.out _)))
  go_wp2_with fail
  go_ret
  exact ⟨ret_i64 E.out.symm, below_drewN B.out _⟩
set_option maxRecDepth 100000 in
set_option maxHeartbeats 1000000 in
theorem rchl_any (l : List Int) (p : Option Addr) (b off cap len : Nat) (w : World) (hS : SlF i64v w p b off len l) (hI : I64s l) (hn : len ≤ 1000) :
    Calls Tryd.prog 34 #[.slice p len cap] w fun e w' => e = .returned (.int .i64 (chl l : Nat)) ∧ RowKit.Below w.heap.size w w' := by
  have K := Lib.hid (fun w hS => rints_any l p b off cap len w hS hI hn)
  have HS := Lib.hid hS
  have E : Hid (((chl l : Nat) : Int) = (dig (txs l) : Nat) % 1073741789) := by show _ = _; unfold chl; rw [Int.natCast_emod]; rfl
  clear hS hI
  generalize dig (txs l) = d at *
  go_enter Tryd.func34, Tryd.ntmps34
  go_wp2_with fail
  refine (K.out _ HS.out).mono ?_
  rintro _ w1 ⟨rfl, hb⟩
  have B1 := Lib.hid hb
  clear hb
  go_wp2_with fail
  go_ret
  exact ⟨ret_i64 E.out.symm, B1.out⟩
/-- What a list of integers that came out reads as. -/
def OutI (L : List Int) (w : World) (e : Ending) (w' : World) : Prop := ∃ q b cap, e = .returned (.slice q L.length cap) ∧ SlF i64v w' q b 0 L.length L ∧ L.length ≤ cap ∧ RowKit.Below w.heap.size w w'
set_option maxRecDepth 100000 in
set_option maxHeartbeats 2000000 in
theorem behind_any (la lb : List Int) (p p2 : Option Addr) (b off cap len b2 off2 cap2 len2 : Nat) (w : World) (hS : SlF i64v w p b off len la) (hS2 : SlF i64v w p2 b2 off2 len2 lb) (hn : len ≤ 1000) (hn2 : len2 ≤ 1000) :
    Calls Tryd.prog 45 #[.slice p len cap, .slice p2 len2 cap2] w fun e w' => OutI (la ++ lb) w e w' := by
  have HS := Lib.hid hS
  have HL := Lib.hid hS.ln
  have HS2 := Lib.hid hS2
  have HL2 := Lib.hid hS2.ln
  have HT1 : Hid (∀ (k : Nat) (h : k < la.length), la.take (k + 1) = la.take k ++ [la[k]]) := fun k h => List.take_succ_eq_append_getElem h
  have HT2 : Hid (∀ (k : Nat) (h : k < lb.length), la ++ lb.take (k + 1) = (la ++ lb.take k) ++ [lb[k]]) := fun k h => by rw [List.take_succ_eq_append_getElem h, List.append_assoc]
  clear hS hS2
  go_enter Tryd.func45, Tryd.ntmps45
  go_wp2_with fail
  go_loopg [5, 6] len (fun g s5 s6 wr => ∃ k : Nat, s6 = .int .i64 k ∧ k ≤ len ∧ len - k ≤ g ∧ Hid (Own 3 i64v wr w.heap.size s5 (la.take k)) ∧ Hid (RowKit.Below w.heap.size w wr))
  case atStart => exact ⟨0, rfl, by omega, by omega, Own.empty, Below.refl _ _⟩
  case round =>
    obtain ⟨k, rfl, hk, hkg, HO, HB⟩ := hrel
    by_cases hlt : k < len
    · have hltz : (k : Int) < (len : Int) := by omega
      have hp1 := HS.out.ptr (by omega)
      have hkl : k < la.length := by rw [HL.out]; exact hlt
      have c1 := (HS.out.bel HB.out).cells k hkl
      have HT := Lib.hid (HT1.out k hkl)
      have HPL : Hid ((la.take k).length + 1 ≤ 1000000) := by show _ ≤ _; rw [List.length_take]; omega
      obtain ⟨z, hz⟩ : ∃ z, z = la[k] := ⟨_, rfl⟩
      rw [← hz] at c1 HT
      unfold i64v at c1
      clear hz
      generalize la.take k = Pk at *
      subst hp1
      go_wp2_with (first | (at_builtin; refine list_app (f := i64v) eli i64_one rfl _ _ rfl w.heap.size u5 Pk rfl (HO.out.alloc _) ⟨_, 0, none⟩ 1 1 [z] rfl rfl (news1 (f := i64v) wr z _) HPL.out (by have := HB.out.size; rw [World.size_alloc]; omega) ?_; intro v5 W5 own5 grow5 _) | fail)
      have HB5 := Lib.hid ((HB.out.alloc HB.out.size (.cells #[.int .i64 z] 3)).grown grow5 (by have := HB.out.size; rw [World.size_alloc]; omega) HO.out.block)
      rw [← HT.out] at own5
      have HO5 := Lib.hid own5
      clear own5 grow5
      go_wp2
      go_roundg (len - (k + 1))
      case measure => omega
      case rel => exact ⟨k + 1, by go_num, by omega, by omega, HO5.out, HB5.out⟩
    · have hltz : ¬ (k : Int) < (len : Int) := by omega
      have E : la.take k = la ++ lb.take 0 := by rw [List.take_of_length_le (by have := HL.out; omega)]; simp
      have h := HO.out
      rw [E] at h
      have HO0 := Lib.hid h
      have HBk := Lib.hid HB.out
      clear E h HO HB
      rename World => w3
      go_wp2_with fail
      go_loopg [5, 7] len2 (fun g s5 s7 wr => ∃ k : Nat, s7 = .int .i64 k ∧ k ≤ len2 ∧ len2 - k ≤ g ∧ Hid (Own 3 i64v wr w.heap.size s5 (la ++ lb.take k)) ∧ Hid (RowKit.Below w.heap.size w wr))
      case atStart => exact ⟨0, rfl, by omega, by omega, HO0.out, HBk.out⟩
      case round =>
        clear HO0 HBk
        obtain ⟨i, rfl, hi, hig, HO, HB⟩ := hrel
        by_cases hlt2 : i < len2
        · have hltz2 : (i : Int) < (len2 : Int) := by omega
          have hp1 := HS2.out.ptr (by omega)
          have hkl : i < lb.length := by rw [HL2.out]; exact hlt2
          have c1 := (HS2.out.bel HB.out).cells i hkl
          have HT := Lib.hid (HT2.out i hkl)
          have HPL : Hid ((la ++ lb.take i).length + 1 ≤ 1000000) := by show _ ≤ _; rw [List.length_append, List.length_take, HL.out]; omega
          obtain ⟨z, hz⟩ : ∃ z, z = lb[i] := ⟨_, rfl⟩
          rw [← hz] at c1 HT
          unfold i64v at c1
          clear hz
          generalize la ++ lb.take i = Pk at *
          subst hp1
          go_wp2_with (first | (at_builtin; refine list_app (f := i64v) eli i64_one rfl _ _ rfl w.heap.size u5 Pk rfl (HO.out.alloc _) ⟨_, 0, none⟩ 1 1 [z] rfl rfl (news1 (f := i64v) wr z _) HPL.out (by have := HB.out.size; rw [World.size_alloc]; omega) ?_; intro v5 W5 own5 grow5 _) | fail)
          have HB5 := Lib.hid ((HB.out.alloc HB.out.size (.cells #[.int .i64 z] 3)).grown grow5 (by have := HB.out.size; rw [World.size_alloc]; omega) HO.out.block)
          rw [← HT.out] at own5
          have HO5 := Lib.hid own5
          clear own5 grow5
          go_wp2
          go_roundg (len2 - (i + 1))
          case measure => omega
          case rel => exact ⟨i + 1, by go_num, by omega, by omega, HO5.out, HB5.out⟩
        · have hltz2 : ¬ (i : Int) < (len2 : Int) := by omega
          have E : lb.take i = lb := List.take_of_length_le (by have := HL2.out; omega)
          have h := HO.out
          rw [E] at h
          obtain ⟨q, b3, cap3, rfl, hs3, hc3⟩ := h.reads (by rw [List.length_append, HL.out, HL2.out]; omega)
          have HF : Hid (OutI (la ++ lb) w (.returned (.slice q (la ++ lb).length cap3)) _) := ⟨q, b3, cap3, rfl, hs3, hc3, HB.out⟩
          clear E h hs3 hc3 HO
          generalize (la ++ lb).length = N at *
          go_wp2
          go_ret
          exact HF.out
end Go.Proofs.YtidhhndclkilnaaDoor
