/-
  Contracts of the package: areExponents, hasChallenge, answer, opening, challenge, slices.Grow, slices.Concat, challengeFor.
-/
import Derived.Test.YtidhhndclkilnaaDoorGPrgA
import Derived.Test.YtidhhndclkilnaaDoorGRefD
import Derived.Test.YtidhhndclkilnaaDoorDApp
import Derived.Lib.AppendZerosOnto
import Derived.Deep.RegionHeld3
import Derived.Shelf.RegionOpenPlain
namespace Go.Proofs.YtidhhndclkilnaaDoor
open Go.RowKit Dg Gr

set_option maxRecDepth 100000 in
set_option maxHeartbeats 600000 in
theorem gare_any (C S : Int) (w : World) : Calls Tryd.prog 46 #[.agg #[.int .i64 C, .int .i64 S]] w fun e w' => e = .returned (.bool (expZ C && expZ S)) ∧ RowKit.Below w.heap.size w w' := by
  have K1 := Lib.hid (gexpo_any C)
  have K2 := Lib.hid (gexpo_any S)
  have B := Lib.hid ((Below.refl w.heap.size w).alloc (Nat.le_refl _) (.cells #[.int .i64 C, .int .i64 S] 23))
  generalize expZ C = c at *
  generalize expZ S = s at *
  cases c
  · go_enter Tryd.func46, Tryd.ntmps46
    go_wp2_with fail
    refine (K1.out _).mono ?_
    rintro _ _ ⟨rfl, rfl⟩
    go_wp2_with fail
    go_ret
    exact ⟨rfl, B.out⟩
  · go_enter Tryd.func46, Tryd.ntmps46
    go_wp2_with fail
    refine (K1.out _).mono ?_
    rintro _ _ ⟨rfl, rfl⟩
    go_wp2_with fail
    refine (K2.out _).mono ?_
    rintro _ _ ⟨rfl, rfl⟩
    go_wp2_with fail
    go_ret
    exact ⟨rfl, B.out⟩
set_option maxRecDepth 100000 in
set_option maxHeartbeats 600000 in
theorem ghas_any (C S c : Int) (w : World) : Calls Tryd.prog 47 #[.agg #[.int .i64 C, .int .i64 S], .int .i64 c] w fun e w' => e = .returned (.bool (C == c)) ∧ RowKit.Below w.heap.size w w' := by
  have B := Lib.hid ((Below.refl w.heap.size w).alloc (Nat.le_refl _) (.cells #[.int .i64 C, .int .i64 S] 23))
  by_cases h : C = c
  · subst h
    have e1 : (C == C) = true := by simp
    rw [e1]
    go_enter Tryd.func47, Tryd.ntmps47
    go_wp2_with fail
    go_ret
    exact ⟨rfl, B.out⟩
  · have e1 : (C == c) = false := by simp [h]
    rw [e1]
    go_enter Tryd.func47, Tryd.ntmps47
    go_wp2_with fail
    go_ret
    exact ⟨rfl, B.out⟩
set_option maxRecDepth 100000 in
set_option maxHeartbeats 600000 in
theorem ganswer_any (c k o : Nat) (w : World) (hc : c < 1073741789) (hk : k < 1073741789) (ho : o < 1073741789) :
    Calls Tryd.prog 43 #[.int .i64 c, .int .i64 k, .int .i64 o] w fun e w' => e = .returned (.agg #[.int .i64 c, .int .i64 (((o : Int) + (c : Int) * (k : Int)) % 1073741789)]) ∧ RowKit.Below w.heap.size w w' := by
  have zc : c * k ≤ 4611686018427387904 := by
    have h1 : c * k ≤ 2147483648 * 2147483648 := Nat.mul_le_mul (by omega) (by omega)
    omega
  have z1 : (c : Int) * (k : Int) ≤ 4611686018427387904 := by rw [← Int.natCast_mul]; omega
  have z0 : 0 ≤ (c : Int) * (k : Int) := Int.mul_nonneg (by omega) (by omega)
  have hw : IntKind.i64.wrap ((c : Int) * (k : Int)) = (c : Int) * (k : Int) := IntWalk.i64_in _ (by omega)
  have hw2 : IntKind.i64.wrap ((o : Int) + (c : Int) * (k : Int)) = (o : Int) + (c : Int) * (k : Int) := IntWalk.i64_in _ (by omega)
  have h00 : 0 ≤ (o : Int) + (c : Int) * (k : Int) := by omega
  have B1 := Lib.hid ((Below.refl w.heap.size w).alloc (Nat.le_refl _) (.cells #[.int .i64 0, .int .i64 0] 23))
  clear zc
  go_enter Tryd.func43, Tryd.ntmps43
  go_wp2_with fail
  exact bodyPost_ret (v := .agg #[.int .i64 c, .int .i64 (((o : Int) + (c : Int) * (k : Int)) % 1073741789)]) (by simp [results, Tryd.results43, go_sem]) rfl ⟨rfl, (by repeat' (first | (with_reducible exact B1.out) | (with_reducible refine Below.setCell ?_ ?_ _) | (with_reducible refine Below.alloc ?_ ?_ _) | (with_reducible refine Below.drew ?_) | (with_reducible refine below_drewN ?_ _) | (with_reducible exact Below.refl _ _) | omega | (simp; done) | (simp; omega)))⟩
set_option maxRecDepth 100000 in
set_option maxHeartbeats 2000000 in
theorem gopen_any (b a C S : Nat) (w : World) (hb : b < 2147483579) (ha : a < 2147483579) (hC : C < 1073741789) (hS : S < 1073741789) :
    Calls Tryd.prog 48 #[.int .i64 b, .int .i64 a, .agg #[.int .i64 C, .int .i64 S]] w fun e w' => e = .returned (.int .i64 (bck b a C S : Nat)) ∧ RowKit.Below w.heap.size w w' := by
  have K1 := Lib.hid (fun w => gpower_any b S w hb (by omega))
  obtain ⟨Z, hZ⟩ : ∃ Z, Z = (1073741789 - C) % 1073741789 := ⟨_, rfl⟩
  have K2 := Lib.hid (fun w => gpower_any a Z w ha (by omega))
  have l1 : pw b S 2147483579 < 2147483579 := pw_lt (by decide) _ _
  have l2 : pw a Z 2147483579 < 2147483579 := pw_lt (by decide) _ _
  have E0 : bck b a C S = pw b S 2147483579 * pw a Z 2147483579 % 2147483579 := by rw [hZ]; unfold bck P Q; rfl
  rw [E0]
  generalize pw b S 2147483579 = x at *
  generalize pw a Z 2147483579 = y at *
  have K3 := Lib.hid (fun w => gproduct_any x y w l1 l2)
  generalize x * y % 2147483579 = R at *
  have B1 := Lib.hid ((Below.refl w.heap.size w).alloc (Nat.le_refl _) (.cells #[.int .i64 C, .int .i64 S] 23))
  have C1 := Lib.hid (Cel.new w (.int .i64 C) (.int .i64 S) 23)
  have w1 : IntKind.i64.wrap (1073741789 - (C : Int)) = 1073741789 - (C : Int) := IntWalk.i64_in _ (by omega)
  have w2 : (1073741789 - (C : Int)).tmod 1073741789 = (Z : Int) := by rw [Int.tmod_eq_emod_of_nonneg (by omega)]; omega
  clear E0 hZ l1 l2
  obtain ⟨c0, c1, f0, f1⟩ := C1.out
  have Hkd := Lib.hid (Kp.of c0 c1 (World.block_lt_of_cell? _ _ c0) (World.block_lt_of_cell? _ _ c1) (Below.refl _ (w.alloc (.cells #[.int .i64 C, .int .i64 S] 23))).drew)
  go_enter Tryd.func48, Tryd.ntmps48
  go_wp2_with fail
  go_region_held3 (fun w' => w'.cell? ⟨w.heap.size, 0, none⟩ = some (.int .i64 C) ∧ w'.cell? ⟨w.heap.size, 1, none⟩ = some (.int .i64 S) ∧ RowKit.Below (w.alloc (.cells #[.int .i64 C, .int .i64 S] 23)).heap.size (w.alloc (.cells #[.int .i64 C, .int .i64 S] 23)) w')
    (first | with_reducible exact Hkd.out | ((with_reducible refine Kp.call ?_ hv1); (with_reducible assumption)) | ((with_reducible refine Kp.call ?_ hv2); (with_reducible assumption)) | (with_reducible assumption))
    (first | (go_at_call 37; (with_reducible show Calls _ _ #[.int .i64 b, .int .i64 S] _ _); refine (K1.out _).mono ?_; rintro _ v1 ⟨rfl, hv1⟩) | (go_at_call 37; (with_reducible show Calls _ _ #[.int .i64 a, .int .i64 Z] _ _); refine (K2.out _).mono ?_; rintro _ v2 ⟨rfl, hv2⟩) | (go_at_call 36; refine (K3.out _).mono ?_; rintro _ _ ⟨rfl, rfl⟩))
  all_goals
    have HBW := Lib.hid (‹_ ∧ _ ∧ RowKit.Below (w.alloc (.cells #[.int .i64 C, .int .i64 S] 23)).heap.size (w.alloc (.cells #[.int .i64 C, .int .i64 S] 23)) _›).2.2
    go_wp2_with fail
    go_ret
    exact ⟨rfl, B1.out.trans (HBW.out.mono B1.out.size)⟩
set_option maxRecDepth 100000 in
set_option maxHeartbeats 1000000 in
theorem gchl_any (l : List Int) (p : Option Addr) (b off cap len : Nat) (w : World) (hS : SlF i64v w p b off len l) (hI : I64s l) (hT : Tab w) :
    Calls Tryd.prog 50 #[.slice p len cap] w fun e w' => e = .returned (.int .i64 (chl l : Nat)) ∧ RowKit.Below w.heap.size w w' := by
  have K := Lib.hid (fun w hS hT => ints_any l p b off cap len w hS hI hT)
  have HS := Lib.hid hS
  have HT := Lib.hid hT
  have E : Hid (((chl l : Nat) : Int) = (dig (txs l) : Nat) % 1073741789) := by show _ = _; unfold chl; rw [Int.natCast_emod]; rfl
  clear hS hI hT
  generalize dig (txs l) = d at *
  go_enter Tryd.func50, Tryd.ntmps50
  go_wp2_with fail
  refine (K.out _ HS.out HT.out).mono ?_
  rintro _ w1 ⟨rfl, hb⟩
  have B1 := Lib.hid hb
  clear hb
  go_wp2_with fail
  go_ret
  exact ⟨ret_i64 E.out.symm, B1.out⟩
theorem own_room (w : World) (cur : Array Value) (cap : Nat) (hs : cur.size = cap) (hc : cap ≤ maxLen) : Own 3 i64v (w.alloc (.cells cur 3)) w.heap.size (.slice (some ⟨w.heap.size, 0, none⟩) 0 cap) ([] : List Int) :=
  ⟨rfl, .inr ⟨w.heap.size, cap, cur, rfl, Nat.le_refl _, heap_alloc_new w _, Nat.zero_le _, hc, by rw [hs, Nat.mul_one], by simp⟩⟩
set_option maxRecDepth 100000 in
set_option maxHeartbeats 2000000 in
theorem ggrow_any (n : Nat) (w : World) (h0 : 0 < n) (hn : n ≤ 3000) :
    Calls Tryd.prog 57 #[.slice none 0 0, .int .i64 n] w fun e w' => ∃ cap, e = .returned (.slice (some ⟨w.heap.size, 0, none⟩) 0 cap) ∧ Own 3 i64v w' w.heap.size (.slice (some ⟨w.heap.size, 0, none⟩) 0 cap) ([] : List Int) ∧ RowKit.Below w.heap.size w w' := by
  obtain ⟨i, hi, hz⟩ := Option.map_eq_some_iff.1 info_int
  simp only [Prod.mk.injEq] at hz
  obtain ⟨z1, z2, z3⟩ := hz
  have hold : (Builtin.firstCells i.size 0 (.slice none 0 0)).run Tryd.prog w.drew = .ok ([] : List Value).toArray w.drew := run_firstCells_none w.drew i.size 0 0 0
  have hG1 := grownCap_ge w n 0 3
  have hG2 := grownCap_le_maxLen w n 0 3 (by unfold maxLen; omega)
  have hrz : ∀ ty, (Builtin.append_ #[24, 3] ty #[.slice none 0 0, .int .i64 (n : Int)]).run Tryd.prog w =
      .ok (.slice (some ⟨w.heap.size, 0, none⟩) n (grownCap w n 0 3)) (w.drew.alloc (.cells (([] : List Value).toArray ++ Builtin.zeroCells (Value.int .i64 0).cells n ++ Builtin.zeroCells (Value.int .i64 0).cells (grownCap w n 0 3 - n)) 3)) := fun ty => by
    have h := Lib.run_append_grow_zeros w 24 3 ty 3 i (.int .i64 0) .i64 .i64 Tryd.underlying24 Tryd.underlying3 hi z1 none 0 0 [] hold n h0 (by omega) (by omega) (by omega) (by rw [z3]; omega)
      (by have h8 : 0 < 0 + n := by omega
          exact growslice_fits h8 (by rw [z3]; omega))
    rw [Nat.zero_add] at h
    exact h
  obtain ⟨cur, hcur⟩ : ∃ cur, cur = (([] : List Value).toArray ++ Builtin.zeroCells (Value.int .i64 0).cells n ++ Builtin.zeroCells (Value.int .i64 0).cells (grownCap w n 0 3 - n)) := ⟨_, rfl⟩
  have hsz : cur.size = grownCap w n 0 3 := by rw [hcur]; simp [Builtin.zeroCells, Value.cells]; omega
  rw [← hcur] at hrz
  have hO := Lib.hid (own_room w.drew cur (grownCap w n 0 3) hsz hG2)
  have hB := Lib.hid (((Below.refl w.heap.size w).drew).alloc (Nat.le_refl _) (.cells cur 3))
  unfold maxLen at hG2
  generalize grownCap w n 0 3 = G at *
  clear hold hcur hsz hi z1 z2 z3
  have h1 : ¬ ((n : Int) < 0) := by omega
  have h4 : (n : Int) > 0 := by omega
  have h3 : IntKind.i64.wrap (n : Int) = n := IntWalk.i64_in _ (by omega)
  go_enter Tryd.func57, Tryd.ntmps57
  go_wp2_with (at_builtin; refine Lib.wpList_append_run _ rfl _ _ _ _ rfl _ _ rfl rfl _ _ (hrz _) ?_)
  all_goals (go_ret; exact ⟨G, rfl, hO.out, hB.out⟩)
set_option maxRecDepth 100000 in
set_option maxHeartbeats 3000000 in
theorem gconcat_any (la lb : List Int) (p p2 : Option Addr) (g b off cap len b2 off2 cap2 len2 : Nat) (w : World) (c0 : w.cell? ⟨g, 0, none⟩ = some (.slice p len cap)) (c1 : w.cell? ⟨g, 1, none⟩ = some (.slice p2 len2 cap2)) (hS : SlF i64v w p b off len la) (hS2 : SlF i64v w p2 b2 off2 len2 lb) (h0 : 0 < len) (hn : len ≤ 1000) (hn2 : len2 ≤ 1000) :
    Calls Tryd.prog 53 #[.slice (some ⟨g, 0, none⟩) 2 2] w fun e w' => OutI (la ++ lb) w e w' := by
  have HS := Lib.hid hS
  have HL := Lib.hid hS.ln
  have HS2 := Lib.hid hS2
  have HL2 := Lib.hid hS2.ln
  have HC : Hid (w.cell? ⟨g, 0, none⟩ = some (.slice p len cap) ∧ w.cell? ⟨g, 1, none⟩ = some (.slice p2 len2 cap2) ∧ g < w.heap.size) := ⟨c0, c1, World.block_lt_of_cell? _ _ c0⟩
  have HG := Lib.hid (fun w => by have h := ggrow_any (len + len2) w (by omega) (by omega); rw [Int.natCast_add] at h; exact h)
  have w1 : IntKind.i64.wrap (len : Int) = len := IntWalk.i64_in _ (by omega)
  have w2 : IntKind.i64.wrap ((len : Int) + (len2 : Int)) = (len : Int) + (len2 : Int) := IntWalk.i64_in _ (by omega)
  have n1 : ¬ ((len : Int) < 0) := by omega
  have n2 : ¬ ((len : Int) + (len2 : Int) < 0) := by omega
  clear hS hS2
  go_enter Tryd.func53, Tryd.ntmps53
  go_wp2_with fail
  go_loopg [3, 11] 2 (fun r s3 s11 wr => w = wr ∧ ((s3 = .int .i64 0 ∧ s11 = .int .i64 0 ∧ 2 ≤ r) ∨ (s3 = .int .i64 len ∧ s11 = .int .i64 1 ∧ 1 ≤ r) ∨ (s3 = .int .i64 ((len : Int) + (len2 : Int)) ∧ s11 = .int .i64 2)))
  case atStart => exact ⟨rfl, .inl ⟨rfl, rfl, Nat.le_refl _⟩⟩
  case round =>
    obtain ⟨rfl, ⟨rfl, rfl, hr⟩ | ⟨rfl, rfl, hr⟩ | ⟨rfl, rfl⟩⟩ := hrel
    · go_wp2_with fail
      go_roundg 1
      case measure => omega
      case rel => exact ⟨rfl, .inr (.inl ⟨rfl, rfl, Nat.le_refl _⟩)⟩
    · go_wp2_with fail
      go_roundg 0
      case measure => omega
      case rel => exact ⟨rfl, .inr (.inr ⟨rfl, rfl⟩)⟩
    · go_wp2_with fail
      refine (HG.out _).mono ?_
      rintro _ v1 ⟨G, rfl, hO, hB⟩
      have HO1 := Lib.hid hO
      have HB1 := Lib.hid hB
      clear hO hB
      go_wp2_with fail
      go_loopg [6, 27] 2 (fun r s6 s27 wr => Hid (RowKit.Below w.heap.size w wr) ∧ ((s27 = .int .i64 0 ∧ 2 ≤ r ∧ Hid (Own 3 i64v wr w.heap.size s6 ([] : List Int))) ∨ (s27 = .int .i64 1 ∧ 1 ≤ r ∧ Hid (Own 3 i64v wr w.heap.size s6 la)) ∨ (s27 = .int .i64 2 ∧ Hid (Own 3 i64v wr w.heap.size s6 (la ++ lb)))))
      case atStart => exact ⟨HB1, .inl ⟨rfl, Nat.le_refl _, HO1⟩⟩
      case round =>
        clear HO1 HB1
        obtain ⟨HB, ⟨rfl, hr, HO⟩ | ⟨rfl, hr, HO⟩ | ⟨rfl, HO⟩⟩ := hrel
        · have c2 := (HB.out.cell (p := ⟨g, 0, none⟩) HC.out.2.2).trans HC.out.1
          have HLN : Hid (([] : List Int).length + len ≤ 1000000) := by show _ ≤ _; rw [List.length_nil]; omega
          go_wp2_with (first | (at_builtin; refine list_app_o (f := i64v) eli i64_one rfl _ _ rfl w.heap.size u6 [] rfl HO.out p b off len cap la rfl (HS.out.bel HB.out) HLN.out HB.out.size ?_; intro v5 W5 own5 grow5) | fail)
          have HB5 := Lib.hid (HB.out.grown grow5 HB.out.size HO.out.block)
          have HO5 : Hid (Own 3 i64v W5 w.heap.size v5 la) := own5
          clear own5 grow5
          go_wp2
          go_roundg 1
          case measure => omega
          case rel => exact ⟨HB5, .inr (.inl ⟨rfl, Nat.le_refl _, HO5⟩)⟩
        · have c2 := (HB.out.cell (p := ⟨g, 1, none⟩) HC.out.2.2).trans HC.out.2.1
          have HLN : Hid (la.length + len2 ≤ 1000000) := by show _ ≤ _; rw [HL.out]; omega
          go_wp2_with (first | (at_builtin; refine list_app_o (f := i64v) eli i64_one rfl _ _ rfl w.heap.size u6 la rfl HO.out p2 b2 off2 len2 cap2 lb rfl (HS2.out.bel HB.out) HLN.out HB.out.size ?_; intro v5 W5 own5 grow5) | fail)
          have HB5 := Lib.hid (HB.out.grown grow5 HB.out.size HO.out.block)
          have HO5 := Lib.hid own5
          clear own5 grow5
          go_wp2
          go_roundg 0
          case measure => omega
          case rel => exact ⟨HB5, .inr (.inr ⟨rfl, HO5⟩)⟩
        · obtain ⟨q, b3, cap3, rfl, hs3, hc3⟩ := HO.out.reads (by rw [List.length_append, HL.out, HL2.out]; omega)
          have HF : Hid (OutI (la ++ lb) w (.returned (.slice q (la ++ lb).length cap3)) _) := ⟨q, b3, cap3, rfl, hs3, hc3, HB.out⟩
          clear hs3 hc3 HO
          generalize (la ++ lb).length = N at *
          go_wp2
          go_ret
          exact HF.out
end Go.Proofs.YtidhhndclkilnaaDoor
