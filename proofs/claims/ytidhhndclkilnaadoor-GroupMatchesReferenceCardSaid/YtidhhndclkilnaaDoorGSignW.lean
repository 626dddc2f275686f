/-
  The law on signatures: a signature that was made is right; any pair of exponents is right exactly if the challenge is the one that the words ask for.
-/
import Derived.Test.YtidhhndclkilnaaDoorGFew
import Derived.Test.YtidhhndclkilnaaDoorDApp
namespace Go.Proofs.YtidhhndclkilnaaDoor
open Go.RowKit Dg Gr

theorem Cel.set0 {w : World} {b : Nat} {x y : Value} (h : Cel w b x y) (v : Value) : Cel (w.setCell ⟨b, 0, none⟩ v) b v y := by
  obtain ⟨c0, c1, f0, f1⟩ := h
  exact ⟨World.cell?_setCell_same _ _ _ c0, (World.cell?_setCell_other _ _ _ _ (by simp)).trans c1, by rw [World.frozen?_setCell]; exact f0, by rw [World.frozen?_setCell]; exact f1⟩
theorem Cel.set1 {w : World} {b : Nat} {x y : Value} (h : Cel w b x y) (v : Value) : Cel (w.setCell ⟨b, 1, none⟩ v) b x v := by
  obtain ⟨c0, c1, f0, f1⟩ := h
  exact ⟨(World.cell?_setCell_other _ _ _ _ (by simp)).trans c0, World.cell?_setCell_same _ _ _ c1, by rw [World.frozen?_setCell]; exact f0, by rw [World.frozen?_setCell]; exact f1⟩
theorem ver_val {p c s : Nat} (hp : mem p) (hc : c < 1073741789) (hs : s < 1073741789) (l : List Int) :
    verR p c s l = (decide (((chl ((bck 4 p c s : Nat) :: (p : Int) :: l) : Nat) : Int) = (c : Int)), 0) := by
  unfold verR
  rw [if_pos ⟨memZ_of hp, by rw [expZ_of hc, expZ_of hs]; rfl⟩, Int.toNat_natCast, Int.toNat_natCast, Int.toNat_natCast]
theorem own_two (w : World) (x y : Int) : Own 3 i64v (w.alloc (.cells #[.int .i64 x, .int .i64 y] 3)) w.heap.size (.slice (some ⟨w.heap.size, 0, none⟩) 2 2) [x, y] := by
  have h := Own.new w [x, y] 3 i64v (by simp)
  exact h
set_option maxRecDepth 100000 in
set_option maxHeartbeats 3000000 in
theorem signs_law (K : Con) (n m : Nat) (l1 : List Int) (p1 : Option Addr) (b1 off1 cap1 len1 : Nat) (SC SS : Int) (w : World) (hT : Tab w) (hn : n < 18446744073709551616) (hm : m < 18446744073709551616)
    (hS1 : SlF i64v w p1 b1 off1 len1 l1) (hI1 : I64s l1) (hc1 : len1 ≤ cap1) :
    Calls Tryd.prog 7 #[.int .u64 n, .int .u64 m, .slice p1 len1 cap1, .agg #[.int .i64 SC, .int .i64 SS]] w fun e w' => e = .returned (.bool true) ∧ RowKit.Below w.heap.size w w' := by
  have HD := Lib.hid (fun w hT => head_any K w hT)
  have HT := Lib.hid hT
  have S1 := Lib.hid (fun w => rSecret_any n w hn)
  have S2 := Lib.hid (fun w => rSecret_any m w hm)
  have lk := scr_lt n
  have lr := scr_lt m
  generalize scrN n = k at *
  generalize scrN m = r at *
  have P1 := Lib.hid (fun w => rpower_any 4 k 2147483579 w (by decide) (by decide) (by decide) (by omega))
  obtain ⟨p, hp⟩ : ∃ z, z = pw 4 k P := ⟨_, rfl⟩
  have mp : mem p := by rw [hp]; exact mem_pw four_Q _
  rw [show pw 4 k 2147483579 = p from hp.symm] at P1
  obtain ⟨N1, hN1⟩ : ∃ N, (min (len1 : Int) 20).toNat = N := ⟨_, rfl⟩
  have lN : N1 ≤ 20 := by omega
  have F1 := Lib.hid (fun w => few_any p1 len1 cap1 N1 w hc1 hN1)
  have L1 := Lib.hid (hS1.take (k := N1) (by omega))
  have I1 := i64s_take hI1 N1
  have ll : (l1.take N1).length = N1 := L1.out.ln
  generalize l1.take N1 = l at *
  obtain ⟨c, hc⟩ : ∃ z, z = sigC k r l := ⟨_, rfl⟩
  have lc : c < 1073741789 := by rw [hc]; exact sigC_lt _ _ _
  obtain ⟨s, hs⟩ : ∃ z, z = sgS c r k := ⟨_, rfl⟩
  have G1 : Hid (∀ w : World, SlF i64v w p1 b1 off1 N1 l → Tab w → Calls Tryd.prog 20 #[.int .i64 (k : Nat), .int .i64 (r : Nat), .slice p1 N1 cap1] w fun e w' => e = .returned (.tuple #[.agg #[.int .i64 (c : Nat), .int .i64 (s : Nat)], .int .i64 0]) ∧ RowKit.Below w.heap.size w w') := fun w hS hT => by
    have h := K.sign k r l p1 b1 off1 cap1 N1 w hS I1 (by omega) hT
    rw [sig_ok lk.1 lk.2 lr.1 lr.2, ← hc, ← hs] at h
    exact h
  have G2 : Hid (∀ w : World, SlF i64v w p1 b1 off1 N1 l → Tab w → Calls Tryd.prog 22 #[.int .i64 (p : Nat), .agg #[.int .i64 (c : Nat), .int .i64 (s : Nat)], .slice p1 N1 cap1] w fun e w' => e = .returned (.tuple #[.bool true, .int .i64 0]) ∧ RowKit.Below w.heap.size w w') := fun w hS hT => by
    have h := K.verify p c s l p1 b1 off1 cap1 N1 w hS I1 (by omega) hT
    have e := sig_right (k := k) (o := r) l
    rw [← hp, ← hc, ← hs] at e
    rw [e] at h
    exact h
  obtain ⟨C, hC⟩ : ∃ C : Nat, SC % 1073741789 = (C : Int) := ⟨(SC % 1073741789).toNat, by omega⟩
  obtain ⟨T, hT'⟩ : ∃ T : Nat, SS % 1073741789 = (T : Int) := ⟨(SS % 1073741789).toNat, by omega⟩
  have lC : C < 1073741789 := by omega
  have lT : T < 1073741789 := by omega
  have R1 : Hid (∀ w : World, Calls Tryd.prog 31 #[.int .i64 (Int.tmod SC 1073741789)] w fun e w' => e = .returned (.int .i64 (C : Nat)) ∧ w' = w) := fun w => by
    have h := rrest_any (Int.tmod SC 1073741789) w
    rw [show Int.tmod SC 1073741789 % 1073741789 = (C : Int) by
      have h2 := Int.mul_tdiv_add_tmod SC 1073741789
      omega] at h
    exact h
  have R2 : Hid (∀ w : World, Calls Tryd.prog 31 #[.int .i64 (Int.tmod SS 1073741789)] w fun e w' => e = .returned (.int .i64 (T : Nat)) ∧ w' = w) := fun w => by
    have h := rrest_any (Int.tmod SS 1073741789) w
    rw [show Int.tmod SS 1073741789 % 1073741789 = (T : Int) by
      have h2 := Int.mul_tdiv_add_tmod SS 1073741789
      omega] at h
    exact h
  have A1 := Lib.hid (fun w => rback_any 4 p C T w (by decide) mp.2.1 lC lT)
  have lx : bck 4 p C T < 2147483579 := Nat.mod_lt _ (by decide)
  have lp : p < 2147483579 := mp.2.1
  obtain ⟨d, hd⟩ : ∃ z, z = chl ((bck 4 p C T : Nat) :: (p : Int) :: l) := ⟨_, rfl⟩
  obtain ⟨z, hz⟩ : ∃ z, decide ((d : Int) = (C : Int)) = z := ⟨_, rfl⟩
  have e1 : ((d : Int) == (C : Int)) = z := by rw [← hz]; by_cases h : (d : Int) = (C : Int) <;> simp [h]
  have G3 : Hid (∀ w : World, SlF i64v w p1 b1 off1 N1 l → Tab w → Calls Tryd.prog 22 #[.int .i64 (p : Nat), .agg #[.int .i64 (C : Nat), .int .i64 (T : Nat)], .slice p1 N1 cap1] w fun e w' => e = .returned (.tuple #[.bool z, .int .i64 0]) ∧ RowKit.Below w.heap.size w w') := fun w hS hT => by
    have h := K.verify p C T l p1 b1 off1 cap1 N1 w hS I1 (by omega) hT
    rw [ver_val mp lC lT, ← hd, hz] at h
    exact h
  generalize bck 4 p C T = x at *
  have KC := Lib.hid (fun w q b3 cap3 N hS3 (hN : N ≤ 1000) => rchl_any ((x : Int) :: (p : Int) :: l) q b3 0 cap3 N w hS3 (i64s_cons (by omega) (i64s_cons (by omega) I1)) hN)
  rw [← hd] at KC
  clear hp mp hc hs hC hT' hd hz hS1 hI1 hc1 hN1 K hT I1
  have B0 := Lib.hid ((Below.refl w.heap.size w).alloc (Nat.le_refl _) (.cells #[.int .i64 SC, .int .i64 SS] 23))
  have C0 := Lib.hid (Cel.new w (.int .i64 SC) (.int .i64 SS) 23)
  go_enter Tryd.func7, Tryd.ntmps7
  go_wp2_with fail
  generalize w.alloc (.cells #[.int .i64 SC, .int .i64 SS] 23) = w0 at *
  refine (HD.out _ (HT.out.below B0.out)).mono ?_
  rintro _ w1 ⟨rfl, hb⟩
  have B1 := Lib.hid (B0.out.trans (hb.mono B0.out.size))
  have C1 := Lib.hid (C0.out.below hb)
  clear hb B0 C0
  go_wp2_with fail
  refine (F1.out _).mono ?_
  rintro _ _ ⟨rfl, rfl⟩
  go_wp2_with fail
  refine (S1.out _).mono ?_
  rintro _ _ ⟨rfl, rfl⟩
  go_wp2_with fail
  refine (P1.out _).mono ?_
  rintro _ _ ⟨rfl, rfl⟩
  go_wp2_with fail
  refine (S2.out _).mono ?_
  rintro _ _ ⟨rfl, rfl⟩
  go_wp2_with fail
  refine (G1.out _ (L1.out.below B1.out L1.out.lt) (HT.out.below B1.out)).mono ?_
  rintro _ w2 ⟨rfl, hb⟩
  have B2 := Lib.hid (B1.out.trans (hb.mono B1.out.size))
  have C2 := Lib.hid (C1.out.below hb)
  have B3 := Lib.hid (B2.out.alloc B2.out.size (.cells #[.int .i64 c, .int .i64 s] 23))
  have C3 := Lib.hid (C2.out.below ((Below.refl w2.heap.size w2).alloc (Nat.le_refl _) (.cells #[.int .i64 c, .int .i64 s] 23)))
  have D3 := Lib.hid (Cel.new w2 (.int .i64 c) (.int .i64 s) 23)
  clear hb B1 C1 B2 C2
  go_wp2_with fail
  generalize w2.alloc (.cells #[.int .i64 c, .int .i64 s] 23) = w3 at *
  refine (G2.out _ (L1.out.below B3.out L1.out.lt) (HT.out.below B3.out)).mono ?_
  rintro _ w4 ⟨rfl, hb⟩
  have B4 := Lib.hid (B3.out.trans (hb.mono B3.out.size))
  have C4 := Lib.hid (C3.out.below hb)
  clear hb B3 C3 D3
  obtain ⟨c0, c1, f0, f1⟩ := C4.out
  go_wp2_with fail
  refine (R1.out _).mono ?_
  rintro _ u4 ⟨rfl, rfl⟩
  go_wp2_with fail
  have B5 := Lib.hid ((B4.out.setCell (p := ⟨w.heap.size, 0, none⟩) (Nat.le_refl _) (.int .i64 C)).setCell (p := ⟨w.heap.size, 1, none⟩) (Nat.le_refl _) (.int .i64 T))
  have C5 := Lib.hid ((C4.out.set0 (.int .i64 C)).set1 (.int .i64 T))
  have q := C4.out.set0 (.int .i64 C)
  clear c0 c1 f0 f1
  obtain ⟨c0, c1, f0, f1⟩ := q
  generalize u4.setCell ⟨w.heap.size, 0, none⟩ (.int .i64 C) = u5 at *
  refine (R2.out _).mono ?_
  rintro _ u5 ⟨rfl, rfl⟩
  go_wp2_with fail
  clear c0 c1 f0 f1 C4 B4
  obtain ⟨c0, c1, f0, f1⟩ := C5.out
  generalize u5.setCell ⟨w.heap.size, 1, none⟩ (.int .i64 T) = u6 at *
  go_wp2_with fail
  refine (G3.out _ (L1.out.below B5.out L1.out.lt) (HT.out.below B5.out)).mono ?_
  rintro _ w7 ⟨rfl, hb⟩
  have B7 := Lib.hid (B5.out.trans (hb.mono B5.out.size))
  have C7 := Lib.hid (C5.out.below hb)
  clear hb B5 C5 c0 c1 f0 f1
  obtain ⟨c0, c1, f0, f1⟩ := C7.out
  go_wp2_with fail
  refine (A1.out _).mono ?_
  rintro _ w8 ⟨rfl, hb⟩
  have B8 := Lib.hid (B7.out.trans (hb.mono B7.out.size))
  have C8 := Lib.hid (C7.out.below hb)
  clear hb B7 C7 c0 c1 f0 f1
  have OW := Lib.hid (own_two w8 x p)
  have B9 := Lib.hid (B8.out.alloc B8.out.size (.cells #[.int .i64 x, .int .i64 p] 3))
  have L9 := Lib.hid (L1.out.below B9.out L1.out.lt)
  have hl9 : 2 + N1 ≤ 1000000 := by omega
  go_wp2_with ((with_reducible show wpList _ _ _ ({ dst := some 74, op := _, type := _, pos := _, after := _, guard := _ } :: _) _ _); refine list_app_o (f := i64v) eli i64_one rfl _ _ rfl w8.heap.size (.slice (some ⟨w8.heap.size, 0, none⟩) 2 2) [(x : Int), (p : Int)] rfl OW.out p1 b1 off1 N1 cap1 l rfl L9.out hl9 (by rw [World.size_alloc]; omega) ?_; intro v9 w9 own9 grow9)
  have BG : RowKit.Below w8.heap.size w8 w9 := ((Below.refl w8.heap.size w8).alloc (Nat.le_refl _) (.cells #[.int .i64 x, .int .i64 p] 3)).grown grow9 (by rw [World.size_alloc]; omega) OW.out.block
  have B10 := Lib.hid (B8.out.trans (BG.mono B8.out.size))
  have C10 := Lib.hid (C8.out.below BG)
  have hN : ([(x : Int), (p : Int)] ++ l).length = N1 + 2 := by rw [List.length_append, ll]; simp; omega
  obtain ⟨q, b9, cap9, hv9, hs9, hc9⟩ := own9.reads (by rw [hN]; omega)
  rw [hN] at hv9 hs9
  subst hv9
  have S9 := Lib.hid (hs9.bel (Below.refl w9.heap.size w9).drew)
  clear own9 grow9 BG hs9 hc9 B8 C8 B9 L9 OW
  obtain ⟨c0, c1, -, -⟩ := C10.out
  have Hkd := Lib.hid (Kp.of c0 c1 (World.block_lt_of_cell? _ _ c0) (World.block_lt_of_cell? _ _ c1) (Below.refl w9.heap.size w9).drew)
  have hzz : (z == z) = true := by simp
  go_region_held3 (fun w' => w'.cell? ⟨w.heap.size, 0, none⟩ = some (.int .i64 C) ∧ w'.cell? ⟨w.heap.size, 1, none⟩ = some (.int .i64 T) ∧ RowKit.Below w9.heap.size w9 w')
    (first | with_reducible exact Hkd.out | ((with_reducible refine Kp.call ?_ hv3); (with_reducible assumption)))
    (first | (go_at_call 34; refine (KC.out _ q b9 cap9 (N1 + 2) S9.out (by omega)).mono ?_; rintro _ v3 ⟨rfl, hv3⟩))
  all_goals
    have HBW : Hid (RowKit.Below w9.heap.size w9 v3) := (‹_ ∧ _ ∧ RowKit.Below w9.heap.size w9 v3›).2.2
    go_wp2_with fail
    go_ret
    exact ⟨rfl, B10.out.trans (HBW.out.mono B10.out.size)⟩
end Go.Proofs.YtidhhndclkilnaaDoor
