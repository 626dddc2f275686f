/-
  The law on proofs: a proof that was made is right; with another S it is right only if the challenge agrees.
-/
import Derived.Test.YtidhhndclkilnaaDoorGFew
namespace Go.Proofs.YtidhhndclkilnaaDoor
open Go.RowKit Dg Gr

theorem eql_val {b x o y c s : Nat} (hb : mem b) (hb1 : b ≠ 1) (ho : mem o) (ho1 : o ≠ 1) (hx : mem x) (hy : mem y) (hc : c < 1073741789) (hs : s < 1073741789) :
    eqlR b x o y c s = ((((eqlC b x o y c s : Nat) : Int) == (c : Int)), 0) := by
  unfold eqlR
  rw [if_pos (by rw [basZ_of hb hb1, basZ_of ho ho1, memZ_of hx, memZ_of hy, expZ_of hc, expZ_of hs]; rfl)]
  simp only [Int.toNat_natCast]
set_option maxRecDepth 100000 in
set_option maxHeartbeats 3000000 in
theorem same_law (K : Con) (nb no nx nr nm : Nat) (w : World) (hT : Tab w) (h1 : nb < 18446744073709551616) (h2 : no < 18446744073709551616) (h3 : nx < 18446744073709551616) (h4 : nr < 18446744073709551616) (h5 : nm < 18446744073709551616) :
    Calls Tryd.prog 8 #[.int .u64 nb, .int .u64 no, .int .u64 nx, .int .u64 nr, .int .u64 nm] w fun e w' => e = .returned (.bool true) ∧ RowKit.Below w.heap.size w w' := by
  have HD := Lib.hid (fun w hT => head_any K w hT)
  have HT := Lib.hid hT
  have S1 := Lib.hid (fun w => rSecret_any nb w h1)
  have S2 := Lib.hid (fun w => rSecret_any no w h2)
  have S3 := Lib.hid (fun w => rSecret_any nx w h3)
  have S4 := Lib.hid (fun w => rSecret_any nr w h4)
  have S5 := Lib.hid (fun w => rSecret_any nm w h5)
  have lkb := scr_lt nb
  have lko := scr_lt no
  have lk := scr_lt nx
  have lr := scr_lt nr
  have lq := scr_lt nm
  generalize scrN nb = kb at *
  generalize scrN no = ko at *
  generalize scrN nx = k at *
  generalize scrN nr = r at *
  generalize scrN nm = q at *
  have P1 := Lib.hid (fun w => rpower_any 4 kb 2147483579 w (by decide) (by decide) (by decide) (by omega))
  have P2 := Lib.hid (fun w => rpower_any 4 ko 2147483579 w (by decide) (by decide) (by decide) (by omega))
  obtain ⟨B, hB⟩ : ∃ z, z = pw 4 kb P := ⟨_, rfl⟩
  obtain ⟨O, hO⟩ : ∃ z, z = pw 4 ko P := ⟨_, rfl⟩
  have mB : mem B ∧ B ≠ 1 := by rw [hB]; exact pub_ok lkb.1 lkb.2
  have mO : mem O ∧ O ≠ 1 := by rw [hO]; exact pub_ok lko.1 lko.2
  rw [show pw 4 kb 2147483579 = B from hB.symm] at P1
  rw [show pw 4 ko 2147483579 = O from hO.symm] at P2
  have P3 := Lib.hid (fun w => rpower_any B k 2147483579 w mB.1.2.1 (by decide) (by decide) (by omega))
  have P4 := Lib.hid (fun w => rpower_any O k 2147483579 w mO.1.2.1 (by decide) (by decide) (by omega))
  obtain ⟨x, hx⟩ : ∃ z, z = pw B k P := ⟨_, rfl⟩
  obtain ⟨y, hy⟩ : ∃ z, z = pw O k P := ⟨_, rfl⟩
  have mx : mem x := by rw [hx]; exact mem_pw mB.1.2.2 k
  have my : mem y := by rw [hy]; exact mem_pw mO.1.2.2 k
  rw [show pw B k 2147483579 = x from hx.symm] at P3
  rw [show pw O k 2147483579 = y from hy.symm] at P4
  obtain ⟨c, hc⟩ : ∃ z, z = samC B O k r := ⟨_, rfl⟩
  obtain ⟨s, hs⟩ : ∃ z, z = sgS c r k := ⟨_, rfl⟩
  have lc : c < 1073741789 := by rw [hc]; exact samC_lt _ _ _ _
  have ls : s < 1073741789 := by rw [hs]; exact sgS_lt _ _ _
  have G1 : Hid (∀ w : World, Tab w → Calls Tryd.prog 24 #[.int .i64 (B : Nat), .int .i64 (O : Nat), .int .i64 (k : Nat), .int .i64 (r : Nat)] w fun e w' => e = .returned (.tuple #[.agg #[.int .i64 (c : Nat), .int .i64 (s : Nat)], .int .i64 0]) ∧ RowKit.Below w.heap.size w w') := fun w hT => by
    have h := K.same B O k r w hT
    rw [sam_ok mB.1 mB.2 mO.1 mO.2 lk.1 lk.2 lr.1 lr.2, ← hc, ← hs] at h
    exact h
  have G2 : Hid (∀ w : World, Tab w → Calls Tryd.prog 26 #[.int .i64 (B : Nat), .int .i64 (x : Nat), .int .i64 (O : Nat), .int .i64 (y : Nat), .agg #[.int .i64 (c : Nat), .int .i64 (s : Nat)]] w fun e w' => e = .returned (.tuple #[.bool true, .int .i64 0]) ∧ RowKit.Below w.heap.size w w') := fun w hT => by
    have h := K.equal B x O y c s w hT
    have e := sam_right (x := k) (s := r) mB.1 mB.2 mO.1 mO.2
    rw [← hx, ← hy, ← hc, ← hs] at e
    rw [e] at h
    exact h
  obtain ⟨t, ht⟩ : ∃ z, z = (s + q) % 1073741789 := ⟨_, rfl⟩
  have lt_ : t < 1073741789 := by rw [ht]; exact Nat.mod_lt _ (by decide)
  have R1 : Hid (∀ w : World, Calls Tryd.prog 31 #[.int .i64 ((s : Int) + (q : Int))] w fun e w' => e = .returned (.int .i64 (t : Nat)) ∧ w' = w) := fun w => by
    have h := rrest_any ((s : Int) + (q : Int)) w
    rw [cast_addmod, ← ht] at h
    exact h
  obtain ⟨d, hd⟩ : ∃ z, z = eqlC B x O y c t := ⟨_, rfl⟩
  obtain ⟨z, hz⟩ : ∃ z, ((d : Int) == (c : Int)) = z := ⟨_, rfl⟩
  have G3 : Hid (∀ w : World, Tab w → Calls Tryd.prog 26 #[.int .i64 (B : Nat), .int .i64 (x : Nat), .int .i64 (O : Nat), .int .i64 (y : Nat), .agg #[.int .i64 (c : Nat), .int .i64 (t : Nat)]] w fun e w' => e = .returned (.tuple #[.bool z, .int .i64 0]) ∧ RowKit.Below w.heap.size w w') := fun w hT => by
    have h := K.equal B x O y c t w hT
    rw [eql_val mB.1 mB.2 mO.1 mO.2 mx my lc lt_, ← hd, hz] at h
    exact h
  have A1 := Lib.hid (fun w => rback_any B x c t w mB.1.2.1 mx.2.1 lc lt_)
  have A2 := Lib.hid (fun w => rback_any O y c t w mO.1.2.1 my.2.1 lc lt_)
  have l1 : bck B x c t < 2147483579 := Nat.mod_lt _ (by decide)
  have l2 : bck O y c t < 2147483579 := Nat.mod_lt _ (by decide)
  have lB : B < 2147483579 := mB.1.2.1
  have lO : O < 2147483579 := mO.1.2.1
  have lx : x < 2147483579 := mx.2.1
  have ly : y < 2147483579 := my.2.1
  unfold eqlC at hd
  generalize bck B x c t = y1 at *
  generalize bck O y c t = y2 at *
  have KC := Lib.hid (fun w p b3 cap3 hS3 => rchl_any [(B : Int), (x : Int), (O : Int), (y : Int), (y1 : Int), (y2 : Int)] p b3 0 cap3 6 w hS3 (i64s_cons (by omega) (i64s_cons (by omega) (i64s_cons (by omega) (i64s_cons (by omega) (i64s_cons (by omega) (i64s_cons (by omega) i64s_nil)))))) (by decide))
  have TW := Lib.hid (fun v => sl_six v (B : Int) (x : Int) (O : Int) (y : Int) (y1 : Int) (y2 : Int))
  rw [← hd] at KC
  have hw1 : IntKind.i64.wrap ((s : Int) + (q : Int)) = (s : Int) + (q : Int) := IntWalk.i64_in _ (by omega)
  clear hB hO mB mO hx hy mx my hc hs ht hd K hT
  go_enter Tryd.func8, Tryd.ntmps8
  go_wp2_with fail
  refine (HD.out _ HT.out).mono ?_
  rintro _ w1 ⟨rfl, hb⟩
  have B1 := Lib.hid hb
  clear hb
  go_wp2_with fail
  refine (S1.out _).mono ?_
  rintro _ _ ⟨rfl, rfl⟩
  go_wp2_with fail
  refine (P1.out _).mono ?_
  rintro _ _ ⟨rfl, rfl⟩
  go_wp2_with fail
  refine (S2.out _).mono ?_
  rintro _ _ ⟨rfl, rfl⟩
  go_wp2_with fail
  refine (P2.out _).mono ?_
  rintro _ _ ⟨rfl, rfl⟩
  go_wp2_with fail
  refine (S3.out _).mono ?_
  rintro _ _ ⟨rfl, rfl⟩
  go_wp2_with fail
  refine (P3.out _).mono ?_
  rintro _ _ ⟨rfl, rfl⟩
  go_wp2_with fail
  refine (P4.out _).mono ?_
  rintro _ _ ⟨rfl, rfl⟩
  go_wp2_with fail
  refine (S4.out _).mono ?_
  rintro _ _ ⟨rfl, rfl⟩
  go_wp2_with fail
  refine (G1.out _ (HT.out.below B1.out)).mono ?_
  rintro _ w2 ⟨rfl, hb⟩
  have B2 := Lib.hid (B1.out.trans (hb.mono B1.out.size))
  have B3 := Lib.hid (B2.out.alloc B2.out.size (.cells #[.int .i64 c, .int .i64 s] 23))
  have C3 := Lib.hid (Cel.new w2 (.int .i64 c) (.int .i64 s) 23)
  clear hb B1 B2
  go_wp2_with fail
  generalize w2.alloc (.cells #[.int .i64 c, .int .i64 s] 23) = w3 at *
  refine (G2.out _ (HT.out.below B3.out)).mono ?_
  rintro _ w4 ⟨rfl, hb⟩
  have B4 := Lib.hid (B3.out.trans (hb.mono B3.out.size))
  have C4 := Lib.hid (C3.out.below hb)
  clear hb B3 C3
  obtain ⟨c0, c1, -, -⟩ := C4.out
  have Hkd := Lib.hid (Kp.of c0 c1 (World.block_lt_of_cell? _ _ c0) (World.block_lt_of_cell? _ _ c1) (Below.refl w4.heap.size w4).drew)
  have Hka := Lib.hid (Kp.of c0 c1 (World.block_lt_of_cell? _ _ c0) (World.block_lt_of_cell? _ _ c1) ((Below.refl w4.heap.size w4).alloc (Nat.le_refl _) (.cells #[.int .i64 0, .int .i64 0] 23)).drew)
  have Hkb := Lib.hid (Kp.of c0 c1 (World.block_lt_of_cell? _ _ c0) (World.block_lt_of_cell? _ _ c1) ((Below.refl w4.heap.size w4).alloc (Nat.le_refl _) (.cells #[.int .i64 c, .int .i64 t] 23)).drew)
  go_wp2_with fail
  go_region_held3 (fun w' => w'.cell? ⟨w2.heap.size, 0, none⟩ = some (.int .i64 c) ∧ w'.cell? ⟨w2.heap.size, 1, none⟩ = some (.int .i64 s) ∧ RowKit.Below w4.heap.size w4 w')
    (first | with_reducible exact Hkd.out | with_reducible exact Hka.out | with_reducible exact Hkb.out | ((with_reducible refine Kp.alc ?_); (with_reducible assumption)))
    (first | (go_at_call 30; refine (S5.out _).mono ?_; rintro _ _ ⟨rfl, rfl⟩) | (go_at_call 31; refine (R1.out _).mono ?_; rintro _ _ ⟨rfl, rfl⟩))
  all_goals
    have B6 := Lib.hid ((B4.out.alloc B4.out.size (.cells #[.int .i64 c, .int .i64 t] 23)).drew)
    have C6 := Lib.hid ((Cel.new w4 (.int .i64 c) (.int .i64 t) 23).below (Below.refl _ _).drew)
    clear Hkd Hka Hkb c0 c1 C4
    generalize (w4.alloc (.cells #[.int .i64 c, .int .i64 t] 23)).drew = w6 at *
    obtain ⟨c0, c1, -, -⟩ := C6.out
    go_wp2_with fail
    refine (G3.out _ (HT.out.below B6.out)).mono ?_
    rintro _ w7 ⟨rfl, hb⟩
    have B7 := Lib.hid (B6.out.trans (hb.mono B6.out.size))
    have C7 := Lib.hid (C6.out.below hb)
    clear hb B6 C6 c0 c1
    obtain ⟨c0, c1, -, -⟩ := C7.out
    have Hkd := Lib.hid (Kp.of c0 c1 (World.block_lt_of_cell? _ _ c0) (World.block_lt_of_cell? _ _ c1) (Below.refl w7.heap.size w7).drew)
    go_wp2_with fail
    go_region_held3 (fun w' => w'.cell? ⟨w4.heap.size, 0, none⟩ = some (.int .i64 c) ∧ w'.cell? ⟨w4.heap.size, 1, none⟩ = some (.int .i64 t) ∧ RowKit.Below w7.heap.size w7 w')
      (first | with_reducible exact Hkd.out | ((with_reducible refine Kp.call ?_ hv1); (with_reducible assumption)) | ((with_reducible refine Kp.call ?_ hv2); (with_reducible assumption)) | ((with_reducible refine Kp.alc ?_); (with_reducible assumption)))
      (first | (go_at_call 33; (with_reducible show Calls _ _ #[.int .i64 B, .int .i64 x, _] _ _); refine (A1.out _).mono ?_; rintro _ v1 ⟨rfl, hv1⟩) | (go_at_call 33; (with_reducible show Calls _ _ #[.int .i64 O, .int .i64 y, _] _ _); refine (A2.out _).mono ?_; rintro _ v2 ⟨rfl, hv2⟩))
    have hK8 := ‹_ ∧ _ ∧ RowKit.Below w7.heap.size w7 (v2.alloc (.cells #[.int .i64 B, .int .i64 x, .int .i64 O, .int .i64 y, .int .i64 y1, .int .i64 y2] 3))›
    have S8 := Lib.hid (TW.out v2)
    generalize v2.alloc (.cells #[.int .i64 B, .int .i64 x, .int .i64 O, .int .i64 y, .int .i64 y1, .int .i64 y2] 3) = w8 at *
    clear Hkd c0 c1
    obtain ⟨c0, c1, hB8⟩ := hK8
    have B8 := Lib.hid (B7.out.trans (hB8.mono B7.out.size))
    have Hkd := Lib.hid (Kp.of c0 c1 (World.block_lt_of_cell? _ _ c0) (World.block_lt_of_cell? _ _ c1) (Below.refl w8.heap.size w8).drew)
    have S9 := Lib.hid (S8.out.bel (Below.refl w8.heap.size w8).drew)
    clear hB8 B7 C7 hv1 hv2 S8
    go_wp2_with fail
    go_region_held3 (fun w' => w'.cell? ⟨w4.heap.size, 0, none⟩ = some (.int .i64 c) ∧ w'.cell? ⟨w4.heap.size, 1, none⟩ = some (.int .i64 t) ∧ RowKit.Below w8.heap.size w8 w')
      (first | with_reducible exact Hkd.out | ((with_reducible refine Kp.call ?_ hv3); (with_reducible assumption)))
      (first | (go_at_call 34; refine (KC.out _ _ _ _ S9.out).mono ?_; rintro _ v3 ⟨rfl, hv3⟩))
    all_goals
      have HBW : Hid (RowKit.Below w8.heap.size w8 v3) := (‹_ ∧ _ ∧ RowKit.Below w8.heap.size w8 v3›).2.2
      go_wp2_with fail
      go_ret
      exact ⟨rfl, B8.out.trans (HBW.out.mono B8.out.size)⟩
end Go.Proofs.YtidhhndclkilnaaDoor
