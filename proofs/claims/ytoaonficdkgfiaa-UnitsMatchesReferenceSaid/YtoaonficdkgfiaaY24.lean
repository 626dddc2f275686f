/- Texts on units: LHead -/
import Derived.Test.YtoaonficdkgfiaaY23
namespace Go.Proofs.Ytoaonficdkgfiaa
open Go.RowKit Un MapKept

set_option maxRecDepth 100000 in
set_option maxHeartbeats 12000000 in
theorem lhead_any (w : World) : Calls Try.prog 10 #[] w fun e w' => e = .returned (.bool true) ∧ RowKit.Below w.heap.size w w' := by
 have B0 := Lib.hid (Below.refl w.heap.size w)
 go_enter Try.func10, Try.ntmps10
 go_wp2_with fail
 refine (ldecls_any _).mono ?_
 rintro _ V1 ⟨b1, rfl, hS, hB⟩
 have B1 := Lib.hid hB
 have S1 := Lib.hid hS
 clear hS hB B0
 go_wp2_with fail
 refine (lfact_any _ _ _).mono ?_
 rintro _ V2 ⟨rfl, hb⟩
 have B2 := Lib.hid (B1.out.trans (hb.mono B1.out.size))
 have S2 := Lib.hid (S1.out.bel hb)
 clear hb B1 S1
 obtain ⟨b2, hb2⟩ : ∃ b, b = V2.heap.size := ⟨_, rfl⟩
 go_wp2_with ((with_reducible show wpList _ _ _ ({ dst := some 2, op := _, type := _, pos := _, after := _, guard := _ } :: _) _ _); refine wl_nbox (L := [.int .i64 2, .int .i64 0, .string ⟨#[114, 101, 110, 116]⟩, .int .i64 0, .int .i64 0, .bool false, .int .i64 0, .int .i64 0, .int .i64 0, .slice none 0 0]) rfl rfl rfl rfl rfl (by simp [Value.oneCell']) rfl rfl ?_; intro V3 hb hs hx; have BB := Lib.hid (B2.out.trans (hb.mono B2.out.size)); have SS := Lib.hid (S2.out.bel hb); have X2 := Lib.hid hx; clear hb hx hs B2 S2; simp only [Act.put, zA, zB, zC]; rw [← hb2] at X2 ⊢; clear hb2)
 obtain ⟨K0, hK0⟩ : ∃ K0 : Act → World → Prop, K0 = (fun a V => ∃ b3 : Nat, HdA (.slice (some ⟨b1, 0, none⟩) 2 2) (.pointer (some ⟨b2, 0, none⟩)) (.pointer (some ⟨b3, 0, none⟩)) (.int .i64 0) (.int .i64 0) undef undef undef undef undef undef undef undef undef undef undef undef undef undef undef a ∧ Hid (RowKit.Below w.heap.size w V) ∧ Hid (SlR V (some ⟨b1, 0, none⟩) b1 0 2 8 (L0.map dC)) ∧ Hid (BoxL V b2 [.int .i64 2, .int .i64 0, .string ⟨#[114, 101, 110, 116]⟩, .int .i64 0, .int .i64 0, .bool false, .int .i64 0, .int .i64 0, .int .i64 0, .slice none 0 0]) ∧ Hid (BoxL V b3 [.bool false, .int .i64 1, .int .i64 0, .int .i64 0])) := ⟨_, rfl⟩
 have HK0 := Lib.hid hK0
 clear hK0
 rename_i hKrest
 refine Code.wp_mono (Q := Exit.then K0 (fun _ _ _ => False)) ?_ ?_
 rotate_left
 ·clear hKrest
  have hb := (Below.refl V3.heap.size V3).drew
  have hS : Hid (BoxL V3.drew b2 [.int .i64 2, .int .i64 0, .string ⟨#[114, 101, 110, 116]⟩, .int .i64 0, .int .i64 0, .bool false, .int .i64 0, .int .i64 0, .int .i64 0, .slice none 0 0]) := Lib.hid (X2.out.bel (by simp) hb)
  refine wp_region_held (S := fun w' : World => Hid (BoxL w' b2 [.int .i64 2, .int .i64 0, .string ⟨#[114, 101, 110, 116]⟩, .int .i64 0, .int .i64 0, .bool false, .int .i64 0, .int .i64 0, .int .i64 0, .slice none 0 0])) mixed ?_
  change wpAnyH _ _ _ _ _ _ _ _ V3.drew
  replace BB := Lib.hid (BB.out.trans (hb.mono BB.out.size))
  replace SS := Lib.hid (SS.out.bel hb)
  replace X2 := Lib.hid (X2.out.bel (by simp) hb)
  clear hb
  generalize V3.drew = U1 at *
  refine tk0 (v := ?_) (by kernel_rfl) (by kernel_rfl) (by kernel_rfl) (fun _ _ _ h => h) (Or.inl ⟨by rfl, ?_⟩) hS ?_
  rotate_left
  ·(intro w hSw; (try dsimp only at hSw); go_simp; try with_reducible rfl)
  simp only [Act.put, zA, zB, zC]
  refine tk1 (v := .agg ([.int .i64 2, .int .i64 0, .string ⟨#[114, 101, 110, 116]⟩, .int .i64 0, .int .i64 0, .bool false, .int .i64 0, .int .i64 0, .int .i64 0, .slice none 0 0]).toArray) (by kernel_rfl) (by kernel_rfl) (by kernel_rfl) (fun _ _ _ h => h) (Or.inl ⟨by kernel_rfl, ?_⟩) hS ?_
  ·intro w' hSw
   exact ex_load rfl rfl (load_row _ 10 (by kernel_rfl) (by kernel_rfl) w' b2 _ rfl (fun j v hv => (hSw.out j v hv).1))
  simp only [Act.put, zA, zB, zC]
  refine wpAnyH_ready (rs := [2, 9]) (by kernel_rfl) (by simp) (st2 (fun K hK => ?_) (st9 (fun K hK => ?_) AllReadyH.nil))
  ·go_simp
   refine (lnumber_any 2 7 _).mono ?_
   rintro _ U2 ⟨rfl, hb⟩
   go_wp2_with fail
   have hsz := hb.size
   replace BB := Lib.hid (BB.out.trans (hb.mono BB.out.size))
   replace SS := Lib.hid (SS.out.bel hb)
   replace X2 := Lib.hid (X2.out.bel (by simp) hb)
   have hS : Hid (BoxL U2 b2 [.int .i64 2, .int .i64 0, .string ⟨#[114, 101, 110, 116]⟩, .int .i64 0, .int .i64 0, .bool false, .int .i64 0, .int .i64 0, .int .i64 0, .slice none 0 0]) := X2
   clear hb hsz
   refine hK.out _ _ ?_ (fun hHeld => ?_)
   ·exact hS
   clear hK K
   try simp only [Act.put, zA, zB, zC]
   refine wpAnyH_ready (rs := [3, 9]) (by kernel_rfl) (by simp) (st3 (fun K hK => ?_) (st9 (fun K hK => ?_) AllReadyH.nil))
   ·go_simp
    refine (two_leaf 5 0 (nFact sRent 0) (nNum 2 7) _ (nfl _ _ _ _) (nnl _ _ _ _)).mono ?_
    rintro _ U3 ⟨q, c, rfl, HN, hb⟩
    go_wp2_with fail
    have hsz := hb.size
    replace BB := Lib.hid (BB.out.trans (hb.mono BB.out.size))
    replace SS := Lib.hid (SS.out.bel hb)
    replace X2 := Lib.hid (X2.out.bel (by simp) hb)
    have hS : Hid (BoxL U3 b2 [.int .i64 2, .int .i64 0, .string ⟨#[114, 101, 110, 116]⟩, .int .i64 0, .int .i64 0, .bool false, .int .i64 0, .int .i64 0, .int .i64 0, .slice none 0 0]) := X2
    clear hb hsz
    refine hK.out _ _ ?_ (fun hHeld => ?_)
    ·exact hS
    clear hK K
    try simp only [Act.put, zA, zB, zC]
    refine wpAnyH_ready (rs := [4, 9]) (by kernel_rfl) (by simp) (st4 (fun K hK => ?_) (st9 (fun K hK => ?_) AllReadyH.nil))
    ·go_simp
     refine (of_two 5 0 (nFact sRent 0) (nNum 2 7) _ (nin_f _ _) (nin_n _ _ (by unfold in64; omega)) hm1 b1 q c _ SS.out HN.out).mono ?_
     rintro _ U4 ⟨he, hb⟩
     replace he : _ = Ending.returned (.tuple #[.agg ([.bool false, .int .i64 1, .int .i64 0, .int .i64 0] : List Value).toArray, .int .i64 0, .int .i64 0]) := he
     subst he
     go_wp2_with fail
     clear HN
     have hsz := hb.size
     replace BB := Lib.hid (BB.out.trans (hb.mono BB.out.size))
     replace SS := Lib.hid (SS.out.bel hb)
     replace X2 := Lib.hid (X2.out.bel (by simp) hb)
     have hS : Hid (BoxL U4 b2 [.int .i64 2, .int .i64 0, .string ⟨#[114, 101, 110, 116]⟩, .int .i64 0, .int .i64 0, .bool false, .int .i64 0, .int .i64 0, .int .i64 0, .slice none 0 0]) := X2
     clear hb hsz
     refine hK.out _ _ ?_ (fun hHeld => ?_)
     ·exact hS
     clear hK K
     try simp only [Act.put, zA, zB, zC]
     refine tk5 (v := ?_) (by kernel_rfl) (by kernel_rfl) (by kernel_rfl) (fun _ _ _ h => h) (Or.inl ⟨by rfl, ?_⟩) hS ?_
     rotate_left
     ·(intro w hSw; (try dsimp only at hSw); go_simp; try with_reducible rfl)
     simp only [Act.put, zA, zB, zC]
     refine tk6 (v := ?_) (by kernel_rfl) (by kernel_rfl) (by kernel_rfl) (fun _ _ _ h => h) (Or.inl ⟨by rfl, ?_⟩) hS ?_
     rotate_left
     ·(intro w hSw; (try dsimp only at hSw); go_simp; try with_reducible rfl)
     simp only [Act.put, zA, zB, zC]
     refine tk7 (v := ?_) (by kernel_rfl) (by kernel_rfl) (by kernel_rfl) (fun _ _ _ h => h) (Or.inl ⟨by rfl, ?_⟩) hS ?_
     rotate_left
     ·(intro w hSw; (try dsimp only at hSw); go_simp; try with_reducible rfl)
     simp only [Act.put, zA, zB, zC]
     refine tk8 (v := ?_) (by kernel_rfl) (by kernel_rfl) (by kernel_rfl) (fun _ _ _ h => h) (Or.inl ⟨by rfl, ?_⟩) hS ?_
     rotate_left
     ·(intro w hSw; (try dsimp only at hSw); go_simp; try with_reducible rfl)
     simp only [Act.put, zA, zB, zC]
     refine wpAnyH_ready (rs := [9]) (by kernel_rfl) (by simp) (st9 (fun K hK => ?_) AllReadyH.nil)
     refine (if_pos (by kernel_rfl)).mpr ?_
     refine wp_alloc rfl (alloc_unit _) ?_
     have hb := (Below.refl U4.heap.size U4).alloc (Nat.le_refl _) (.cells ([.bool false, .int .i64 0, .int .i64 0, .int .i64 0] : List Value).toArray 29)
     have D := Lib.hid (BoxL.new U4 [.bool false, .int .i64 0, .int .i64 0, .int .i64 0] 29)
     obtain ⟨U5, hU5⟩ : ∃ V, U4.alloc (.cells ([.bool false, .int .i64 0, .int .i64 0, .int .i64 0] : List Value).toArray 29) = V := ⟨_, rfl⟩
     rw [hU5] at hb D ⊢
     clear hU5
     obtain ⟨bn, hbn⟩ : ∃ b, b = U4.heap.size := ⟨_, rfl⟩
     rw [← hbn] at D ⊢
     have hbl : w.heap.size ≤ bn := by rw [hbn]; exact BB.out.size
     have q2 : b2 < bn := by rw [hbn]; exact X2.out.lt (by simp)
     have q1 : b1 < bn := by rw [hbn]; exact SS.out.lt (by omega)
     clear hbn
     have hsz := hb.size
     replace BB := Lib.hid (BB.out.trans (hb.mono BB.out.size))
     replace SS := Lib.hid (SS.out.bel hb)
     replace X2 := Lib.hid (X2.out.bel (by simp) hb)
     have hS : Hid (BoxL U5 b2 [.int .i64 2, .int .i64 0, .string ⟨#[114, 101, 110, 116]⟩, .int .i64 0, .int .i64 0, .bool false, .int .i64 0, .int .i64 0, .int .i64 0, .slice none 0 0]) := X2
     clear hb hsz

     refine hK.out _ _ ?_ (fun hHeld => ?_)
     ·exact hS
     clear hK K
     try simp only [Act.put, zA, zB, zC]
     refine wpAnyH_ready (rs := [10]) (by kernel_rfl) (by simp) (st10 (fun K hK => ?_) AllReadyH.nil)
     refine (if_pos (by kernel_rfl)).mpr ?_
     refine wp_store rfl rfl rfl (store_row 29 4 (by kernel_rfl) U5 bn [.bool false, .int .i64 0, .int .i64 0, .int .i64 0] [.bool false, .int .i64 1, .int .i64 0, .int .i64 0] D.out rfl rfl (by simp [Value.oneCell'])) ?_
     replace D := Lib.hid (D.out.cells (L := [.bool false, .int .i64 1, .int .i64 0, .int .i64 0]) rfl)
     have hk := kept_setCells (b := bn) (w := U5) [.bool false, .int .i64 1, .int .i64 0, .int .i64 0] 0 U5 (Kept.refl _ _)
     replace BB := Lib.hid (below_kept BB.out hk hbl)
     replace SS := Lib.hid (SS.out.of_block (fun _ => hk.block b1 (SS.out.lt (by omega)) (by omega)) hk.size)
     replace X2 := Lib.hid (X2.out.call (by simp) hk (by omega))
     have hS : Hid (BoxL _ b2 [.int .i64 2, .int .i64 0, .string ⟨#[114, 101, 110, 116]⟩, .int .i64 0, .int .i64 0, .bool false, .int .i64 0, .int .i64 0, .int .i64 0, .slice none 0 0]) := X2
     clear hk
     generalize U5.setCells bn 0 [.bool false, .int .i64 1, .int .i64 0, .int .i64 0] = U6 at *
     refine hK.out _ _ ?_ (fun hHeld => ?_)
     ·exact hS
     clear hK K
     try simp only [Act.put]
     refine tk11 (v := ?_) (by kernel_rfl) (by kernel_rfl) (by kernel_rfl) (fun _ _ _ h => h) (Or.inl ⟨by rfl, ?_⟩) hS ?_
     rotate_left
     ·(intro w hSw; (try dsimp only at hSw); go_simp; try with_reducible rfl)
     simp only [Act.put, zA, zB, zC]
     refine tk12 (v := ?_) (by kernel_rfl) (by kernel_rfl) (by kernel_rfl) (fun _ _ _ h => h) (Or.inl ⟨by rfl, ?_⟩) hS ?_
     rotate_left
     ·(intro w hSw; (try dsimp only at hSw); go_simp; try with_reducible rfl)
     simp only [Act.put, zA, zB, zC]
     refine wpAnyH_done (by kernel_rfl) ?_ _
     clear hS
     show K0 _ _
     rw [HK0.out]
     exact ⟨bn, by constructor, BB, SS, X2, D⟩
    ·refine (if_pos (by kernel_rfl)).mpr ?_
     refine wp_alloc rfl (alloc_unit _) ?_
     have hb := (Below.refl U3.heap.size U3).alloc (Nat.le_refl _) (.cells ([.bool false, .int .i64 0, .int .i64 0, .int .i64 0] : List Value).toArray 29)
     have D := Lib.hid (BoxL.new U3 [.bool false, .int .i64 0, .int .i64 0, .int .i64 0] 29)
     obtain ⟨U7, hU7⟩ : ∃ V, U3.alloc (.cells ([.bool false, .int .i64 0, .int .i64 0, .int .i64 0] : List Value).toArray 29) = V := ⟨_, rfl⟩
     rw [hU7] at hb D ⊢
     clear hU7
     obtain ⟨bn, hbn⟩ : ∃ b, b = U3.heap.size := ⟨_, rfl⟩
     rw [← hbn] at D ⊢
     have hbl : w.heap.size ≤ bn := by rw [hbn]; exact BB.out.size
     have q2 : b2 < bn := by rw [hbn]; exact X2.out.lt (by simp)
     have q1 : b1 < bn := by rw [hbn]; exact SS.out.lt (by omega)
     clear hbn
     have hsz := hb.size
     replace BB := Lib.hid (BB.out.trans (hb.mono BB.out.size))
     replace SS := Lib.hid (SS.out.bel hb)
     replace X2 := Lib.hid (X2.out.bel (by simp) hb)
     have hS : Hid (BoxL U7 b2 [.int .i64 2, .int .i64 0, .string ⟨#[114, 101, 110, 116]⟩, .int .i64 0, .int .i64 0, .bool false, .int .i64 0, .int .i64 0, .int .i64 0, .slice none 0 0]) := X2
     replace HN := Lib.hid (NdM.bel hb HN.out)
     clear hb hsz

     refine hK.out _ _ ?_ (fun hHeld => ?_)
     ·exact hS
     clear hK K
     try simp only [Act.put, zA, zB, zC]
     refine wpAnyH_ready (rs := [4]) (by kernel_rfl) (by simp) (st4 (fun K hK => ?_) AllReadyH.nil)
     go_simp
     refine (of_two 5 0 (nFact sRent 0) (nNum 2 7) _ (nin_f _ _) (nin_n _ _ (by unfold in64; omega)) hm1 b1 q c _ SS.out HN.out).mono ?_
     rintro _ U8 ⟨he, hb⟩
     replace he : _ = Ending.returned (.tuple #[.agg ([.bool false, .int .i64 1, .int .i64 0, .int .i64 0] : List Value).toArray, .int .i64 0, .int .i64 0]) := he
     subst he
     go_wp2_with fail
     clear HN
     have hsz := hb.size
     replace BB := Lib.hid (BB.out.trans (hb.mono BB.out.size))
     replace SS := Lib.hid (SS.out.bel hb)
     replace X2 := Lib.hid (X2.out.bel (by simp) hb)
     replace D := Lib.hid (D.out.bel (by simp) hb)
     have hS : Hid (BoxL U8 b2 [.int .i64 2, .int .i64 0, .string ⟨#[114, 101, 110, 116]⟩, .int .i64 0, .int .i64 0, .bool false, .int .i64 0, .int .i64 0, .int .i64 0, .slice none 0 0]) := X2
     clear hb hsz
     refine hK.out _ _ ?_ (fun hHeld => ?_)
     ·exact hS
     clear hK K
     try simp only [Act.put, zA, zB, zC]
     refine tk5 (v := ?_) (by kernel_rfl) (by kernel_rfl) (by kernel_rfl) (fun _ _ _ h => h) (Or.inl ⟨by rfl, ?_⟩) hS ?_
     rotate_left
     ·(intro w hSw; (try dsimp only at hSw); go_simp; try with_reducible rfl)
     simp only [Act.put, zA, zB, zC]
     refine tk6 (v := ?_) (by kernel_rfl) (by kernel_rfl) (by kernel_rfl) (fun _ _ _ h => h) (Or.inl ⟨by rfl, ?_⟩) hS ?_
     rotate_left
     ·(intro w hSw; (try dsimp only at hSw); go_simp; try with_reducible rfl)
     simp only [Act.put, zA, zB, zC]
     refine tk7 (v := ?_) (by kernel_rfl) (by kernel_rfl) (by kernel_rfl) (fun _ _ _ h => h) (Or.inl ⟨by rfl, ?_⟩) hS ?_
     rotate_left
     ·(intro w hSw; (try dsimp only at hSw); go_simp; try with_reducible rfl)
     simp only [Act.put, zA, zB, zC]
     refine tk8 (v := ?_) (by kernel_rfl) (by kernel_rfl) (by kernel_rfl) (fun _ _ _ h => h) (Or.inl ⟨by rfl, ?_⟩) hS ?_
     rotate_left
     ·(intro w hSw; (try dsimp only at hSw); go_simp; try with_reducible rfl)
     simp only [Act.put, zA, zB, zC]
     refine wpAnyH_ready (rs := [10]) (by kernel_rfl) (by simp) (st10 (fun K hK => ?_) AllReadyH.nil)
     refine (if_pos (by kernel_rfl)).mpr ?_
     refine wp_store rfl rfl rfl (store_row 29 4 (by kernel_rfl) U8 bn [.bool false, .int .i64 0, .int .i64 0, .int .i64 0] [.bool false, .int .i64 1, .int .i64 0, .int .i64 0] D.out rfl rfl (by simp [Value.oneCell'])) ?_
     replace D := Lib.hid (D.out.cells (L := [.bool false, .int .i64 1, .int .i64 0, .int .i64 0]) rfl)
     have hk := kept_setCells (b := bn) (w := U8) [.bool false, .int .i64 1, .int .i64 0, .int .i64 0] 0 U8 (Kept.refl _ _)
     replace BB := Lib.hid (below_kept BB.out hk hbl)
     replace SS := Lib.hid (SS.out.of_block (fun _ => hk.block b1 (SS.out.lt (by omega)) (by omega)) hk.size)
     replace X2 := Lib.hid (X2.out.call (by simp) hk (by omega))
     have hS : Hid (BoxL _ b2 [.int .i64 2, .int .i64 0, .string ⟨#[114, 101, 110, 116]⟩, .int .i64 0, .int .i64 0, .bool false, .int .i64 0, .int .i64 0, .int .i64 0, .slice none 0 0]) := X2
     clear hk
     generalize U8.setCells bn 0 [.bool false, .int .i64 1, .int .i64 0, .int .i64 0] = U9 at *
     refine hK.out _ _ ?_ (fun hHeld => ?_)
     ·exact hS
     clear hK K
     try simp only [Act.put]
     refine tk11 (v := ?_) (by kernel_rfl) (by kernel_rfl) (by kernel_rfl) (fun _ _ _ h => h) (Or.inl ⟨by rfl, ?_⟩) hS ?_
     rotate_left
     ·(intro w hSw; (try dsimp only at hSw); go_simp; try with_reducible rfl)
     simp only [Act.put, zA, zB, zC]
     refine tk12 (v := ?_) (by kernel_rfl) (by kernel_rfl) (by kernel_rfl) (fun _ _ _ h => h) (Or.inl ⟨by rfl, ?_⟩) hS ?_
     rotate_left
     ·(intro w hSw; (try dsimp only at hSw); go_simp; try with_reducible rfl)
     simp only [Act.put, zA, zB, zC]
     refine wpAnyH_done (by kernel_rfl) ?_ _
     clear hS
     show K0 _ _
     rw [HK0.out]
     exact ⟨bn, by constructor, BB, SS, X2, D⟩
   ·refine (if_pos (by kernel_rfl)).mpr ?_
    refine wp_alloc rfl (alloc_unit _) ?_
    have hb := (Below.refl U2.heap.size U2).alloc (Nat.le_refl _) (.cells ([.bool false, .int .i64 0, .int .i64 0, .int .i64 0] : List Value).toArray 29)
    have D := Lib.hid (BoxL.new U2 [.bool false, .int .i64 0, .int .i64 0, .int .i64 0] 29)
    obtain ⟨U10, hU10⟩ : ∃ V, U2.alloc (.cells ([.bool false, .int .i64 0, .int .i64 0, .int .i64 0] : List Value).toArray 29) = V := ⟨_, rfl⟩
    rw [hU10] at hb D ⊢
    clear hU10
    obtain ⟨bn, hbn⟩ : ∃ b, b = U2.heap.size := ⟨_, rfl⟩
    rw [← hbn] at D ⊢
    have hbl : w.heap.size ≤ bn := by rw [hbn]; exact BB.out.size
    have q2 : b2 < bn := by rw [hbn]; exact X2.out.lt (by simp)
    have q1 : b1 < bn := by rw [hbn]; exact SS.out.lt (by omega)
    clear hbn
    have hsz := hb.size
    replace BB := Lib.hid (BB.out.trans (hb.mono BB.out.size))
    replace SS := Lib.hid (SS.out.bel hb)
    replace X2 := Lib.hid (X2.out.bel (by simp) hb)
    have hS : Hid (BoxL U10 b2 [.int .i64 2, .int .i64 0, .string ⟨#[114, 101, 110, 116]⟩, .int .i64 0, .int .i64 0, .bool false, .int .i64 0, .int .i64 0, .int .i64 0, .slice none 0 0]) := X2
    clear hb hsz
    refine hK.out _ _ ?_ (fun hHeld => ?_)
    ·exact hS
    clear hK K
    try simp only [Act.put, zA, zB, zC]
    refine wpAnyH_ready (rs := [3]) (by kernel_rfl) (by simp) (st3 (fun K hK => ?_) AllReadyH.nil)
    go_simp
    refine (two_leaf 5 0 (nFact sRent 0) (nNum 2 7) _ (nfl _ _ _ _) (nnl _ _ _ _)).mono ?_
    rintro _ U11 ⟨q, c, rfl, HN, hb⟩
    go_wp2_with fail
    have hsz := hb.size
    replace BB := Lib.hid (BB.out.trans (hb.mono BB.out.size))
    replace SS := Lib.hid (SS.out.bel hb)
    replace X2 := Lib.hid (X2.out.bel (by simp) hb)
    replace D := Lib.hid (D.out.bel (by simp) hb)
    have hS : Hid (BoxL U11 b2 [.int .i64 2, .int .i64 0, .string ⟨#[114, 101, 110, 116]⟩, .int .i64 0, .int .i64 0, .bool false, .int .i64 0, .int .i64 0, .int .i64 0, .slice none 0 0]) := X2
    clear hb hsz
    refine hK.out _ _ ?_ (fun hHeld => ?_)
    ·exact hS
    clear hK K
    try simp only [Act.put, zA, zB, zC]
    refine wpAnyH_ready (rs := [4]) (by kernel_rfl) (by simp) (st4 (fun K hK => ?_) AllReadyH.nil)
    go_simp
    refine (of_two 5 0 (nFact sRent 0) (nNum 2 7) _ (nin_f _ _) (nin_n _ _ (by unfold in64; omega)) hm1 b1 q c _ SS.out HN.out).mono ?_
    rintro _ U12 ⟨he, hb⟩
    replace he : _ = Ending.returned (.tuple #[.agg ([.bool false, .int .i64 1, .int .i64 0, .int .i64 0] : List Value).toArray, .int .i64 0, .int .i64 0]) := he
    subst he
    go_wp2_with fail
    clear HN
    have hsz := hb.size
    replace BB := Lib.hid (BB.out.trans (hb.mono BB.out.size))
    replace SS := Lib.hid (SS.out.bel hb)
    replace X2 := Lib.hid (X2.out.bel (by simp) hb)
    replace D := Lib.hid (D.out.bel (by simp) hb)
    have hS : Hid (BoxL U12 b2 [.int .i64 2, .int .i64 0, .string ⟨#[114, 101, 110, 116]⟩, .int .i64 0, .int .i64 0, .bool false, .int .i64 0, .int .i64 0, .int .i64 0, .slice none 0 0]) := X2
    clear hb hsz
    refine hK.out _ _ ?_ (fun hHeld => ?_)
    ·exact hS
    clear hK K
    try simp only [Act.put, zA, zB, zC]
    refine tk5 (v := ?_) (by kernel_rfl) (by kernel_rfl) (by kernel_rfl) (fun _ _ _ h => h) (Or.inl ⟨by rfl, ?_⟩) hS ?_
    rotate_left
    ·(intro w hSw; (try dsimp only at hSw); go_simp; try with_reducible rfl)
    simp only [Act.put, zA, zB, zC]
    refine tk6 (v := ?_) (by kernel_rfl) (by kernel_rfl) (by kernel_rfl) (fun _ _ _ h => h) (Or.inl ⟨by rfl, ?_⟩) hS ?_
    rotate_left
    ·(intro w hSw; (try dsimp only at hSw); go_simp; try with_reducible rfl)
    simp only [Act.put, zA, zB, zC]
    refine tk7 (v := ?_) (by kernel_rfl) (by kernel_rfl) (by kernel_rfl) (fun _ _ _ h => h) (Or.inl ⟨by rfl, ?_⟩) hS ?_
    rotate_left
    ·(intro w hSw; (try dsimp only at hSw); go_simp; try with_reducible rfl)
    simp only [Act.put, zA, zB, zC]
    refine tk8 (v := ?_) (by kernel_rfl) (by kernel_rfl) (by kernel_rfl) (fun _ _ _ h => h) (Or.inl ⟨by rfl, ?_⟩) hS ?_
    rotate_left
    ·(intro w hSw; (try dsimp only at hSw); go_simp; try with_reducible rfl)
    simp only [Act.put, zA, zB, zC]
    refine wpAnyH_ready (rs := [10]) (by kernel_rfl) (by simp) (st10 (fun K hK => ?_) AllReadyH.nil)
    refine (if_pos (by kernel_rfl)).mpr ?_
    refine wp_store rfl rfl rfl (store_row 29 4 (by kernel_rfl) U12 bn [.bool false, .int .i64 0, .int .i64 0, .int .i64 0] [.bool false, .int .i64 1, .int .i64 0, .int .i64 0] D.out rfl rfl (by simp [Value.oneCell'])) ?_
    replace D := Lib.hid (D.out.cells (L := [.bool false, .int .i64 1, .int .i64 0, .int .i64 0]) rfl)
    have hk := kept_setCells (b := bn) (w := U12) [.bool false, .int .i64 1, .int .i64 0, .int .i64 0] 0 U12 (Kept.refl _ _)
    replace BB := Lib.hid (below_kept BB.out hk hbl)
    replace SS := Lib.hid (SS.out.of_block (fun _ => hk.block b1 (SS.out.lt (by omega)) (by omega)) hk.size)
    replace X2 := Lib.hid (X2.out.call (by simp) hk (by omega))
    have hS : Hid (BoxL _ b2 [.int .i64 2, .int .i64 0, .string ⟨#[114, 101, 110, 116]⟩, .int .i64 0, .int .i64 0, .bool false, .int .i64 0, .int .i64 0, .int .i64 0, .slice none 0 0]) := X2
    clear hk
    generalize U12.setCells bn 0 [.bool false, .int .i64 1, .int .i64 0, .int .i64 0] = U13 at *
    refine hK.out _ _ ?_ (fun hHeld => ?_)
    ·exact hS
    clear hK K
    try simp only [Act.put]
    refine tk11 (v := ?_) (by kernel_rfl) (by kernel_rfl) (by kernel_rfl) (fun _ _ _ h => h) (Or.inl ⟨by rfl, ?_⟩) hS ?_
    rotate_left
    ·(intro w hSw; (try dsimp only at hSw); go_simp; try with_reducible rfl)
    simp only [Act.put, zA, zB, zC]
    refine tk12 (v := ?_) (by kernel_rfl) (by kernel_rfl) (by kernel_rfl) (fun _ _ _ h => h) (Or.inl ⟨by rfl, ?_⟩) hS ?_
    rotate_left
    ·(intro w hSw; (try dsimp only at hSw); go_simp; try with_reducible rfl)
    simp only [Act.put, zA, zB, zC]
    refine wpAnyH_done (by kernel_rfl) ?_ _
    clear hS
    show K0 _ _
    rw [HK0.out]
    exact ⟨bn, by constructor, BB, SS, X2, D⟩
  ·refine (if_pos (by kernel_rfl)).mpr ?_
   refine wp_alloc rfl (alloc_unit _) ?_
   have hb := (Below.refl U1.heap.size U1).alloc (Nat.le_refl _) (.cells ([.bool false, .int .i64 0, .int .i64 0, .int .i64 0] : List Value).toArray 29)
   have D := Lib.hid (BoxL.new U1 [.bool false, .int .i64 0, .int .i64 0, .int .i64 0] 29)
   obtain ⟨U14, hU14⟩ : ∃ V, U1.alloc (.cells ([.bool false, .int .i64 0, .int .i64 0, .int .i64 0] : List Value).toArray 29) = V := ⟨_, rfl⟩
   rw [hU14] at hb D ⊢
   clear hU14
   obtain ⟨bn, hbn⟩ : ∃ b, b = U1.heap.size := ⟨_, rfl⟩
   rw [← hbn] at D ⊢
   have hbl : w.heap.size ≤ bn := by rw [hbn]; exact BB.out.size
   have q2 : b2 < bn := by rw [hbn]; exact X2.out.lt (by simp)
   have q1 : b1 < bn := by rw [hbn]; exact SS.out.lt (by omega)
   clear hbn
   have hsz := hb.size
   replace BB := Lib.hid (BB.out.trans (hb.mono BB.out.size))
   replace SS := Lib.hid (SS.out.bel hb)
   replace X2 := Lib.hid (X2.out.bel (by simp) hb)
   have hS : Hid (BoxL U14 b2 [.int .i64 2, .int .i64 0, .string ⟨#[114, 101, 110, 116]⟩, .int .i64 0, .int .i64 0, .bool false, .int .i64 0, .int .i64 0, .int .i64 0, .slice none 0 0]) := X2
   clear hb hsz
   refine hK.out _ _ ?_ (fun hHeld => ?_)
   ·exact hS
   clear hK K
   try simp only [Act.put, zA, zB, zC]
   refine wpAnyH_ready (rs := [2]) (by kernel_rfl) (by simp) (st2 (fun K hK => ?_) AllReadyH.nil)
   go_simp
   refine (lnumber_any 2 7 _).mono ?_
   rintro _ U15 ⟨rfl, hb⟩
   go_wp2_with fail
   have hsz := hb.size
   replace BB := Lib.hid (BB.out.trans (hb.mono BB.out.size))
   replace SS := Lib.hid (SS.out.bel hb)
   replace X2 := Lib.hid (X2.out.bel (by simp) hb)
   replace D := Lib.hid (D.out.bel (by simp) hb)
   have hS : Hid (BoxL U15 b2 [.int .i64 2, .int .i64 0, .string ⟨#[114, 101, 110, 116]⟩, .int .i64 0, .int .i64 0, .bool false, .int .i64 0, .int .i64 0, .int .i64 0, .slice none 0 0]) := X2
   clear hb hsz
   refine hK.out _ _ ?_ (fun hHeld => ?_)
   ·exact hS
   clear hK K
   try simp only [Act.put, zA, zB, zC]
   refine wpAnyH_ready (rs := [3]) (by kernel_rfl) (by simp) (st3 (fun K hK => ?_) AllReadyH.nil)
   go_simp
   refine (two_leaf 5 0 (nFact sRent 0) (nNum 2 7) _ (nfl _ _ _ _) (nnl _ _ _ _)).mono ?_
   rintro _ U16 ⟨q, c, rfl, HN, hb⟩
   go_wp2_with fail
   have hsz := hb.size
   replace BB := Lib.hid (BB.out.trans (hb.mono BB.out.size))
   replace SS := Lib.hid (SS.out.bel hb)
   replace X2 := Lib.hid (X2.out.bel (by simp) hb)
   replace D := Lib.hid (D.out.bel (by simp) hb)
   have hS : Hid (BoxL U16 b2 [.int .i64 2, .int .i64 0, .string ⟨#[114, 101, 110, 116]⟩, .int .i64 0, .int .i64 0, .bool false, .int .i64 0, .int .i64 0, .int .i64 0, .slice none 0 0]) := X2
   clear hb hsz
   refine hK.out _ _ ?_ (fun hHeld => ?_)
   ·exact hS
   clear hK K
   try simp only [Act.put, zA, zB, zC]
   refine wpAnyH_ready (rs := [4]) (by kernel_rfl) (by simp) (st4 (fun K hK => ?_) AllReadyH.nil)
   go_simp
   refine (of_two 5 0 (nFact sRent 0) (nNum 2 7) _ (nin_f _ _) (nin_n _ _ (by unfold in64; omega)) hm1 b1 q c _ SS.out HN.out).mono ?_
   rintro _ U17 ⟨he, hb⟩
   replace he : _ = Ending.returned (.tuple #[.agg ([.bool false, .int .i64 1, .int .i64 0, .int .i64 0] : List Value).toArray, .int .i64 0, .int .i64 0]) := he
   subst he
   go_wp2_with fail
   clear HN
   have hsz := hb.size
   replace BB := Lib.hid (BB.out.trans (hb.mono BB.out.size))
   replace SS := Lib.hid (SS.out.bel hb)
   replace X2 := Lib.hid (X2.out.bel (by simp) hb)
   replace D := Lib.hid (D.out.bel (by simp) hb)
   have hS : Hid (BoxL U17 b2 [.int .i64 2, .int .i64 0, .string ⟨#[114, 101, 110, 116]⟩, .int .i64 0, .int .i64 0, .bool false, .int .i64 0, .int .i64 0, .int .i64 0, .slice none 0 0]) := X2
   clear hb hsz
   refine hK.out _ _ ?_ (fun hHeld => ?_)
   ·exact hS
   clear hK K
   try simp only [Act.put, zA, zB, zC]
   refine tk5 (v := ?_) (by kernel_rfl) (by kernel_rfl) (by kernel_rfl) (fun _ _ _ h => h) (Or.inl ⟨by rfl, ?_⟩) hS ?_
   rotate_left
   ·(intro w hSw; (try dsimp only at hSw); go_simp; try with_reducible rfl)
   simp only [Act.put, zA, zB, zC]
   refine tk6 (v := ?_) (by kernel_rfl) (by kernel_rfl) (by kernel_rfl) (fun _ _ _ h => h) (Or.inl ⟨by rfl, ?_⟩) hS ?_
   rotate_left
   ·(intro w hSw; (try dsimp only at hSw); go_simp; try with_reducible rfl)
   simp only [Act.put, zA, zB, zC]
   refine tk7 (v := ?_) (by kernel_rfl) (by kernel_rfl) (by kernel_rfl) (fun _ _ _ h => h) (Or.inl ⟨by rfl, ?_⟩) hS ?_
   rotate_left
   ·(intro w hSw; (try dsimp only at hSw); go_simp; try with_reducible rfl)
   simp only [Act.put, zA, zB, zC]
   refine tk8 (v := ?_) (by kernel_rfl) (by kernel_rfl) (by kernel_rfl) (fun _ _ _ h => h) (Or.inl ⟨by rfl, ?_⟩) hS ?_
   rotate_left
   ·(intro w hSw; (try dsimp only at hSw); go_simp; try with_reducible rfl)
   simp only [Act.put, zA, zB, zC]
   refine wpAnyH_ready (rs := [10]) (by kernel_rfl) (by simp) (st10 (fun K hK => ?_) AllReadyH.nil)
   refine (if_pos (by kernel_rfl)).mpr ?_
   refine wp_store rfl rfl rfl (store_row 29 4 (by kernel_rfl) U17 bn [.bool false, .int .i64 0, .int .i64 0, .int .i64 0] [.bool false, .int .i64 1, .int .i64 0, .int .i64 0] D.out rfl rfl (by simp [Value.oneCell'])) ?_
   replace D := Lib.hid (D.out.cells (L := [.bool false, .int .i64 1, .int .i64 0, .int .i64 0]) rfl)
   have hk := kept_setCells (b := bn) (w := U17) [.bool false, .int .i64 1, .int .i64 0, .int .i64 0] 0 U17 (Kept.refl _ _)
   replace BB := Lib.hid (below_kept BB.out hk hbl)
   replace SS := Lib.hid (SS.out.of_block (fun _ => hk.block b1 (SS.out.lt (by omega)) (by omega)) hk.size)
   replace X2 := Lib.hid (X2.out.call (by simp) hk (by omega))
   have hS : Hid (BoxL _ b2 [.int .i64 2, .int .i64 0, .string ⟨#[114, 101, 110, 116]⟩, .int .i64 0, .int .i64 0, .bool false, .int .i64 0, .int .i64 0, .int .i64 0, .slice none 0 0]) := X2
   clear hk
   generalize U17.setCells bn 0 [.bool false, .int .i64 1, .int .i64 0, .int .i64 0] = U18 at *
   refine hK.out _ _ ?_ (fun hHeld => ?_)
   ·exact hS
   clear hK K
   try simp only [Act.put]
   refine tk11 (v := ?_) (by kernel_rfl) (by kernel_rfl) (by kernel_rfl) (fun _ _ _ h => h) (Or.inl ⟨by rfl, ?_⟩) hS ?_
   rotate_left
   ·(intro w hSw; (try dsimp only at hSw); go_simp; try with_reducible rfl)
   simp only [Act.put, zA, zB, zC]
   refine tk12 (v := ?_) (by kernel_rfl) (by kernel_rfl) (by kernel_rfl) (fun _ _ _ h => h) (Or.inl ⟨by rfl, ?_⟩) hS ?_
   rotate_left
   ·(intro w hSw; (try dsimp only at hSw); go_simp; try with_reducible rfl)
   simp only [Act.put, zA, zB, zC]
   refine wpAnyH_done (by kernel_rfl) ?_ _
   clear hS
   show K0 _ _
   rw [HK0.out]
   exact ⟨bn, by constructor, BB, SS, X2, D⟩
 intro e a v hv
 have hen : e = .normal ∧ K0 a v := by cases e <;> first | exact ⟨rfl, hv⟩ | exact hv.elim
 clear hv
 obtain ⟨rfl, hv⟩ := hen
 rw [HK0.out] at hv
 clear HK0 BB SS X2
 obtain ⟨b3, ha, BB, SS, X2, X3⟩ := hv
 cases ha
 refine hKrest _ _ ?_
 clear hKrest
 go_wp2_with (first | ((with_reducible show wpList _ _ _ ({ dst := some 34, op := _, type := _, pos := _, after := _, guard := _ } :: _) _ _); refine wl_loadP rfl rfl rfl (load_row 32 10 (by kernel_rfl) (by kernel_rfl) _ b2 [.int .i64 2, .int .i64 0, .string ⟨#[114, 101, 110, 116]⟩, .int .i64 0, .int .i64 0, .bool false, .int .i64 0, .int .i64 0, .int .i64 0, .slice none 0 0] rfl (fun j v hv => (X2.out j v hv).1)) ?_; simp only [Act.put, zA, zB, zC]) | ((with_reducible show wpList _ _ _ ({ dst := some 35, op := _, type := _, pos := _, after := _, guard := _ } :: _) _ _); refine wl_loadP rfl rfl rfl (load_row 32 10 (by kernel_rfl) (by kernel_rfl) _ b2 [.int .i64 2, .int .i64 0, .string ⟨#[114, 101, 110, 116]⟩, .int .i64 0, .int .i64 0, .bool false, .int .i64 0, .int .i64 0, .int .i64 0, .slice none 0 0] rfl (fun j v hv => (X2.out j v hv).1)) ?_; simp only [Act.put, zA, zB, zC]))
 refine (two_leaf 5 0 (nFact sRent 0) (nFact sRent 0) _ (nfl _ _ _ _) (nfl _ _ _ _)).mono ?_
 rintro _ U19 ⟨q, c, rfl, HN, hb⟩
 replace BB := Lib.hid (BB.out.trans (hb.mono BB.out.size))
 replace SS := Lib.hid (SS.out.bel hb)
 replace X2 := Lib.hid (X2.out.bel (by simp) hb)
 replace X3 := Lib.hid (X3.out.bel (by simp) hb)
 clear hb
 go_wp2_with fail
 refine (of_two 5 0 (nFact sRent 0) (nFact sRent 0) _ (nin_f _ _) (nin_f _ _) hm2 b1 q c _ SS.out HN.out).mono ?_
 rintro _ U20 ⟨he, hb⟩
 replace he : _ = Ending.returned (.tuple #[.agg ([.bool false, .int .i64 2, .int .i64 0, .int .i64 0] : List Value).toArray, .int .i64 0, .int .i64 0]) := he
 subst he
 clear HN
 replace BB := Lib.hid (BB.out.trans (hb.mono BB.out.size))
 replace SS := Lib.hid (SS.out.bel hb)
 replace X2 := Lib.hid (X2.out.bel (by simp) hb)
 replace X3 := Lib.hid (X3.out.bel (by simp) hb)
 clear hb
 obtain ⟨b6, hb6⟩ : ∃ b, b = U20.heap.size := ⟨_, rfl⟩
 go_wp2_with ((with_reducible show wpList _ _ _ ({ dst := some 6, op := _, type := _, pos := _, after := _, guard := _ } :: _) _ _); refine wl_ubox (L := [.bool false, .int .i64 2, .int .i64 0, .int .i64 0]) rfl rfl rfl rfl rfl (by simp [Value.oneCell']) rfl rfl ?_; intro U21 hb hs hx; replace BB := Lib.hid (BB.out.trans (hb.mono BB.out.size)); replace SS := Lib.hid (SS.out.bel hb); replace X2 := Lib.hid (X2.out.bel (by simp) hb); replace X3 := Lib.hid (X3.out.bel (by simp) hb); have X6 := Lib.hid hx; clear hb hx hs; simp only [Act.put, zA, zB, zC]; rw [← hb6] at X6 ⊢; clear hb6)
 refine (lfact_any _ _ _).mono ?_
 rintro _ U22 ⟨rfl, hb⟩
 replace BB := Lib.hid (BB.out.trans (hb.mono BB.out.size))
 replace SS := Lib.hid (SS.out.bel hb)
 replace X2 := Lib.hid (X2.out.bel (by simp) hb)
 replace X3 := Lib.hid (X3.out.bel (by simp) hb)
 replace X6 := Lib.hid (X6.out.bel (by simp) hb)
 clear hb
 go_wp2_with fail
 refine (lnumber_any _ _ _).mono ?_
 rintro _ U23 ⟨rfl, hb⟩
 replace BB := Lib.hid (BB.out.trans (hb.mono BB.out.size))
 replace SS := Lib.hid (SS.out.bel hb)
 replace X2 := Lib.hid (X2.out.bel (by simp) hb)
 replace X3 := Lib.hid (X3.out.bel (by simp) hb)
 replace X6 := Lib.hid (X6.out.bel (by simp) hb)
 clear hb
 go_wp2_with fail
 refine (two_leaf 11 0 (nFact sPersons 0) (nNum 3 9) _ (nfl _ _ _ _) (nnl _ _ _ _)).mono ?_
 rintro _ U24 ⟨q, c, rfl, HN, hb⟩
 replace BB := Lib.hid (BB.out.trans (hb.mono BB.out.size))
 replace SS := Lib.hid (SS.out.bel hb)
 replace X2 := Lib.hid (X2.out.bel (by simp) hb)
 replace X3 := Lib.hid (X3.out.bel (by simp) hb)
 replace X6 := Lib.hid (X6.out.bel (by simp) hb)
 clear hb
 go_wp2_with fail
 refine (of_two 11 0 (nFact sPersons 0) (nNum 3 9) _ (nin_f _ _) (nin_n _ _ (by unfold in64; omega)) hm3 b1 q c _ SS.out HN.out).mono ?_
 rintro _ U25 ⟨he, hb⟩
 replace he : _ = Ending.returned (.tuple #[.agg ([.bool true, .int .i64 0, .int .i64 0, .int .i64 0] : List Value).toArray, .int .i64 0, .int .i64 0]) := he
 subst he
 clear HN
 replace BB := Lib.hid (BB.out.trans (hb.mono BB.out.size))
 replace SS := Lib.hid (SS.out.bel hb)
 replace X2 := Lib.hid (X2.out.bel (by simp) hb)
 replace X3 := Lib.hid (X3.out.bel (by simp) hb)
 replace X6 := Lib.hid (X6.out.bel (by simp) hb)
 clear hb
 obtain ⟨b9, hb9⟩ : ∃ b, b = U25.heap.size := ⟨_, rfl⟩
 go_wp2_with ((with_reducible show wpList _ _ _ ({ dst := some 9, op := _, type := _, pos := _, after := _, guard := _ } :: _) _ _); refine wl_ubox (L := [.bool true, .int .i64 0, .int .i64 0, .int .i64 0]) rfl rfl rfl rfl rfl (by simp [Value.oneCell']) rfl rfl ?_; intro U26 hb hs hx; replace BB := Lib.hid (BB.out.trans (hb.mono BB.out.size)); replace SS := Lib.hid (SS.out.bel hb); replace X2 := Lib.hid (X2.out.bel (by simp) hb); replace X3 := Lib.hid (X3.out.bel (by simp) hb); replace X6 := Lib.hid (X6.out.bel (by simp) hb); have X9 := Lib.hid hx; clear hb hx hs; simp only [Act.put, zA, zB, zC]; rw [← hb9] at X9 ⊢; clear hb9)
 obtain ⟨K0, hK0⟩ : ∃ K0 : Act → World → Prop, K0 = (fun a V => ∃ b12 : Nat, HdA (.slice (some ⟨b1, 0, none⟩) 2 2) (.pointer (some ⟨b2, 0, none⟩)) (.pointer (some ⟨b3, 0, none⟩)) (.int .i64 0) (.int .i64 0) (.pointer (some ⟨b6, 0, none⟩)) (.int .i64 0) (.int .i64 0) (.pointer (some ⟨b9, 0, none⟩)) (.int .i64 0) (.int .i64 0) (.pointer (some ⟨b12, 0, none⟩)) (.int .i64 12) (.int .i64 5) undef undef undef undef undef undef a ∧ Hid (RowKit.Below w.heap.size w V) ∧ Hid (SlR V (some ⟨b1, 0, none⟩) b1 0 2 8 (L0.map dC)) ∧ Hid (BoxL V b2 [.int .i64 2, .int .i64 0, .string ⟨#[114, 101, 110, 116]⟩, .int .i64 0, .int .i64 0, .bool false, .int .i64 0, .int .i64 0, .int .i64 0, .slice none 0 0]) ∧ Hid (BoxL V b3 [.bool false, .int .i64 1, .int .i64 0, .int .i64 0]) ∧ Hid (BoxL V b6 [.bool false, .int .i64 2, .int .i64 0, .int .i64 0]) ∧ Hid (BoxL V b9 [.bool true, .int .i64 0, .int .i64 0, .int .i64 0]) ∧ Hid (BoxL V b12 [.bool false, .int .i64 0, .int .i64 0, .int .i64 0])) := ⟨_, rfl⟩
 have HK0 := Lib.hid hK0
 clear hK0
 rename_i hKrest
 refine Code.wp_mono (Q := Exit.then K0 (fun _ _ _ => False)) ?_ ?_
 rotate_left
 ·clear hKrest
  have hb := (Below.refl U26.heap.size U26).drew
  have hS : Hid (BoxL U26.drew b2 [.int .i64 2, .int .i64 0, .string ⟨#[114, 101, 110, 116]⟩, .int .i64 0, .int .i64 0, .bool false, .int .i64 0, .int .i64 0, .int .i64 0, .slice none 0 0]) := Lib.hid (X2.out.bel (by simp) hb)
  refine wp_region_held (S := fun w' : World => Hid (BoxL w' b2 [.int .i64 2, .int .i64 0, .string ⟨#[114, 101, 110, 116]⟩, .int .i64 0, .int .i64 0, .bool false, .int .i64 0, .int .i64 0, .int .i64 0, .slice none 0 0])) mixed ?_
  change wpAnyH _ _ _ _ _ _ _ _ U26.drew
  replace BB := Lib.hid (BB.out.trans (hb.mono BB.out.size))
  replace SS := Lib.hid (SS.out.bel hb)
  replace X2 := Lib.hid (X2.out.bel (by simp) hb)
  replace X3 := Lib.hid (X3.out.bel (by simp) hb)
  replace X6 := Lib.hid (X6.out.bel (by simp) hb)
  replace X9 := Lib.hid (X9.out.bel (by simp) hb)
  clear hb
  generalize U26.drew = U27 at *
  refine tk0 (v := ?_) (by kernel_rfl) (by kernel_rfl) (by kernel_rfl) (fun _ _ _ h => h) (Or.inl ⟨by rfl, ?_⟩) hS ?_
  rotate_left
  ·(intro w hSw; (try dsimp only at hSw); go_simp; try with_reducible rfl)
  simp only [Act.put, zA, zB, zC]
  refine tk1 (v := .agg ([.int .i64 2, .int .i64 0, .string ⟨#[114, 101, 110, 116]⟩, .int .i64 0, .int .i64 0, .bool false, .int .i64 0, .int .i64 0, .int .i64 0, .slice none 0 0]).toArray) (by kernel_rfl) (by kernel_rfl) (by kernel_rfl) (fun _ _ _ h => h) (Or.inl ⟨by kernel_rfl, ?_⟩) hS ?_
  ·intro w' hSw
   exact ex_load rfl rfl (load_row _ 10 (by kernel_rfl) (by kernel_rfl) w' b2 _ rfl (fun j v hv => (hSw.out j v hv).1))
  simp only [Act.put, zA, zB, zC]
  refine wpAnyH_ready (rs := [2, 9]) (by kernel_rfl) (by simp) (st2 (fun K hK => ?_) (st9 (fun K hK => ?_) AllReadyH.nil))
  ·go_simp
   refine (lfact_any _ _ _).mono ?_
   rintro _ U28 ⟨rfl, hb⟩
   go_wp2_with fail
   have hsz := hb.size
   replace BB := Lib.hid (BB.out.trans (hb.mono BB.out.size))
   replace SS := Lib.hid (SS.out.bel hb)
   replace X2 := Lib.hid (X2.out.bel (by simp) hb)
   replace X3 := Lib.hid (X3.out.bel (by simp) hb)
   replace X6 := Lib.hid (X6.out.bel (by simp) hb)
   replace X9 := Lib.hid (X9.out.bel (by simp) hb)
   have hS : Hid (BoxL U28 b2 [.int .i64 2, .int .i64 0, .string ⟨#[114, 101, 110, 116]⟩, .int .i64 0, .int .i64 0, .bool false, .int .i64 0, .int .i64 0, .int .i64 0, .slice none 0 0]) := X2
   clear hb hsz
   refine hK.out _ _ ?_ (fun hHeld => ?_)
   ·exact hS
   clear hK K
   try simp only [Act.put, zA, zB, zC]
   refine wpAnyH_ready (rs := [3, 9]) (by kernel_rfl) (by simp) (st3 (fun K hK => ?_) (st9 (fun K hK => ?_) AllReadyH.nil))
   ·go_simp
    refine (two_leaf 3 5 (nFact sRent 0) (nFact sPersons 7) _ (nfl _ _ _ _) (nfl _ _ _ _)).mono ?_
    rintro _ U29 ⟨q, c, rfl, HN, hb⟩
    go_wp2_with fail
    have hsz := hb.size
    replace BB := Lib.hid (BB.out.trans (hb.mono BB.out.size))
    replace SS := Lib.hid (SS.out.bel hb)
    replace X2 := Lib.hid (X2.out.bel (by simp) hb)
    replace X3 := Lib.hid (X3.out.bel (by simp) hb)
    replace X6 := Lib.hid (X6.out.bel (by simp) hb)
    replace X9 := Lib.hid (X9.out.bel (by simp) hb)
    have hS : Hid (BoxL U29 b2 [.int .i64 2, .int .i64 0, .string ⟨#[114, 101, 110, 116]⟩, .int .i64 0, .int .i64 0, .bool false, .int .i64 0, .int .i64 0, .int .i64 0, .slice none 0 0]) := X2
    clear hb hsz
    refine hK.out _ _ ?_ (fun hHeld => ?_)
    ·exact hS
    clear hK K
    try simp only [Act.put, zA, zB, zC]
    refine wpAnyH_ready (rs := [4, 9]) (by kernel_rfl) (by simp) (st4 (fun K hK => ?_) (st9 (fun K hK => ?_) AllReadyH.nil))
    ·go_simp
     refine (of_two 3 5 (nFact sRent 0) (nFact sPersons 7) _ (nin_f _ _) (nin_f _ _) hm4 b1 q c _ SS.out HN.out).mono ?_
     rintro _ U30 ⟨he, hb⟩
     replace he : _ = Ending.returned (.tuple #[.agg ([.bool false, .int .i64 0, .int .i64 0, .int .i64 0] : List Value).toArray, .int .i64 12, .int .i64 5]) := he
     subst he
     go_wp2_with fail
     clear HN
     have hsz := hb.size
     replace BB := Lib.hid (BB.out.trans (hb.mono BB.out.size))
     replace SS := Lib.hid (SS.out.bel hb)
     replace X2 := Lib.hid (X2.out.bel (by simp) hb)
     replace X3 := Lib.hid (X3.out.bel (by simp) hb)
     replace X6 := Lib.hid (X6.out.bel (by simp) hb)
     replace X9 := Lib.hid (X9.out.bel (by simp) hb)
     have hS : Hid (BoxL U30 b2 [.int .i64 2, .int .i64 0, .string ⟨#[114, 101, 110, 116]⟩, .int .i64 0, .int .i64 0, .bool false, .int .i64 0, .int .i64 0, .int .i64 0, .slice none 0 0]) := X2
     clear hb hsz
     refine hK.out _ _ ?_ (fun hHeld => ?_)
     ·exact hS
     clear hK K
     try simp only [Act.put, zA, zB, zC]
     refine tk5 (v := ?_) (by kernel_rfl) (by kernel_rfl) (by kernel_rfl) (fun _ _ _ h => h) (Or.inl ⟨by rfl, ?_⟩) hS ?_
     rotate_left
     ·(intro w hSw; (try dsimp only at hSw); go_simp; try with_reducible rfl)
     simp only [Act.put, zA, zB, zC]
     refine tk6 (v := ?_) (by kernel_rfl) (by kernel_rfl) (by kernel_rfl) (fun _ _ _ h => h) (Or.inl ⟨by rfl, ?_⟩) hS ?_
     rotate_left
     ·(intro w hSw; (try dsimp only at hSw); go_simp; try with_reducible rfl)
     simp only [Act.put, zA, zB, zC]
     refine tk7 (v := ?_) (by kernel_rfl) (by kernel_rfl) (by kernel_rfl) (fun _ _ _ h => h) (Or.inl ⟨by rfl, ?_⟩) hS ?_
     rotate_left
     ·(intro w hSw; (try dsimp only at hSw); go_simp; try with_reducible rfl)
     simp only [Act.put, zA, zB, zC]
     refine tk8 (v := ?_) (by kernel_rfl) (by kernel_rfl) (by kernel_rfl) (fun _ _ _ h => h) (Or.inl ⟨by rfl, ?_⟩) hS ?_
     rotate_left
     ·(intro w hSw; (try dsimp only at hSw); go_simp; try with_reducible rfl)
     simp only [Act.put, zA, zB, zC]
     refine wpAnyH_ready (rs := [9]) (by kernel_rfl) (by simp) (st9 (fun K hK => ?_) AllReadyH.nil)
     refine (if_pos (by kernel_rfl)).mpr ?_
     refine wp_alloc rfl (alloc_unit _) ?_
     have hb := (Below.refl U30.heap.size U30).alloc (Nat.le_refl _) (.cells ([.bool false, .int .i64 0, .int .i64 0, .int .i64 0] : List Value).toArray 29)
     have D := Lib.hid (BoxL.new U30 [.bool false, .int .i64 0, .int .i64 0, .int .i64 0] 29)
     obtain ⟨U31, hU31⟩ : ∃ V, U30.alloc (.cells ([.bool false, .int .i64 0, .int .i64 0, .int .i64 0] : List Value).toArray 29) = V := ⟨_, rfl⟩
     rw [hU31] at hb D ⊢
     clear hU31
     obtain ⟨bn, hbn⟩ : ∃ b, b = U30.heap.size := ⟨_, rfl⟩
     rw [← hbn] at D ⊢
     have hbl : w.heap.size ≤ bn := by rw [hbn]; exact BB.out.size
     have q2 : b2 < bn := by rw [hbn]; exact X2.out.lt (by simp)
     have q3 : b3 < bn := by rw [hbn]; exact X3.out.lt (by simp)
     have q6 : b6 < bn := by rw [hbn]; exact X6.out.lt (by simp)
     have q9 : b9 < bn := by rw [hbn]; exact X9.out.lt (by simp)
     have q1 : b1 < bn := by rw [hbn]; exact SS.out.lt (by omega)
     clear hbn
     have hsz := hb.size
     replace BB := Lib.hid (BB.out.trans (hb.mono BB.out.size))
     replace SS := Lib.hid (SS.out.bel hb)
     replace X2 := Lib.hid (X2.out.bel (by simp) hb)
     replace X3 := Lib.hid (X3.out.bel (by simp) hb)
     replace X6 := Lib.hid (X6.out.bel (by simp) hb)
     replace X9 := Lib.hid (X9.out.bel (by simp) hb)
     have hS : Hid (BoxL U31 b2 [.int .i64 2, .int .i64 0, .string ⟨#[114, 101, 110, 116]⟩, .int .i64 0, .int .i64 0, .bool false, .int .i64 0, .int .i64 0, .int .i64 0, .slice none 0 0]) := X2
     clear hb hsz

     refine hK.out _ _ ?_ (fun hHeld => ?_)
     ·exact hS
     clear hK K
     try simp only [Act.put, zA, zB, zC]
     refine wpAnyH_ready (rs := [10]) (by kernel_rfl) (by simp) (st10 (fun K hK => ?_) AllReadyH.nil)
     refine (if_pos (by kernel_rfl)).mpr ?_
     refine wp_store rfl rfl rfl (store_row 29 4 (by kernel_rfl) U31 bn [.bool false, .int .i64 0, .int .i64 0, .int .i64 0] [.bool false, .int .i64 0, .int .i64 0, .int .i64 0] D.out rfl rfl (by simp [Value.oneCell'])) ?_
     replace D := Lib.hid (D.out.cells (L := [.bool false, .int .i64 0, .int .i64 0, .int .i64 0]) rfl)
     have hk := kept_setCells (b := bn) (w := U31) [.bool false, .int .i64 0, .int .i64 0, .int .i64 0] 0 U31 (Kept.refl _ _)
     replace BB := Lib.hid (below_kept BB.out hk hbl)
     replace SS := Lib.hid (SS.out.of_block (fun _ => hk.block b1 (SS.out.lt (by omega)) (by omega)) hk.size)
     replace X2 := Lib.hid (X2.out.call (by simp) hk (by omega))
     replace X3 := Lib.hid (X3.out.call (by simp) hk (by omega))
     replace X6 := Lib.hid (X6.out.call (by simp) hk (by omega))
     replace X9 := Lib.hid (X9.out.call (by simp) hk (by omega))
     have hS : Hid (BoxL _ b2 [.int .i64 2, .int .i64 0, .string ⟨#[114, 101, 110, 116]⟩, .int .i64 0, .int .i64 0, .bool false, .int .i64 0, .int .i64 0, .int .i64 0, .slice none 0 0]) := X2
     clear hk
     generalize U31.setCells bn 0 [.bool false, .int .i64 0, .int .i64 0, .int .i64 0] = U32 at *
     refine hK.out _ _ ?_ (fun hHeld => ?_)
     ·exact hS
     clear hK K
     try simp only [Act.put]
     refine tk11 (v := ?_) (by kernel_rfl) (by kernel_rfl) (by kernel_rfl) (fun _ _ _ h => h) (Or.inl ⟨by rfl, ?_⟩) hS ?_
     rotate_left
     ·(intro w hSw; (try dsimp only at hSw); go_simp; try with_reducible rfl)
     simp only [Act.put, zA, zB, zC]
     refine tk12 (v := ?_) (by kernel_rfl) (by kernel_rfl) (by kernel_rfl) (fun _ _ _ h => h) (Or.inl ⟨by rfl, ?_⟩) hS ?_
     rotate_left
     ·(intro w hSw; (try dsimp only at hSw); go_simp; try with_reducible rfl)
     simp only [Act.put, zA, zB, zC]
     refine wpAnyH_done (by kernel_rfl) ?_ _
     clear hS
     show K0 _ _
     rw [HK0.out]
     exact ⟨bn, by constructor, BB, SS, X2, X3, X6, X9, D⟩
    ·refine (if_pos (by kernel_rfl)).mpr ?_
     refine wp_alloc rfl (alloc_unit _) ?_
     have hb := (Below.refl U29.heap.size U29).alloc (Nat.le_refl _) (.cells ([.bool false, .int .i64 0, .int .i64 0, .int .i64 0] : List Value).toArray 29)
     have D := Lib.hid (BoxL.new U29 [.bool false, .int .i64 0, .int .i64 0, .int .i64 0] 29)
     obtain ⟨U33, hU33⟩ : ∃ V, U29.alloc (.cells ([.bool false, .int .i64 0, .int .i64 0, .int .i64 0] : List Value).toArray 29) = V := ⟨_, rfl⟩
     rw [hU33] at hb D ⊢
     clear hU33
     obtain ⟨bn, hbn⟩ : ∃ b, b = U29.heap.size := ⟨_, rfl⟩
     rw [← hbn] at D ⊢
     have hbl : w.heap.size ≤ bn := by rw [hbn]; exact BB.out.size
     have q2 : b2 < bn := by rw [hbn]; exact X2.out.lt (by simp)
     have q3 : b3 < bn := by rw [hbn]; exact X3.out.lt (by simp)
     have q6 : b6 < bn := by rw [hbn]; exact X6.out.lt (by simp)
     have q9 : b9 < bn := by rw [hbn]; exact X9.out.lt (by simp)
     have q1 : b1 < bn := by rw [hbn]; exact SS.out.lt (by omega)
     clear hbn
     have hsz := hb.size
     replace BB := Lib.hid (BB.out.trans (hb.mono BB.out.size))
     replace SS := Lib.hid (SS.out.bel hb)
     replace X2 := Lib.hid (X2.out.bel (by simp) hb)
     replace X3 := Lib.hid (X3.out.bel (by simp) hb)
     replace X6 := Lib.hid (X6.out.bel (by simp) hb)
     replace X9 := Lib.hid (X9.out.bel (by simp) hb)
     have hS : Hid (BoxL U33 b2 [.int .i64 2, .int .i64 0, .string ⟨#[114, 101, 110, 116]⟩, .int .i64 0, .int .i64 0, .bool false, .int .i64 0, .int .i64 0, .int .i64 0, .slice none 0 0]) := X2
     replace HN := Lib.hid (NdM.bel hb HN.out)
     clear hb hsz

     refine hK.out _ _ ?_ (fun hHeld => ?_)
     ·exact hS
     clear hK K
     try simp only [Act.put, zA, zB, zC]
     refine wpAnyH_ready (rs := [4]) (by kernel_rfl) (by simp) (st4 (fun K hK => ?_) AllReadyH.nil)
     go_simp
     refine (of_two 3 5 (nFact sRent 0) (nFact sPersons 7) _ (nin_f _ _) (nin_f _ _) hm4 b1 q c _ SS.out HN.out).mono ?_
     rintro _ U34 ⟨he, hb⟩
     replace he : _ = Ending.returned (.tuple #[.agg ([.bool false, .int .i64 0, .int .i64 0, .int .i64 0] : List Value).toArray, .int .i64 12, .int .i64 5]) := he
     subst he
     go_wp2_with fail
     clear HN
     have hsz := hb.size
     replace BB := Lib.hid (BB.out.trans (hb.mono BB.out.size))
     replace SS := Lib.hid (SS.out.bel hb)
     replace X2 := Lib.hid (X2.out.bel (by simp) hb)
     replace X3 := Lib.hid (X3.out.bel (by simp) hb)
     replace X6 := Lib.hid (X6.out.bel (by simp) hb)
     replace X9 := Lib.hid (X9.out.bel (by simp) hb)
     replace D := Lib.hid (D.out.bel (by simp) hb)
     have hS : Hid (BoxL U34 b2 [.int .i64 2, .int .i64 0, .string ⟨#[114, 101, 110, 116]⟩, .int .i64 0, .int .i64 0, .bool false, .int .i64 0, .int .i64 0, .int .i64 0, .slice none 0 0]) := X2
     clear hb hsz
     refine hK.out _ _ ?_ (fun hHeld => ?_)
     ·exact hS
     clear hK K
     try simp only [Act.put, zA, zB, zC]
     refine tk5 (v := ?_) (by kernel_rfl) (by kernel_rfl) (by kernel_rfl) (fun _ _ _ h => h) (Or.inl ⟨by rfl, ?_⟩) hS ?_
     rotate_left
     ·(intro w hSw; (try dsimp only at hSw); go_simp; try with_reducible rfl)
     simp only [Act.put, zA, zB, zC]
     refine tk6 (v := ?_) (by kernel_rfl) (by kernel_rfl) (by kernel_rfl) (fun _ _ _ h => h) (Or.inl ⟨by rfl, ?_⟩) hS ?_
     rotate_left
     ·(intro w hSw; (try dsimp only at hSw); go_simp; try with_reducible rfl)
     simp only [Act.put, zA, zB, zC]
     refine tk7 (v := ?_) (by kernel_rfl) (by kernel_rfl) (by kernel_rfl) (fun _ _ _ h => h) (Or.inl ⟨by rfl, ?_⟩) hS ?_
     rotate_left
     ·(intro w hSw; (try dsimp only at hSw); go_simp; try with_reducible rfl)
     simp only [Act.put, zA, zB, zC]
     refine tk8 (v := ?_) (by kernel_rfl) (by kernel_rfl) (by kernel_rfl) (fun _ _ _ h => h) (Or.inl ⟨by rfl, ?_⟩) hS ?_
     rotate_left
     ·(intro w hSw; (try dsimp only at hSw); go_simp; try with_reducible rfl)
     simp only [Act.put, zA, zB, zC]
     refine wpAnyH_ready (rs := [10]) (by kernel_rfl) (by simp) (st10 (fun K hK => ?_) AllReadyH.nil)
     refine (if_pos (by kernel_rfl)).mpr ?_
     refine wp_store rfl rfl rfl (store_row 29 4 (by kernel_rfl) U34 bn [.bool false, .int .i64 0, .int .i64 0, .int .i64 0] [.bool false, .int .i64 0, .int .i64 0, .int .i64 0] D.out rfl rfl (by simp [Value.oneCell'])) ?_
     replace D := Lib.hid (D.out.cells (L := [.bool false, .int .i64 0, .int .i64 0, .int .i64 0]) rfl)
     have hk := kept_setCells (b := bn) (w := U34) [.bool false, .int .i64 0, .int .i64 0, .int .i64 0] 0 U34 (Kept.refl _ _)
     replace BB := Lib.hid (below_kept BB.out hk hbl)
     replace SS := Lib.hid (SS.out.of_block (fun _ => hk.block b1 (SS.out.lt (by omega)) (by omega)) hk.size)
     replace X2 := Lib.hid (X2.out.call (by simp) hk (by omega))
     replace X3 := Lib.hid (X3.out.call (by simp) hk (by omega))
     replace X6 := Lib.hid (X6.out.call (by simp) hk (by omega))
     replace X9 := Lib.hid (X9.out.call (by simp) hk (by omega))
     have hS : Hid (BoxL _ b2 [.int .i64 2, .int .i64 0, .string ⟨#[114, 101, 110, 116]⟩, .int .i64 0, .int .i64 0, .bool false, .int .i64 0, .int .i64 0, .int .i64 0, .slice none 0 0]) := X2
     clear hk
     generalize U34.setCells bn 0 [.bool false, .int .i64 0, .int .i64 0, .int .i64 0] = U35 at *
     refine hK.out _ _ ?_ (fun hHeld => ?_)
     ·exact hS
     clear hK K
     try simp only [Act.put]
     refine tk11 (v := ?_) (by kernel_rfl) (by kernel_rfl) (by kernel_rfl) (fun _ _ _ h => h) (Or.inl ⟨by rfl, ?_⟩) hS ?_
     rotate_left
     ·(intro w hSw; (try dsimp only at hSw); go_simp; try with_reducible rfl)
     simp only [Act.put, zA, zB, zC]
     refine tk12 (v := ?_) (by kernel_rfl) (by kernel_rfl) (by kernel_rfl) (fun _ _ _ h => h) (Or.inl ⟨by rfl, ?_⟩) hS ?_
     rotate_left
     ·(intro w hSw; (try dsimp only at hSw); go_simp; try with_reducible rfl)
     simp only [Act.put, zA, zB, zC]
     refine wpAnyH_done (by kernel_rfl) ?_ _
     clear hS
     show K0 _ _
     rw [HK0.out]
     exact ⟨bn, by constructor, BB, SS, X2, X3, X6, X9, D⟩
   ·refine (if_pos (by kernel_rfl)).mpr ?_
    refine wp_alloc rfl (alloc_unit _) ?_
    have hb := (Below.refl U28.heap.size U28).alloc (Nat.le_refl _) (.cells ([.bool false, .int .i64 0, .int .i64 0, .int .i64 0] : List Value).toArray 29)
    have D := Lib.hid (BoxL.new U28 [.bool false, .int .i64 0, .int .i64 0, .int .i64 0] 29)
    obtain ⟨U36, hU36⟩ : ∃ V, U28.alloc (.cells ([.bool false, .int .i64 0, .int .i64 0, .int .i64 0] : List Value).toArray 29) = V := ⟨_, rfl⟩
    rw [hU36] at hb D ⊢
    clear hU36
    obtain ⟨bn, hbn⟩ : ∃ b, b = U28.heap.size := ⟨_, rfl⟩
    rw [← hbn] at D ⊢
    have hbl : w.heap.size ≤ bn := by rw [hbn]; exact BB.out.size
    have q2 : b2 < bn := by rw [hbn]; exact X2.out.lt (by simp)
    have q3 : b3 < bn := by rw [hbn]; exact X3.out.lt (by simp)
    have q6 : b6 < bn := by rw [hbn]; exact X6.out.lt (by simp)
    have q9 : b9 < bn := by rw [hbn]; exact X9.out.lt (by simp)
    have q1 : b1 < bn := by rw [hbn]; exact SS.out.lt (by omega)
    clear hbn
    have hsz := hb.size
    replace BB := Lib.hid (BB.out.trans (hb.mono BB.out.size))
    replace SS := Lib.hid (SS.out.bel hb)
    replace X2 := Lib.hid (X2.out.bel (by simp) hb)
    replace X3 := Lib.hid (X3.out.bel (by simp) hb)
    replace X6 := Lib.hid (X6.out.bel (by simp) hb)
    replace X9 := Lib.hid (X9.out.bel (by simp) hb)
    have hS : Hid (BoxL U36 b2 [.int .i64 2, .int .i64 0, .string ⟨#[114, 101, 110, 116]⟩, .int .i64 0, .int .i64 0, .bool false, .int .i64 0, .int .i64 0, .int .i64 0, .slice none 0 0]) := X2
    clear hb hsz
    refine hK.out _ _ ?_ (fun hHeld => ?_)
    ·exact hS
    clear hK K
    try simp only [Act.put, zA, zB, zC]
    refine wpAnyH_ready (rs := [3]) (by kernel_rfl) (by simp) (st3 (fun K hK => ?_) AllReadyH.nil)
    go_simp
    refine (two_leaf 3 5 (nFact sRent 0) (nFact sPersons 7) _ (nfl _ _ _ _) (nfl _ _ _ _)).mono ?_
    rintro _ U37 ⟨q, c, rfl, HN, hb⟩
    go_wp2_with fail
    have hsz := hb.size
    replace BB := Lib.hid (BB.out.trans (hb.mono BB.out.size))
    replace SS := Lib.hid (SS.out.bel hb)
    replace X2 := Lib.hid (X2.out.bel (by simp) hb)
    replace X3 := Lib.hid (X3.out.bel (by simp) hb)
    replace X6 := Lib.hid (X6.out.bel (by simp) hb)
    replace X9 := Lib.hid (X9.out.bel (by simp) hb)
    replace D := Lib.hid (D.out.bel (by simp) hb)
    have hS : Hid (BoxL U37 b2 [.int .i64 2, .int .i64 0, .string ⟨#[114, 101, 110, 116]⟩, .int .i64 0, .int .i64 0, .bool false, .int .i64 0, .int .i64 0, .int .i64 0, .slice none 0 0]) := X2
    clear hb hsz
    refine hK.out _ _ ?_ (fun hHeld => ?_)
    ·exact hS
    clear hK K
    try simp only [Act.put, zA, zB, zC]
    refine wpAnyH_ready (rs := [4]) (by kernel_rfl) (by simp) (st4 (fun K hK => ?_) AllReadyH.nil)
    go_simp
    refine (of_two 3 5 (nFact sRent 0) (nFact sPersons 7) _ (nin_f _ _) (nin_f _ _) hm4 b1 q c _ SS.out HN.out).mono ?_
    rintro _ U38 ⟨he, hb⟩
    replace he : _ = Ending.returned (.tuple #[.agg ([.bool false, .int .i64 0, .int .i64 0, .int .i64 0] : List Value).toArray, .int .i64 12, .int .i64 5]) := he
    subst he
    go_wp2_with fail
    clear HN
    have hsz := hb.size
    replace BB := Lib.hid (BB.out.trans (hb.mono BB.out.size))
    replace SS := Lib.hid (SS.out.bel hb)
    replace X2 := Lib.hid (X2.out.bel (by simp) hb)
    replace X3 := Lib.hid (X3.out.bel (by simp) hb)
    replace X6 := Lib.hid (X6.out.bel (by simp) hb)
    replace X9 := Lib.hid (X9.out.bel (by simp) hb)
    replace D := Lib.hid (D.out.bel (by simp) hb)
    have hS : Hid (BoxL U38 b2 [.int .i64 2, .int .i64 0, .string ⟨#[114, 101, 110, 116]⟩, .int .i64 0, .int .i64 0, .bool false, .int .i64 0, .int .i64 0, .int .i64 0, .slice none 0 0]) := X2
    clear hb hsz
    refine hK.out _ _ ?_ (fun hHeld => ?_)
    ·exact hS
    clear hK K
    try simp only [Act.put, zA, zB, zC]
    refine tk5 (v := ?_) (by kernel_rfl) (by kernel_rfl) (by kernel_rfl) (fun _ _ _ h => h) (Or.inl ⟨by rfl, ?_⟩) hS ?_
    rotate_left
    ·(intro w hSw; (try dsimp only at hSw); go_simp; try with_reducible rfl)
    simp only [Act.put, zA, zB, zC]
    refine tk6 (v := ?_) (by kernel_rfl) (by kernel_rfl) (by kernel_rfl) (fun _ _ _ h => h) (Or.inl ⟨by rfl, ?_⟩) hS ?_
    rotate_left
    ·(intro w hSw; (try dsimp only at hSw); go_simp; try with_reducible rfl)
    simp only [Act.put, zA, zB, zC]
    refine tk7 (v := ?_) (by kernel_rfl) (by kernel_rfl) (by kernel_rfl) (fun _ _ _ h => h) (Or.inl ⟨by rfl, ?_⟩) hS ?_
    rotate_left
    ·(intro w hSw; (try dsimp only at hSw); go_simp; try with_reducible rfl)
    simp only [Act.put, zA, zB, zC]
    refine tk8 (v := ?_) (by kernel_rfl) (by kernel_rfl) (by kernel_rfl) (fun _ _ _ h => h) (Or.inl ⟨by rfl, ?_⟩) hS ?_
    rotate_left
    ·(intro w hSw; (try dsimp only at hSw); go_simp; try with_reducible rfl)
    simp only [Act.put, zA, zB, zC]
    refine wpAnyH_ready (rs := [10]) (by kernel_rfl) (by simp) (st10 (fun K hK => ?_) AllReadyH.nil)
    refine (if_pos (by kernel_rfl)).mpr ?_
    refine wp_store rfl rfl rfl (store_row 29 4 (by kernel_rfl) U38 bn [.bool false, .int .i64 0, .int .i64 0, .int .i64 0] [.bool false, .int .i64 0, .int .i64 0, .int .i64 0] D.out rfl rfl (by simp [Value.oneCell'])) ?_
    replace D := Lib.hid (D.out.cells (L := [.bool false, .int .i64 0, .int .i64 0, .int .i64 0]) rfl)
    have hk := kept_setCells (b := bn) (w := U38) [.bool false, .int .i64 0, .int .i64 0, .int .i64 0] 0 U38 (Kept.refl _ _)
    replace BB := Lib.hid (below_kept BB.out hk hbl)
    replace SS := Lib.hid (SS.out.of_block (fun _ => hk.block b1 (SS.out.lt (by omega)) (by omega)) hk.size)
    replace X2 := Lib.hid (X2.out.call (by simp) hk (by omega))
    replace X3 := Lib.hid (X3.out.call (by simp) hk (by omega))
    replace X6 := Lib.hid (X6.out.call (by simp) hk (by omega))
    replace X9 := Lib.hid (X9.out.call (by simp) hk (by omega))
    have hS : Hid (BoxL _ b2 [.int .i64 2, .int .i64 0, .string ⟨#[114, 101, 110, 116]⟩, .int .i64 0, .int .i64 0, .bool false, .int .i64 0, .int .i64 0, .int .i64 0, .slice none 0 0]) := X2
    clear hk
    generalize U38.setCells bn 0 [.bool false, .int .i64 0, .int .i64 0, .int .i64 0] = U39 at *
    refine hK.out _ _ ?_ (fun hHeld => ?_)
    ·exact hS
    clear hK K
    try simp only [Act.put]
    refine tk11 (v := ?_) (by kernel_rfl) (by kernel_rfl) (by kernel_rfl) (fun _ _ _ h => h) (Or.inl ⟨by rfl, ?_⟩) hS ?_
    rotate_left
    ·(intro w hSw; (try dsimp only at hSw); go_simp; try with_reducible rfl)
    simp only [Act.put, zA, zB, zC]
    refine tk12 (v := ?_) (by kernel_rfl) (by kernel_rfl) (by kernel_rfl) (fun _ _ _ h => h) (Or.inl ⟨by rfl, ?_⟩) hS ?_
    rotate_left
    ·(intro w hSw; (try dsimp only at hSw); go_simp; try with_reducible rfl)
    simp only [Act.put, zA, zB, zC]
    refine wpAnyH_done (by kernel_rfl) ?_ _
    clear hS
    show K0 _ _
    rw [HK0.out]
    exact ⟨bn, by constructor, BB, SS, X2, X3, X6, X9, D⟩
  ·refine (if_pos (by kernel_rfl)).mpr ?_
   refine wp_alloc rfl (alloc_unit _) ?_
   have hb := (Below.refl U27.heap.size U27).alloc (Nat.le_refl _) (.cells ([.bool false, .int .i64 0, .int .i64 0, .int .i64 0] : List Value).toArray 29)
   have D := Lib.hid (BoxL.new U27 [.bool false, .int .i64 0, .int .i64 0, .int .i64 0] 29)
   obtain ⟨U40, hU40⟩ : ∃ V, U27.alloc (.cells ([.bool false, .int .i64 0, .int .i64 0, .int .i64 0] : List Value).toArray 29) = V := ⟨_, rfl⟩
   rw [hU40] at hb D ⊢
   clear hU40
   obtain ⟨bn, hbn⟩ : ∃ b, b = U27.heap.size := ⟨_, rfl⟩
   rw [← hbn] at D ⊢
   have hbl : w.heap.size ≤ bn := by rw [hbn]; exact BB.out.size
   have q2 : b2 < bn := by rw [hbn]; exact X2.out.lt (by simp)
   have q3 : b3 < bn := by rw [hbn]; exact X3.out.lt (by simp)
   have q6 : b6 < bn := by rw [hbn]; exact X6.out.lt (by simp)
   have q9 : b9 < bn := by rw [hbn]; exact X9.out.lt (by simp)
   have q1 : b1 < bn := by rw [hbn]; exact SS.out.lt (by omega)
   clear hbn
   have hsz := hb.size
   replace BB := Lib.hid (BB.out.trans (hb.mono BB.out.size))
   replace SS := Lib.hid (SS.out.bel hb)
   replace X2 := Lib.hid (X2.out.bel (by simp) hb)
   replace X3 := Lib.hid (X3.out.bel (by simp) hb)
   replace X6 := Lib.hid (X6.out.bel (by simp) hb)
   replace X9 := Lib.hid (X9.out.bel (by simp) hb)
   have hS : Hid (BoxL U40 b2 [.int .i64 2, .int .i64 0, .string ⟨#[114, 101, 110, 116]⟩, .int .i64 0, .int .i64 0, .bool false, .int .i64 0, .int .i64 0, .int .i64 0, .slice none 0 0]) := X2
   clear hb hsz
   refine hK.out _ _ ?_ (fun hHeld => ?_)
   ·exact hS
   clear hK K
   try simp only [Act.put, zA, zB, zC]
   refine wpAnyH_ready (rs := [2]) (by kernel_rfl) (by simp) (st2 (fun K hK => ?_) AllReadyH.nil)
   go_simp
   refine (lfact_any _ _ _).mono ?_
   rintro _ U41 ⟨rfl, hb⟩
   go_wp2_with fail
   have hsz := hb.size
   replace BB := Lib.hid (BB.out.trans (hb.mono BB.out.size))
   replace SS := Lib.hid (SS.out.bel hb)
   replace X2 := Lib.hid (X2.out.bel (by simp) hb)
   replace X3 := Lib.hid (X3.out.bel (by simp) hb)
   replace X6 := Lib.hid (X6.out.bel (by simp) hb)
   replace X9 := Lib.hid (X9.out.bel (by simp) hb)
   replace D := Lib.hid (D.out.bel (by simp) hb)
   have hS : Hid (BoxL U41 b2 [.int .i64 2, .int .i64 0, .string ⟨#[114, 101, 110, 116]⟩, .int .i64 0, .int .i64 0, .bool false, .int .i64 0, .int .i64 0, .int .i64 0, .slice none 0 0]) := X2
   clear hb hsz
   refine hK.out _ _ ?_ (fun hHeld => ?_)
   ·exact hS
   clear hK K
   try simp only [Act.put, zA, zB, zC]
   refine wpAnyH_ready (rs := [3]) (by kernel_rfl) (by simp) (st3 (fun K hK => ?_) AllReadyH.nil)
   go_simp
   refine (two_leaf 3 5 (nFact sRent 0) (nFact sPersons 7) _ (nfl _ _ _ _) (nfl _ _ _ _)).mono ?_
   rintro _ U42 ⟨q, c, rfl, HN, hb⟩
   go_wp2_with fail
   have hsz := hb.size
   replace BB := Lib.hid (BB.out.trans (hb.mono BB.out.size))
   replace SS := Lib.hid (SS.out.bel hb)
   replace X2 := Lib.hid (X2.out.bel (by simp) hb)
   replace X3 := Lib.hid (X3.out.bel (by simp) hb)
   replace X6 := Lib.hid (X6.out.bel (by simp) hb)
   replace X9 := Lib.hid (X9.out.bel (by simp) hb)
   replace D := Lib.hid (D.out.bel (by simp) hb)
   have hS : Hid (BoxL U42 b2 [.int .i64 2, .int .i64 0, .string ⟨#[114, 101, 110, 116]⟩, .int .i64 0, .int .i64 0, .bool false, .int .i64 0, .int .i64 0, .int .i64 0, .slice none 0 0]) := X2
   clear hb hsz
   refine hK.out _ _ ?_ (fun hHeld => ?_)
   ·exact hS
   clear hK K
   try simp only [Act.put, zA, zB, zC]
   refine wpAnyH_ready (rs := [4]) (by kernel_rfl) (by simp) (st4 (fun K hK => ?_) AllReadyH.nil)
   go_simp
   refine (of_two 3 5 (nFact sRent 0) (nFact sPersons 7) _ (nin_f _ _) (nin_f _ _) hm4 b1 q c _ SS.out HN.out).mono ?_
   rintro _ U43 ⟨he, hb⟩
   replace he : _ = Ending.returned (.tuple #[.agg ([.bool false, .int .i64 0, .int .i64 0, .int .i64 0] : List Value).toArray, .int .i64 12, .int .i64 5]) := he
   subst he
   go_wp2_with fail
   clear HN
   have hsz := hb.size
   replace BB := Lib.hid (BB.out.trans (hb.mono BB.out.size))
   replace SS := Lib.hid (SS.out.bel hb)
   replace X2 := Lib.hid (X2.out.bel (by simp) hb)
   replace X3 := Lib.hid (X3.out.bel (by simp) hb)
   replace X6 := Lib.hid (X6.out.bel (by simp) hb)
   replace X9 := Lib.hid (X9.out.bel (by simp) hb)
   replace D := Lib.hid (D.out.bel (by simp) hb)
   have hS : Hid (BoxL U43 b2 [.int .i64 2, .int .i64 0, .string ⟨#[114, 101, 110, 116]⟩, .int .i64 0, .int .i64 0, .bool false, .int .i64 0, .int .i64 0, .int .i64 0, .slice none 0 0]) := X2
   clear hb hsz
   refine hK.out _ _ ?_ (fun hHeld => ?_)
   ·exact hS
   clear hK K
   try simp only [Act.put, zA, zB, zC]
   refine tk5 (v := ?_) (by kernel_rfl) (by kernel_rfl) (by kernel_rfl) (fun _ _ _ h => h) (Or.inl ⟨by rfl, ?_⟩) hS ?_
   rotate_left
   ·(intro w hSw; (try dsimp only at hSw); go_simp; try with_reducible rfl)
   simp only [Act.put, zA, zB, zC]
   refine tk6 (v := ?_) (by kernel_rfl) (by kernel_rfl) (by kernel_rfl) (fun _ _ _ h => h) (Or.inl ⟨by rfl, ?_⟩) hS ?_
   rotate_left
   ·(intro w hSw; (try dsimp only at hSw); go_simp; try with_reducible rfl)
   simp only [Act.put, zA, zB, zC]
   refine tk7 (v := ?_) (by kernel_rfl) (by kernel_rfl) (by kernel_rfl) (fun _ _ _ h => h) (Or.inl ⟨by rfl, ?_⟩) hS ?_
   rotate_left
   ·(intro w hSw; (try dsimp only at hSw); go_simp; try with_reducible rfl)
   simp only [Act.put, zA, zB, zC]
   refine tk8 (v := ?_) (by kernel_rfl) (by kernel_rfl) (by kernel_rfl) (fun _ _ _ h => h) (Or.inl ⟨by rfl, ?_⟩) hS ?_
   rotate_left
   ·(intro w hSw; (try dsimp only at hSw); go_simp; try with_reducible rfl)
   simp only [Act.put, zA, zB, zC]
   refine wpAnyH_ready (rs := [10]) (by kernel_rfl) (by simp) (st10 (fun K hK => ?_) AllReadyH.nil)
   refine (if_pos (by kernel_rfl)).mpr ?_
   refine wp_store rfl rfl rfl (store_row 29 4 (by kernel_rfl) U43 bn [.bool false, .int .i64 0, .int .i64 0, .int .i64 0] [.bool false, .int .i64 0, .int .i64 0, .int .i64 0] D.out rfl rfl (by simp [Value.oneCell'])) ?_
   replace D := Lib.hid (D.out.cells (L := [.bool false, .int .i64 0, .int .i64 0, .int .i64 0]) rfl)
   have hk := kept_setCells (b := bn) (w := U43) [.bool false, .int .i64 0, .int .i64 0, .int .i64 0] 0 U43 (Kept.refl _ _)
   replace BB := Lib.hid (below_kept BB.out hk hbl)
   replace SS := Lib.hid (SS.out.of_block (fun _ => hk.block b1 (SS.out.lt (by omega)) (by omega)) hk.size)
   replace X2 := Lib.hid (X2.out.call (by simp) hk (by omega))
   replace X3 := Lib.hid (X3.out.call (by simp) hk (by omega))
   replace X6 := Lib.hid (X6.out.call (by simp) hk (by omega))
   replace X9 := Lib.hid (X9.out.call (by simp) hk (by omega))
   have hS : Hid (BoxL _ b2 [.int .i64 2, .int .i64 0, .string ⟨#[114, 101, 110, 116]⟩, .int .i64 0, .int .i64 0, .bool false, .int .i64 0, .int .i64 0, .int .i64 0, .slice none 0 0]) := X2
   clear hk
   generalize U43.setCells bn 0 [.bool false, .int .i64 0, .int .i64 0, .int .i64 0] = U44 at *
   refine hK.out _ _ ?_ (fun hHeld => ?_)
   ·exact hS
   clear hK K
   try simp only [Act.put]
   refine tk11 (v := ?_) (by kernel_rfl) (by kernel_rfl) (by kernel_rfl) (fun _ _ _ h => h) (Or.inl ⟨by rfl, ?_⟩) hS ?_
   rotate_left
   ·(intro w hSw; (try dsimp only at hSw); go_simp; try with_reducible rfl)
   simp only [Act.put, zA, zB, zC]
   refine tk12 (v := ?_) (by kernel_rfl) (by kernel_rfl) (by kernel_rfl) (fun _ _ _ h => h) (Or.inl ⟨by rfl, ?_⟩) hS ?_
   rotate_left
   ·(intro w hSw; (try dsimp only at hSw); go_simp; try with_reducible rfl)
   simp only [Act.put, zA, zB, zC]
   refine wpAnyH_done (by kernel_rfl) ?_ _
   clear hS
   show K0 _ _
   rw [HK0.out]
   exact ⟨bn, by constructor, BB, SS, X2, X3, X6, X9, D⟩
 intro e a v hv
 have hen : e = .normal ∧ K0 a v := by cases e <;> first | exact ⟨rfl, hv⟩ | exact hv.elim
 clear hv
 obtain ⟨rfl, hv⟩ := hen
 rw [HK0.out] at hv
 clear HK0 BB SS X2 X3 X6 X9
 obtain ⟨b12, ha, BB, SS, X2, X3, X6, X9, X12⟩ := hv
 cases ha
 refine hKrest _ _ ?_
 clear hKrest
 go_wp2_with fail
 obtain ⟨K0, hK0⟩ : ∃ K0 : Act → World → Prop, K0 = (fun a V => ∃ b15 : Nat, HdA (.slice (some ⟨b1, 0, none⟩) 2 2) (.pointer (some ⟨b2, 0, none⟩)) (.pointer (some ⟨b3, 0, none⟩)) (.int .i64 0) (.int .i64 0) (.pointer (some ⟨b6, 0, none⟩)) (.int .i64 0) (.int .i64 0) (.pointer (some ⟨b9, 0, none⟩)) (.int .i64 0) (.int .i64 0) (.pointer (some ⟨b12, 0, none⟩)) (.int .i64 12) (.int .i64 5) (.pointer (some ⟨b15, 0, none⟩)) (.int .i64 11) (.int .i64 7) undef undef undef a ∧ Hid (RowKit.Below w.heap.size w V) ∧ Hid (SlR V (some ⟨b1, 0, none⟩) b1 0 2 8 (L0.map dC)) ∧ Hid (BoxL V b2 [.int .i64 2, .int .i64 0, .string ⟨#[114, 101, 110, 116]⟩, .int .i64 0, .int .i64 0, .bool false, .int .i64 0, .int .i64 0, .int .i64 0, .slice none 0 0]) ∧ Hid (BoxL V b3 [.bool false, .int .i64 1, .int .i64 0, .int .i64 0]) ∧ Hid (BoxL V b6 [.bool false, .int .i64 2, .int .i64 0, .int .i64 0]) ∧ Hid (BoxL V b9 [.bool true, .int .i64 0, .int .i64 0, .int .i64 0]) ∧ Hid (BoxL V b12 [.bool false, .int .i64 0, .int .i64 0, .int .i64 0]) ∧ Hid (BoxL V b15 [.bool false, .int .i64 0, .int .i64 0, .int .i64 0])) := ⟨_, rfl⟩
 have HK0 := Lib.hid hK0
 clear hK0
 rename_i hKrest
 refine Code.wp_mono (Q := Exit.then K0 (fun _ _ _ => False)) ?_ ?_
 rotate_left
 ·clear hKrest
  have hb := (Below.refl v.heap.size v).drew
  have hS : Hid (BoxL v.drew b2 [.int .i64 2, .int .i64 0, .string ⟨#[114, 101, 110, 116]⟩, .int .i64 0, .int .i64 0, .bool false, .int .i64 0, .int .i64 0, .int .i64 0, .slice none 0 0]) := Lib.hid (X2.out.bel (by simp) hb)
  refine wp_region_held (S := fun w' : World => Hid (BoxL w' b2 [.int .i64 2, .int .i64 0, .string ⟨#[114, 101, 110, 116]⟩, .int .i64 0, .int .i64 0, .bool false, .int .i64 0, .int .i64 0, .int .i64 0, .slice none 0 0])) mixed ?_
  change wpAnyH _ _ _ _ _ _ _ _ v.drew
  replace BB := Lib.hid (BB.out.trans (hb.mono BB.out.size))
  replace SS := Lib.hid (SS.out.bel hb)
  replace X2 := Lib.hid (X2.out.bel (by simp) hb)
  replace X3 := Lib.hid (X3.out.bel (by simp) hb)
  replace X6 := Lib.hid (X6.out.bel (by simp) hb)
  replace X9 := Lib.hid (X9.out.bel (by simp) hb)
  replace X12 := Lib.hid (X12.out.bel (by simp) hb)
  clear hb
  generalize v.drew = U45 at *
  refine tk0 (v := ?_) (by kernel_rfl) (by kernel_rfl) (by kernel_rfl) (fun _ _ _ h => h) (Or.inl ⟨by rfl, ?_⟩) hS ?_
  rotate_left
  ·(intro w hSw; (try dsimp only at hSw); go_simp; try with_reducible rfl)
  simp only [Act.put, zA, zB, zC]
  refine tk1 (v := .agg ([.int .i64 2, .int .i64 0, .string ⟨#[114, 101, 110, 116]⟩, .int .i64 0, .int .i64 0, .bool false, .int .i64 0, .int .i64 0, .int .i64 0, .slice none 0 0]).toArray) (by kernel_rfl) (by kernel_rfl) (by kernel_rfl) (fun _ _ _ h => h) (Or.inl ⟨by kernel_rfl, ?_⟩) hS ?_
  ·intro w' hSw
   exact ex_load rfl rfl (load_row _ 10 (by kernel_rfl) (by kernel_rfl) w' b2 _ rfl (fun j v hv => (hSw.out j v hv).1))
  simp only [Act.put, zA, zB, zC]
  refine wpAnyH_ready (rs := [2, 9]) (by kernel_rfl) (by simp) (st2 (fun K hK => ?_) (st9 (fun K hK => ?_) AllReadyH.nil))
  ·go_simp
   refine (lfact_any _ _ _).mono ?_
   rintro _ U46 ⟨rfl, hb⟩
   go_wp2_with fail
   have hsz := hb.size
   replace BB := Lib.hid (BB.out.trans (hb.mono BB.out.size))
   replace SS := Lib.hid (SS.out.bel hb)
   replace X2 := Lib.hid (X2.out.bel (by simp) hb)
   replace X3 := Lib.hid (X3.out.bel (by simp) hb)
   replace X6 := Lib.hid (X6.out.bel (by simp) hb)
   replace X9 := Lib.hid (X9.out.bel (by simp) hb)
   replace X12 := Lib.hid (X12.out.bel (by simp) hb)
   have hS : Hid (BoxL U46 b2 [.int .i64 2, .int .i64 0, .string ⟨#[114, 101, 110, 116]⟩, .int .i64 0, .int .i64 0, .bool false, .int .i64 0, .int .i64 0, .int .i64 0, .slice none 0 0]) := X2
   clear hb hsz
   refine hK.out _ _ ?_ (fun hHeld => ?_)
   ·exact hS
   clear hK K
   try simp only [Act.put, zA, zB, zC]
   refine wpAnyH_ready (rs := [3, 9]) (by kernel_rfl) (by simp) (st3 (fun K hK => ?_) (st9 (fun K hK => ?_) AllReadyH.nil))
   ·go_simp
    refine (two_leaf 3 5 (nFact sRent 0) (nFact sPerson 7) _ (nfl _ _ _ _) (nfl _ _ _ _)).mono ?_
    rintro _ U47 ⟨q, c, rfl, HN, hb⟩
    go_wp2_with fail
    have hsz := hb.size
    replace BB := Lib.hid (BB.out.trans (hb.mono BB.out.size))
    replace SS := Lib.hid (SS.out.bel hb)
    replace X2 := Lib.hid (X2.out.bel (by simp) hb)
    replace X3 := Lib.hid (X3.out.bel (by simp) hb)
    replace X6 := Lib.hid (X6.out.bel (by simp) hb)
    replace X9 := Lib.hid (X9.out.bel (by simp) hb)
    replace X12 := Lib.hid (X12.out.bel (by simp) hb)
    have hS : Hid (BoxL U47 b2 [.int .i64 2, .int .i64 0, .string ⟨#[114, 101, 110, 116]⟩, .int .i64 0, .int .i64 0, .bool false, .int .i64 0, .int .i64 0, .int .i64 0, .slice none 0 0]) := X2
    clear hb hsz
    refine hK.out _ _ ?_ (fun hHeld => ?_)
    ·exact hS
    clear hK K
    try simp only [Act.put, zA, zB, zC]
    refine wpAnyH_ready (rs := [4, 9]) (by kernel_rfl) (by simp) (st4 (fun K hK => ?_) (st9 (fun K hK => ?_) AllReadyH.nil))
    ·go_simp
     refine (of_two 3 5 (nFact sRent 0) (nFact sPerson 7) _ (nin_f _ _) (nin_f _ _) hm5 b1 q c _ SS.out HN.out).mono ?_
     rintro _ U48 ⟨he, hb⟩
     replace he : _ = Ending.returned (.tuple #[.agg ([.bool false, .int .i64 0, .int .i64 0, .int .i64 0] : List Value).toArray, .int .i64 11, .int .i64 7]) := he
     subst he
     go_wp2_with fail
     clear HN
     have hsz := hb.size
     replace BB := Lib.hid (BB.out.trans (hb.mono BB.out.size))
     replace SS := Lib.hid (SS.out.bel hb)
     replace X2 := Lib.hid (X2.out.bel (by simp) hb)
     replace X3 := Lib.hid (X3.out.bel (by simp) hb)
     replace X6 := Lib.hid (X6.out.bel (by simp) hb)
     replace X9 := Lib.hid (X9.out.bel (by simp) hb)
     replace X12 := Lib.hid (X12.out.bel (by simp) hb)
     have hS : Hid (BoxL U48 b2 [.int .i64 2, .int .i64 0, .string ⟨#[114, 101, 110, 116]⟩, .int .i64 0, .int .i64 0, .bool false, .int .i64 0, .int .i64 0, .int .i64 0, .slice none 0 0]) := X2
     clear hb hsz
     refine hK.out _ _ ?_ (fun hHeld => ?_)
     ·exact hS
     clear hK K
     try simp only [Act.put, zA, zB, zC]
     refine tk5 (v := ?_) (by kernel_rfl) (by kernel_rfl) (by kernel_rfl) (fun _ _ _ h => h) (Or.inl ⟨by rfl, ?_⟩) hS ?_
     rotate_left
     ·(intro w hSw; (try dsimp only at hSw); go_simp; try with_reducible rfl)
     simp only [Act.put, zA, zB, zC]
     refine tk6 (v := ?_) (by kernel_rfl) (by kernel_rfl) (by kernel_rfl) (fun _ _ _ h => h) (Or.inl ⟨by rfl, ?_⟩) hS ?_
     rotate_left
     ·(intro w hSw; (try dsimp only at hSw); go_simp; try with_reducible rfl)
     simp only [Act.put, zA, zB, zC]
     refine tk7 (v := ?_) (by kernel_rfl) (by kernel_rfl) (by kernel_rfl) (fun _ _ _ h => h) (Or.inl ⟨by rfl, ?_⟩) hS ?_
     rotate_left
     ·(intro w hSw; (try dsimp only at hSw); go_simp; try with_reducible rfl)
     simp only [Act.put, zA, zB, zC]
     refine tk8 (v := ?_) (by kernel_rfl) (by kernel_rfl) (by kernel_rfl) (fun _ _ _ h => h) (Or.inl ⟨by rfl, ?_⟩) hS ?_
     rotate_left
     ·(intro w hSw; (try dsimp only at hSw); go_simp; try with_reducible rfl)
     simp only [Act.put, zA, zB, zC]
     refine wpAnyH_ready (rs := [9]) (by kernel_rfl) (by simp) (st9 (fun K hK => ?_) AllReadyH.nil)
     refine (if_pos (by kernel_rfl)).mpr ?_
     refine wp_alloc rfl (alloc_unit _) ?_
     have hb := (Below.refl U48.heap.size U48).alloc (Nat.le_refl _) (.cells ([.bool false, .int .i64 0, .int .i64 0, .int .i64 0] : List Value).toArray 29)
     have D := Lib.hid (BoxL.new U48 [.bool false, .int .i64 0, .int .i64 0, .int .i64 0] 29)
     obtain ⟨U49, hU49⟩ : ∃ V, U48.alloc (.cells ([.bool false, .int .i64 0, .int .i64 0, .int .i64 0] : List Value).toArray 29) = V := ⟨_, rfl⟩
     rw [hU49] at hb D ⊢
     clear hU49
     obtain ⟨bn, hbn⟩ : ∃ b, b = U48.heap.size := ⟨_, rfl⟩
     rw [← hbn] at D ⊢
     have hbl : w.heap.size ≤ bn := by rw [hbn]; exact BB.out.size
     have q2 : b2 < bn := by rw [hbn]; exact X2.out.lt (by simp)
     have q3 : b3 < bn := by rw [hbn]; exact X3.out.lt (by simp)
     have q6 : b6 < bn := by rw [hbn]; exact X6.out.lt (by simp)
     have q9 : b9 < bn := by rw [hbn]; exact X9.out.lt (by simp)
     have q12 : b12 < bn := by rw [hbn]; exact X12.out.lt (by simp)
     have q1 : b1 < bn := by rw [hbn]; exact SS.out.lt (by omega)
     clear hbn
     have hsz := hb.size
     replace BB := Lib.hid (BB.out.trans (hb.mono BB.out.size))
     replace SS := Lib.hid (SS.out.bel hb)
     replace X2 := Lib.hid (X2.out.bel (by simp) hb)
     replace X3 := Lib.hid (X3.out.bel (by simp) hb)
     replace X6 := Lib.hid (X6.out.bel (by simp) hb)
     replace X9 := Lib.hid (X9.out.bel (by simp) hb)
     replace X12 := Lib.hid (X12.out.bel (by simp) hb)
     have hS : Hid (BoxL U49 b2 [.int .i64 2, .int .i64 0, .string ⟨#[114, 101, 110, 116]⟩, .int .i64 0, .int .i64 0, .bool false, .int .i64 0, .int .i64 0, .int .i64 0, .slice none 0 0]) := X2
     clear hb hsz

     refine hK.out _ _ ?_ (fun hHeld => ?_)
     ·exact hS
     clear hK K
     try simp only [Act.put, zA, zB, zC]
     refine wpAnyH_ready (rs := [10]) (by kernel_rfl) (by simp) (st10 (fun K hK => ?_) AllReadyH.nil)
     refine (if_pos (by kernel_rfl)).mpr ?_
     refine wp_store rfl rfl rfl (store_row 29 4 (by kernel_rfl) U49 bn [.bool false, .int .i64 0, .int .i64 0, .int .i64 0] [.bool false, .int .i64 0, .int .i64 0, .int .i64 0] D.out rfl rfl (by simp [Value.oneCell'])) ?_
     replace D := Lib.hid (D.out.cells (L := [.bool false, .int .i64 0, .int .i64 0, .int .i64 0]) rfl)
     have hk := kept_setCells (b := bn) (w := U49) [.bool false, .int .i64 0, .int .i64 0, .int .i64 0] 0 U49 (Kept.refl _ _)
     replace BB := Lib.hid (below_kept BB.out hk hbl)
     replace SS := Lib.hid (SS.out.of_block (fun _ => hk.block b1 (SS.out.lt (by omega)) (by omega)) hk.size)
     replace X2 := Lib.hid (X2.out.call (by simp) hk (by omega))
     replace X3 := Lib.hid (X3.out.call (by simp) hk (by omega))
     replace X6 := Lib.hid (X6.out.call (by simp) hk (by omega))
     replace X9 := Lib.hid (X9.out.call (by simp) hk (by omega))
     replace X12 := Lib.hid (X12.out.call (by simp) hk (by omega))
     have hS : Hid (BoxL _ b2 [.int .i64 2, .int .i64 0, .string ⟨#[114, 101, 110, 116]⟩, .int .i64 0, .int .i64 0, .bool false, .int .i64 0, .int .i64 0, .int .i64 0, .slice none 0 0]) := X2
     clear hk
     generalize U49.setCells bn 0 [.bool false, .int .i64 0, .int .i64 0, .int .i64 0] = U50 at *
     refine hK.out _ _ ?_ (fun hHeld => ?_)
     ·exact hS
     clear hK K
     try simp only [Act.put]
     refine tk11 (v := ?_) (by kernel_rfl) (by kernel_rfl) (by kernel_rfl) (fun _ _ _ h => h) (Or.inl ⟨by rfl, ?_⟩) hS ?_
     rotate_left
     ·(intro w hSw; (try dsimp only at hSw); go_simp; try with_reducible rfl)
     simp only [Act.put, zA, zB, zC]
     refine tk12 (v := ?_) (by kernel_rfl) (by kernel_rfl) (by kernel_rfl) (fun _ _ _ h => h) (Or.inl ⟨by rfl, ?_⟩) hS ?_
     rotate_left
     ·(intro w hSw; (try dsimp only at hSw); go_simp; try with_reducible rfl)
     simp only [Act.put, zA, zB, zC]
     refine wpAnyH_done (by kernel_rfl) ?_ _
     clear hS
     show K0 _ _
     rw [HK0.out]
     exact ⟨bn, by constructor, BB, SS, X2, X3, X6, X9, X12, D⟩
    ·refine (if_pos (by kernel_rfl)).mpr ?_
     refine wp_alloc rfl (alloc_unit _) ?_
     have hb := (Below.refl U47.heap.size U47).alloc (Nat.le_refl _) (.cells ([.bool false, .int .i64 0, .int .i64 0, .int .i64 0] : List Value).toArray 29)
     have D := Lib.hid (BoxL.new U47 [.bool false, .int .i64 0, .int .i64 0, .int .i64 0] 29)
     obtain ⟨U51, hU51⟩ : ∃ V, U47.alloc (.cells ([.bool false, .int .i64 0, .int .i64 0, .int .i64 0] : List Value).toArray 29) = V := ⟨_, rfl⟩
     rw [hU51] at hb D ⊢
     clear hU51
     obtain ⟨bn, hbn⟩ : ∃ b, b = U47.heap.size := ⟨_, rfl⟩
     rw [← hbn] at D ⊢
     have hbl : w.heap.size ≤ bn := by rw [hbn]; exact BB.out.size
     have q2 : b2 < bn := by rw [hbn]; exact X2.out.lt (by simp)
     have q3 : b3 < bn := by rw [hbn]; exact X3.out.lt (by simp)
     have q6 : b6 < bn := by rw [hbn]; exact X6.out.lt (by simp)
     have q9 : b9 < bn := by rw [hbn]; exact X9.out.lt (by simp)
     have q12 : b12 < bn := by rw [hbn]; exact X12.out.lt (by simp)
     have q1 : b1 < bn := by rw [hbn]; exact SS.out.lt (by omega)
     clear hbn
     have hsz := hb.size
     replace BB := Lib.hid (BB.out.trans (hb.mono BB.out.size))
     replace SS := Lib.hid (SS.out.bel hb)
     replace X2 := Lib.hid (X2.out.bel (by simp) hb)
     replace X3 := Lib.hid (X3.out.bel (by simp) hb)
     replace X6 := Lib.hid (X6.out.bel (by simp) hb)
     replace X9 := Lib.hid (X9.out.bel (by simp) hb)
     replace X12 := Lib.hid (X12.out.bel (by simp) hb)
     have hS : Hid (BoxL U51 b2 [.int .i64 2, .int .i64 0, .string ⟨#[114, 101, 110, 116]⟩, .int .i64 0, .int .i64 0, .bool false, .int .i64 0, .int .i64 0, .int .i64 0, .slice none 0 0]) := X2
     replace HN := Lib.hid (NdM.bel hb HN.out)
     clear hb hsz

     refine hK.out _ _ ?_ (fun hHeld => ?_)
     ·exact hS
     clear hK K
     try simp only [Act.put, zA, zB, zC]
     refine wpAnyH_ready (rs := [4]) (by kernel_rfl) (by simp) (st4 (fun K hK => ?_) AllReadyH.nil)
     go_simp
     refine (of_two 3 5 (nFact sRent 0) (nFact sPerson 7) _ (nin_f _ _) (nin_f _ _) hm5 b1 q c _ SS.out HN.out).mono ?_
     rintro _ U52 ⟨he, hb⟩
     replace he : _ = Ending.returned (.tuple #[.agg ([.bool false, .int .i64 0, .int .i64 0, .int .i64 0] : List Value).toArray, .int .i64 11, .int .i64 7]) := he
     subst he
     go_wp2_with fail
     clear HN
     have hsz := hb.size
     replace BB := Lib.hid (BB.out.trans (hb.mono BB.out.size))
     replace SS := Lib.hid (SS.out.bel hb)
     replace X2 := Lib.hid (X2.out.bel (by simp) hb)
     replace X3 := Lib.hid (X3.out.bel (by simp) hb)
     replace X6 := Lib.hid (X6.out.bel (by simp) hb)
     replace X9 := Lib.hid (X9.out.bel (by simp) hb)
     replace X12 := Lib.hid (X12.out.bel (by simp) hb)
     replace D := Lib.hid (D.out.bel (by simp) hb)
     have hS : Hid (BoxL U52 b2 [.int .i64 2, .int .i64 0, .string ⟨#[114, 101, 110, 116]⟩, .int .i64 0, .int .i64 0, .bool false, .int .i64 0, .int .i64 0, .int .i64 0, .slice none 0 0]) := X2
     clear hb hsz
     refine hK.out _ _ ?_ (fun hHeld => ?_)
     ·exact hS
     clear hK K
     try simp only [Act.put, zA, zB, zC]
     refine tk5 (v := ?_) (by kernel_rfl) (by kernel_rfl) (by kernel_rfl) (fun _ _ _ h => h) (Or.inl ⟨by rfl, ?_⟩) hS ?_
     rotate_left
     ·(intro w hSw; (try dsimp only at hSw); go_simp; try with_reducible rfl)
     simp only [Act.put, zA, zB, zC]
     refine tk6 (v := ?_) (by kernel_rfl) (by kernel_rfl) (by kernel_rfl) (fun _ _ _ h => h) (Or.inl ⟨by rfl, ?_⟩) hS ?_
     rotate_left
     ·(intro w hSw; (try dsimp only at hSw); go_simp; try with_reducible rfl)
     simp only [Act.put, zA, zB, zC]
     refine tk7 (v := ?_) (by kernel_rfl) (by kernel_rfl) (by kernel_rfl) (fun _ _ _ h => h) (Or.inl ⟨by rfl, ?_⟩) hS ?_
     rotate_left
     ·(intro w hSw; (try dsimp only at hSw); go_simp; try with_reducible rfl)
     simp only [Act.put, zA, zB, zC]
     refine tk8 (v := ?_) (by kernel_rfl) (by kernel_rfl) (by kernel_rfl) (fun _ _ _ h => h) (Or.inl ⟨by rfl, ?_⟩) hS ?_
     rotate_left
     ·(intro w hSw; (try dsimp only at hSw); go_simp; try with_reducible rfl)
     simp only [Act.put, zA, zB, zC]
     refine wpAnyH_ready (rs := [10]) (by kernel_rfl) (by simp) (st10 (fun K hK => ?_) AllReadyH.nil)
     refine (if_pos (by kernel_rfl)).mpr ?_
     refine wp_store rfl rfl rfl (store_row 29 4 (by kernel_rfl) U52 bn [.bool false, .int .i64 0, .int .i64 0, .int .i64 0] [.bool false, .int .i64 0, .int .i64 0, .int .i64 0] D.out rfl rfl (by simp [Value.oneCell'])) ?_
     replace D := Lib.hid (D.out.cells (L := [.bool false, .int .i64 0, .int .i64 0, .int .i64 0]) rfl)
     have hk := kept_setCells (b := bn) (w := U52) [.bool false, .int .i64 0, .int .i64 0, .int .i64 0] 0 U52 (Kept.refl _ _)
     replace BB := Lib.hid (below_kept BB.out hk hbl)
     replace SS := Lib.hid (SS.out.of_block (fun _ => hk.block b1 (SS.out.lt (by omega)) (by omega)) hk.size)
     replace X2 := Lib.hid (X2.out.call (by simp) hk (by omega))
     replace X3 := Lib.hid (X3.out.call (by simp) hk (by omega))
     replace X6 := Lib.hid (X6.out.call (by simp) hk (by omega))
     replace X9 := Lib.hid (X9.out.call (by simp) hk (by omega))
     replace X12 := Lib.hid (X12.out.call (by simp) hk (by omega))
     have hS : Hid (BoxL _ b2 [.int .i64 2, .int .i64 0, .string ⟨#[114, 101, 110, 116]⟩, .int .i64 0, .int .i64 0, .bool false, .int .i64 0, .int .i64 0, .int .i64 0, .slice none 0 0]) := X2
     clear hk
     generalize U52.setCells bn 0 [.bool false, .int .i64 0, .int .i64 0, .int .i64 0] = U53 at *
     refine hK.out _ _ ?_ (fun hHeld => ?_)
     ·exact hS
     clear hK K
     try simp only [Act.put]
     refine tk11 (v := ?_) (by kernel_rfl) (by kernel_rfl) (by kernel_rfl) (fun _ _ _ h => h) (Or.inl ⟨by rfl, ?_⟩) hS ?_
     rotate_left
     ·(intro w hSw; (try dsimp only at hSw); go_simp; try with_reducible rfl)
     simp only [Act.put, zA, zB, zC]
     refine tk12 (v := ?_) (by kernel_rfl) (by kernel_rfl) (by kernel_rfl) (fun _ _ _ h => h) (Or.inl ⟨by rfl, ?_⟩) hS ?_
     rotate_left
     ·(intro w hSw; (try dsimp only at hSw); go_simp; try with_reducible rfl)
     simp only [Act.put, zA, zB, zC]
     refine wpAnyH_done (by kernel_rfl) ?_ _
     clear hS
     show K0 _ _
     rw [HK0.out]
     exact ⟨bn, by constructor, BB, SS, X2, X3, X6, X9, X12, D⟩
   ·refine (if_pos (by kernel_rfl)).mpr ?_
    refine wp_alloc rfl (alloc_unit _) ?_
    have hb := (Below.refl U46.heap.size U46).alloc (Nat.le_refl _) (.cells ([.bool false, .int .i64 0, .int .i64 0, .int .i64 0] : List Value).toArray 29)
    have D := Lib.hid (BoxL.new U46 [.bool false, .int .i64 0, .int .i64 0, .int .i64 0] 29)
    obtain ⟨U54, hU54⟩ : ∃ V, U46.alloc (.cells ([.bool false, .int .i64 0, .int .i64 0, .int .i64 0] : List Value).toArray 29) = V := ⟨_, rfl⟩
    rw [hU54] at hb D ⊢
    clear hU54
    obtain ⟨bn, hbn⟩ : ∃ b, b = U46.heap.size := ⟨_, rfl⟩
    rw [← hbn] at D ⊢
    have hbl : w.heap.size ≤ bn := by rw [hbn]; exact BB.out.size
    have q2 : b2 < bn := by rw [hbn]; exact X2.out.lt (by simp)
    have q3 : b3 < bn := by rw [hbn]; exact X3.out.lt (by simp)
    have q6 : b6 < bn := by rw [hbn]; exact X6.out.lt (by simp)
    have q9 : b9 < bn := by rw [hbn]; exact X9.out.lt (by simp)
    have q12 : b12 < bn := by rw [hbn]; exact X12.out.lt (by simp)
    have q1 : b1 < bn := by rw [hbn]; exact SS.out.lt (by omega)
    clear hbn
    have hsz := hb.size
    replace BB := Lib.hid (BB.out.trans (hb.mono BB.out.size))
    replace SS := Lib.hid (SS.out.bel hb)
    replace X2 := Lib.hid (X2.out.bel (by simp) hb)
    replace X3 := Lib.hid (X3.out.bel (by simp) hb)
    replace X6 := Lib.hid (X6.out.bel (by simp) hb)
    replace X9 := Lib.hid (X9.out.bel (by simp) hb)
    replace X12 := Lib.hid (X12.out.bel (by simp) hb)
    have hS : Hid (BoxL U54 b2 [.int .i64 2, .int .i64 0, .string ⟨#[114, 101, 110, 116]⟩, .int .i64 0, .int .i64 0, .bool false, .int .i64 0, .int .i64 0, .int .i64 0, .slice none 0 0]) := X2
    clear hb hsz
    refine hK.out _ _ ?_ (fun hHeld => ?_)
    ·exact hS
    clear hK K
    try simp only [Act.put, zA, zB, zC]
    refine wpAnyH_ready (rs := [3]) (by kernel_rfl) (by simp) (st3 (fun K hK => ?_) AllReadyH.nil)
    go_simp
    refine (two_leaf 3 5 (nFact sRent 0) (nFact sPerson 7) _ (nfl _ _ _ _) (nfl _ _ _ _)).mono ?_
    rintro _ U55 ⟨q, c, rfl, HN, hb⟩
    go_wp2_with fail
    have hsz := hb.size
    replace BB := Lib.hid (BB.out.trans (hb.mono BB.out.size))
    replace SS := Lib.hid (SS.out.bel hb)
    replace X2 := Lib.hid (X2.out.bel (by simp) hb)
    replace X3 := Lib.hid (X3.out.bel (by simp) hb)
    replace X6 := Lib.hid (X6.out.bel (by simp) hb)
    replace X9 := Lib.hid (X9.out.bel (by simp) hb)
    replace X12 := Lib.hid (X12.out.bel (by simp) hb)
    replace D := Lib.hid (D.out.bel (by simp) hb)
    have hS : Hid (BoxL U55 b2 [.int .i64 2, .int .i64 0, .string ⟨#[114, 101, 110, 116]⟩, .int .i64 0, .int .i64 0, .bool false, .int .i64 0, .int .i64 0, .int .i64 0, .slice none 0 0]) := X2
    clear hb hsz
    refine hK.out _ _ ?_ (fun hHeld => ?_)
    ·exact hS
    clear hK K
    try simp only [Act.put, zA, zB, zC]
    refine wpAnyH_ready (rs := [4]) (by kernel_rfl) (by simp) (st4 (fun K hK => ?_) AllReadyH.nil)
    go_simp
    refine (of_two 3 5 (nFact sRent 0) (nFact sPerson 7) _ (nin_f _ _) (nin_f _ _) hm5 b1 q c _ SS.out HN.out).mono ?_
    rintro _ U56 ⟨he, hb⟩
    replace he : _ = Ending.returned (.tuple #[.agg ([.bool false, .int .i64 0, .int .i64 0, .int .i64 0] : List Value).toArray, .int .i64 11, .int .i64 7]) := he
    subst he
    go_wp2_with fail
    clear HN
    have hsz := hb.size
    replace BB := Lib.hid (BB.out.trans (hb.mono BB.out.size))
    replace SS := Lib.hid (SS.out.bel hb)
    replace X2 := Lib.hid (X2.out.bel (by simp) hb)
    replace X3 := Lib.hid (X3.out.bel (by simp) hb)
    replace X6 := Lib.hid (X6.out.bel (by simp) hb)
    replace X9 := Lib.hid (X9.out.bel (by simp) hb)
    replace X12 := Lib.hid (X12.out.bel (by simp) hb)
    replace D := Lib.hid (D.out.bel (by simp) hb)
    have hS : Hid (BoxL U56 b2 [.int .i64 2, .int .i64 0, .string ⟨#[114, 101, 110, 116]⟩, .int .i64 0, .int .i64 0, .bool false, .int .i64 0, .int .i64 0, .int .i64 0, .slice none 0 0]) := X2
    clear hb hsz
    refine hK.out _ _ ?_ (fun hHeld => ?_)
    ·exact hS
    clear hK K
    try simp only [Act.put, zA, zB, zC]
    refine tk5 (v := ?_) (by kernel_rfl) (by kernel_rfl) (by kernel_rfl) (fun _ _ _ h => h) (Or.inl ⟨by rfl, ?_⟩) hS ?_
    rotate_left
    ·(intro w hSw; (try dsimp only at hSw); go_simp; try with_reducible rfl)
    simp only [Act.put, zA, zB, zC]
    refine tk6 (v := ?_) (by kernel_rfl) (by kernel_rfl) (by kernel_rfl) (fun _ _ _ h => h) (Or.inl ⟨by rfl, ?_⟩) hS ?_
    rotate_left
    ·(intro w hSw; (try dsimp only at hSw); go_simp; try with_reducible rfl)
    simp only [Act.put, zA, zB, zC]
    refine tk7 (v := ?_) (by kernel_rfl) (by kernel_rfl) (by kernel_rfl) (fun _ _ _ h => h) (Or.inl ⟨by rfl, ?_⟩) hS ?_
    rotate_left
    ·(intro w hSw; (try dsimp only at hSw); go_simp; try with_reducible rfl)
    simp only [Act.put, zA, zB, zC]
    refine tk8 (v := ?_) (by kernel_rfl) (by kernel_rfl) (by kernel_rfl) (fun _ _ _ h => h) (Or.inl ⟨by rfl, ?_⟩) hS ?_
    rotate_left
    ·(intro w hSw; (try dsimp only at hSw); go_simp; try with_reducible rfl)
    simp only [Act.put, zA, zB, zC]
    refine wpAnyH_ready (rs := [10]) (by kernel_rfl) (by simp) (st10 (fun K hK => ?_) AllReadyH.nil)
    refine (if_pos (by kernel_rfl)).mpr ?_
    refine wp_store rfl rfl rfl (store_row 29 4 (by kernel_rfl) U56 bn [.bool false, .int .i64 0, .int .i64 0, .int .i64 0] [.bool false, .int .i64 0, .int .i64 0, .int .i64 0] D.out rfl rfl (by simp [Value.oneCell'])) ?_
    replace D := Lib.hid (D.out.cells (L := [.bool false, .int .i64 0, .int .i64 0, .int .i64 0]) rfl)
    have hk := kept_setCells (b := bn) (w := U56) [.bool false, .int .i64 0, .int .i64 0, .int .i64 0] 0 U56 (Kept.refl _ _)
    replace BB := Lib.hid (below_kept BB.out hk hbl)
    replace SS := Lib.hid (SS.out.of_block (fun _ => hk.block b1 (SS.out.lt (by omega)) (by omega)) hk.size)
    replace X2 := Lib.hid (X2.out.call (by simp) hk (by omega))
    replace X3 := Lib.hid (X3.out.call (by simp) hk (by omega))
    replace X6 := Lib.hid (X6.out.call (by simp) hk (by omega))
    replace X9 := Lib.hid (X9.out.call (by simp) hk (by omega))
    replace X12 := Lib.hid (X12.out.call (by simp) hk (by omega))
    have hS : Hid (BoxL _ b2 [.int .i64 2, .int .i64 0, .string ⟨#[114, 101, 110, 116]⟩, .int .i64 0, .int .i64 0, .bool false, .int .i64 0, .int .i64 0, .int .i64 0, .slice none 0 0]) := X2
    clear hk
    generalize U56.setCells bn 0 [.bool false, .int .i64 0, .int .i64 0, .int .i64 0] = U57 at *
    refine hK.out _ _ ?_ (fun hHeld => ?_)
    ·exact hS
    clear hK K
    try simp only [Act.put]
    refine tk11 (v := ?_) (by kernel_rfl) (by kernel_rfl) (by kernel_rfl) (fun _ _ _ h => h) (Or.inl ⟨by rfl, ?_⟩) hS ?_
    rotate_left
    ·(intro w hSw; (try dsimp only at hSw); go_simp; try with_reducible rfl)
    simp only [Act.put, zA, zB, zC]
    refine tk12 (v := ?_) (by kernel_rfl) (by kernel_rfl) (by kernel_rfl) (fun _ _ _ h => h) (Or.inl ⟨by rfl, ?_⟩) hS ?_
    rotate_left
    ·(intro w hSw; (try dsimp only at hSw); go_simp; try with_reducible rfl)
    simp only [Act.put, zA, zB, zC]
    refine wpAnyH_done (by kernel_rfl) ?_ _
    clear hS
    show K0 _ _
    rw [HK0.out]
    exact ⟨bn, by constructor, BB, SS, X2, X3, X6, X9, X12, D⟩
  ·refine (if_pos (by kernel_rfl)).mpr ?_
   refine wp_alloc rfl (alloc_unit _) ?_
   have hb := (Below.refl U45.heap.size U45).alloc (Nat.le_refl _) (.cells ([.bool false, .int .i64 0, .int .i64 0, .int .i64 0] : List Value).toArray 29)
   have D := Lib.hid (BoxL.new U45 [.bool false, .int .i64 0, .int .i64 0, .int .i64 0] 29)
   obtain ⟨U58, hU58⟩ : ∃ V, U45.alloc (.cells ([.bool false, .int .i64 0, .int .i64 0, .int .i64 0] : List Value).toArray 29) = V := ⟨_, rfl⟩
   rw [hU58] at hb D ⊢
   clear hU58
   obtain ⟨bn, hbn⟩ : ∃ b, b = U45.heap.size := ⟨_, rfl⟩
   rw [← hbn] at D ⊢
   have hbl : w.heap.size ≤ bn := by rw [hbn]; exact BB.out.size
   have q2 : b2 < bn := by rw [hbn]; exact X2.out.lt (by simp)
   have q3 : b3 < bn := by rw [hbn]; exact X3.out.lt (by simp)
   have q6 : b6 < bn := by rw [hbn]; exact X6.out.lt (by simp)
   have q9 : b9 < bn := by rw [hbn]; exact X9.out.lt (by simp)
   have q12 : b12 < bn := by rw [hbn]; exact X12.out.lt (by simp)
   have q1 : b1 < bn := by rw [hbn]; exact SS.out.lt (by omega)
   clear hbn
   have hsz := hb.size
   replace BB := Lib.hid (BB.out.trans (hb.mono BB.out.size))
   replace SS := Lib.hid (SS.out.bel hb)
   replace X2 := Lib.hid (X2.out.bel (by simp) hb)
   replace X3 := Lib.hid (X3.out.bel (by simp) hb)
   replace X6 := Lib.hid (X6.out.bel (by simp) hb)
   replace X9 := Lib.hid (X9.out.bel (by simp) hb)
   replace X12 := Lib.hid (X12.out.bel (by simp) hb)
   have hS : Hid (BoxL U58 b2 [.int .i64 2, .int .i64 0, .string ⟨#[114, 101, 110, 116]⟩, .int .i64 0, .int .i64 0, .bool false, .int .i64 0, .int .i64 0, .int .i64 0, .slice none 0 0]) := X2
   clear hb hsz
   refine hK.out _ _ ?_ (fun hHeld => ?_)
   ·exact hS
   clear hK K
   try simp only [Act.put, zA, zB, zC]
   refine wpAnyH_ready (rs := [2]) (by kernel_rfl) (by simp) (st2 (fun K hK => ?_) AllReadyH.nil)
   go_simp
   refine (lfact_any _ _ _).mono ?_
   rintro _ U59 ⟨rfl, hb⟩
   go_wp2_with fail
   have hsz := hb.size
   replace BB := Lib.hid (BB.out.trans (hb.mono BB.out.size))
   replace SS := Lib.hid (SS.out.bel hb)
   replace X2 := Lib.hid (X2.out.bel (by simp) hb)
   replace X3 := Lib.hid (X3.out.bel (by simp) hb)
   replace X6 := Lib.hid (X6.out.bel (by simp) hb)
   replace X9 := Lib.hid (X9.out.bel (by simp) hb)
   replace X12 := Lib.hid (X12.out.bel (by simp) hb)
   replace D := Lib.hid (D.out.bel (by simp) hb)
   have hS : Hid (BoxL U59 b2 [.int .i64 2, .int .i64 0, .string ⟨#[114, 101, 110, 116]⟩, .int .i64 0, .int .i64 0, .bool false, .int .i64 0, .int .i64 0, .int .i64 0, .slice none 0 0]) := X2
   clear hb hsz
   refine hK.out _ _ ?_ (fun hHeld => ?_)
   ·exact hS
   clear hK K
   try simp only [Act.put, zA, zB, zC]
   refine wpAnyH_ready (rs := [3]) (by kernel_rfl) (by simp) (st3 (fun K hK => ?_) AllReadyH.nil)
   go_simp
   refine (two_leaf 3 5 (nFact sRent 0) (nFact sPerson 7) _ (nfl _ _ _ _) (nfl _ _ _ _)).mono ?_
   rintro _ U60 ⟨q, c, rfl, HN, hb⟩
   go_wp2_with fail
   have hsz := hb.size
   replace BB := Lib.hid (BB.out.trans (hb.mono BB.out.size))
   replace SS := Lib.hid (SS.out.bel hb)
   replace X2 := Lib.hid (X2.out.bel (by simp) hb)
   replace X3 := Lib.hid (X3.out.bel (by simp) hb)
   replace X6 := Lib.hid (X6.out.bel (by simp) hb)
   replace X9 := Lib.hid (X9.out.bel (by simp) hb)
   replace X12 := Lib.hid (X12.out.bel (by simp) hb)
   replace D := Lib.hid (D.out.bel (by simp) hb)
   have hS : Hid (BoxL U60 b2 [.int .i64 2, .int .i64 0, .string ⟨#[114, 101, 110, 116]⟩, .int .i64 0, .int .i64 0, .bool false, .int .i64 0, .int .i64 0, .int .i64 0, .slice none 0 0]) := X2
   clear hb hsz
   refine hK.out _ _ ?_ (fun hHeld => ?_)
   ·exact hS
   clear hK K
   try simp only [Act.put, zA, zB, zC]
   refine wpAnyH_ready (rs := [4]) (by kernel_rfl) (by simp) (st4 (fun K hK => ?_) AllReadyH.nil)
   go_simp
   refine (of_two 3 5 (nFact sRent 0) (nFact sPerson 7) _ (nin_f _ _) (nin_f _ _) hm5 b1 q c _ SS.out HN.out).mono ?_
   rintro _ U61 ⟨he, hb⟩
   replace he : _ = Ending.returned (.tuple #[.agg ([.bool false, .int .i64 0, .int .i64 0, .int .i64 0] : List Value).toArray, .int .i64 11, .int .i64 7]) := he
   subst he
   go_wp2_with fail
   clear HN
   have hsz := hb.size
   replace BB := Lib.hid (BB.out.trans (hb.mono BB.out.size))
   replace SS := Lib.hid (SS.out.bel hb)
   replace X2 := Lib.hid (X2.out.bel (by simp) hb)
   replace X3 := Lib.hid (X3.out.bel (by simp) hb)
   replace X6 := Lib.hid (X6.out.bel (by simp) hb)
   replace X9 := Lib.hid (X9.out.bel (by simp) hb)
   replace X12 := Lib.hid (X12.out.bel (by simp) hb)
   replace D := Lib.hid (D.out.bel (by simp) hb)
   have hS : Hid (BoxL U61 b2 [.int .i64 2, .int .i64 0, .string ⟨#[114, 101, 110, 116]⟩, .int .i64 0, .int .i64 0, .bool false, .int .i64 0, .int .i64 0, .int .i64 0, .slice none 0 0]) := X2
   clear hb hsz
   refine hK.out _ _ ?_ (fun hHeld => ?_)
   ·exact hS
   clear hK K
   try simp only [Act.put, zA, zB, zC]
   refine tk5 (v := ?_) (by kernel_rfl) (by kernel_rfl) (by kernel_rfl) (fun _ _ _ h => h) (Or.inl ⟨by rfl, ?_⟩) hS ?_
   rotate_left
   ·(intro w hSw; (try dsimp only at hSw); go_simp; try with_reducible rfl)
   simp only [Act.put, zA, zB, zC]
   refine tk6 (v := ?_) (by kernel_rfl) (by kernel_rfl) (by kernel_rfl) (fun _ _ _ h => h) (Or.inl ⟨by rfl, ?_⟩) hS ?_
   rotate_left
   ·(intro w hSw; (try dsimp only at hSw); go_simp; try with_reducible rfl)
   simp only [Act.put, zA, zB, zC]
   refine tk7 (v := ?_) (by kernel_rfl) (by kernel_rfl) (by kernel_rfl) (fun _ _ _ h => h) (Or.inl ⟨by rfl, ?_⟩) hS ?_
   rotate_left
   ·(intro w hSw; (try dsimp only at hSw); go_simp; try with_reducible rfl)
   simp only [Act.put, zA, zB, zC]
   refine tk8 (v := ?_) (by kernel_rfl) (by kernel_rfl) (by kernel_rfl) (fun _ _ _ h => h) (Or.inl ⟨by rfl, ?_⟩) hS ?_
   rotate_left
   ·(intro w hSw; (try dsimp only at hSw); go_simp; try with_reducible rfl)
   simp only [Act.put, zA, zB, zC]
   refine wpAnyH_ready (rs := [10]) (by kernel_rfl) (by simp) (st10 (fun K hK => ?_) AllReadyH.nil)
   refine (if_pos (by kernel_rfl)).mpr ?_
   refine wp_store rfl rfl rfl (store_row 29 4 (by kernel_rfl) U61 bn [.bool false, .int .i64 0, .int .i64 0, .int .i64 0] [.bool false, .int .i64 0, .int .i64 0, .int .i64 0] D.out rfl rfl (by simp [Value.oneCell'])) ?_
   replace D := Lib.hid (D.out.cells (L := [.bool false, .int .i64 0, .int .i64 0, .int .i64 0]) rfl)
   have hk := kept_setCells (b := bn) (w := U61) [.bool false, .int .i64 0, .int .i64 0, .int .i64 0] 0 U61 (Kept.refl _ _)
   replace BB := Lib.hid (below_kept BB.out hk hbl)
   replace SS := Lib.hid (SS.out.of_block (fun _ => hk.block b1 (SS.out.lt (by omega)) (by omega)) hk.size)
   replace X2 := Lib.hid (X2.out.call (by simp) hk (by omega))
   replace X3 := Lib.hid (X3.out.call (by simp) hk (by omega))
   replace X6 := Lib.hid (X6.out.call (by simp) hk (by omega))
   replace X9 := Lib.hid (X9.out.call (by simp) hk (by omega))
   replace X12 := Lib.hid (X12.out.call (by simp) hk (by omega))
   have hS : Hid (BoxL _ b2 [.int .i64 2, .int .i64 0, .string ⟨#[114, 101, 110, 116]⟩, .int .i64 0, .int .i64 0, .bool false, .int .i64 0, .int .i64 0, .int .i64 0, .slice none 0 0]) := X2
   clear hk
   generalize U61.setCells bn 0 [.bool false, .int .i64 0, .int .i64 0, .int .i64 0] = U62 at *
   refine hK.out _ _ ?_ (fun hHeld => ?_)
   ·exact hS
   clear hK K
   try simp only [Act.put]
   refine tk11 (v := ?_) (by kernel_rfl) (by kernel_rfl) (by kernel_rfl) (fun _ _ _ h => h) (Or.inl ⟨by rfl, ?_⟩) hS ?_
   rotate_left
   ·(intro w hSw; (try dsimp only at hSw); go_simp; try with_reducible rfl)
   simp only [Act.put, zA, zB, zC]
   refine tk12 (v := ?_) (by kernel_rfl) (by kernel_rfl) (by kernel_rfl) (fun _ _ _ h => h) (Or.inl ⟨by rfl, ?_⟩) hS ?_
   rotate_left
   ·(intro w hSw; (try dsimp only at hSw); go_simp; try with_reducible rfl)
   simp only [Act.put, zA, zB, zC]
   refine wpAnyH_done (by kernel_rfl) ?_ _
   clear hS
   show K0 _ _
   rw [HK0.out]
   exact ⟨bn, by constructor, BB, SS, X2, X3, X6, X9, X12, D⟩
 intro e a v hv
 have hen : e = .normal ∧ K0 a v := by cases e <;> first | exact ⟨rfl, hv⟩ | exact hv.elim
 clear hv
 obtain ⟨rfl, hv⟩ := hen
 rw [HK0.out] at hv
 clear HK0 BB SS X2 X3 X6 X9 X12
 obtain ⟨b15, ha, BB, SS, X2, X3, X6, X9, X12, X15⟩ := hv
 cases ha
 refine hKrest _ _ ?_
 clear hKrest
 go_wp2_with fail
 obtain ⟨K0, hK0⟩ : ∃ K0 : Act → World → Prop, K0 = (fun a V => ∃ z : Nat, HdA (.slice (some ⟨b1, 0, none⟩) 2 2) (.pointer (some ⟨b2, 0, none⟩)) (.pointer (some ⟨b3, 0, none⟩)) (.int .i64 0) (.int .i64 0) (.pointer (some ⟨b6, 0, none⟩)) (.int .i64 0) (.int .i64 0) (.pointer (some ⟨b9, 0, none⟩)) (.int .i64 0) (.int .i64 0) (.pointer (some ⟨b12, 0, none⟩)) (.int .i64 12) (.int .i64 5) (.pointer (some ⟨b15, 0, none⟩)) (.int .i64 11) (.int .i64 7) (.bool true) undef undef a ∧ Hid (RowKit.Below w.heap.size w V) ∧ Hid (SlR V (some ⟨b1, 0, none⟩) b1 0 2 8 (L0.map dC)) ∧ Hid (BoxL V b2 [.int .i64 2, .int .i64 0, .string ⟨#[114, 101, 110, 116]⟩, .int .i64 0, .int .i64 0, .bool false, .int .i64 0, .int .i64 0, .int .i64 0, .slice none 0 0]) ∧ Hid (BoxL V b3 [.bool false, .int .i64 1, .int .i64 0, .int .i64 0]) ∧ Hid (BoxL V b6 [.bool false, .int .i64 2, .int .i64 0, .int .i64 0]) ∧ Hid (BoxL V b9 [.bool true, .int .i64 0, .int .i64 0, .int .i64 0]) ∧ Hid (BoxL V b12 [.bool false, .int .i64 0, .int .i64 0, .int .i64 0]) ∧ Hid (BoxL V b15 [.bool false, .int .i64 0, .int .i64 0, .int .i64 0])) := ⟨_, rfl⟩
 have HK0 := Lib.hid hK0
 clear hK0
 rename_i hKrest
 refine Code.wp_mono (Q := Exit.then K0 (fun _ _ _ => False)) ?_ ?_
 rotate_left
 ·clear hKrest
  have hb := (Below.refl v.heap.size v).drew
  replace BB := Lib.hid (BB.out.trans (hb.mono BB.out.size))
  replace SS := Lib.hid (SS.out.bel hb)
  replace X2 := Lib.hid (X2.out.bel (by simp) hb)
  replace X3 := Lib.hid (X3.out.bel (by simp) hb)
  replace X6 := Lib.hid (X6.out.bel (by simp) hb)
  replace X9 := Lib.hid (X9.out.bel (by simp) hb)
  replace X12 := Lib.hid (X12.out.bel (by simp) hb)
  replace X15 := Lib.hid (X15.out.bel (by simp) hb)
  have hS : Hid (BoxL v.drew b3 [.bool false, .int .i64 1, .int .i64 0, .int .i64 0]) ∧ Hid (BoxL v.drew b6 [.bool false, .int .i64 2, .int .i64 0, .int .i64 0]) ∧ Hid (BoxL v.drew b9 [.bool true, .int .i64 0, .int .i64 0, .int .i64 0]) ∧ Hid (BoxL v.drew b2 [.int .i64 2, .int .i64 0, .string ⟨#[114, 101, 110, 116]⟩, .int .i64 0, .int .i64 0, .bool false, .int .i64 0, .int .i64 0, .int .i64 0, .slice none 0 0]) := ⟨X3, X6, X9, X2⟩
  refine wp_region_held (S := fun w' : World => Hid (BoxL w' b3 [.bool false, .int .i64 1, .int .i64 0, .int .i64 0]) ∧ Hid (BoxL w' b6 [.bool false, .int .i64 2, .int .i64 0, .int .i64 0]) ∧ Hid (BoxL w' b9 [.bool true, .int .i64 0, .int .i64 0, .int .i64 0]) ∧ Hid (BoxL w' b2 [.int .i64 2, .int .i64 0, .string ⟨#[114, 101, 110, 116]⟩, .int .i64 0, .int .i64 0, .bool false, .int .i64 0, .int .i64 0, .int .i64 0, .slice none 0 0])) mixed ?_
  change wpAnyH _ _ _ _ _ _ _ _ v.drew
  clear hb
  generalize v.drew = U63 at *
  refine tk0 (v := ?_) (by kernel_rfl) (by kernel_rfl) (by kernel_rfl) (fun _ _ _ h => h) (Or.inl ⟨by rfl, ?_⟩) hS ?_
  rotate_left
  ·(intro w hSw; (try dsimp only at hSw); go_simp; try with_reducible rfl)
  simp only [Act.put, zA, zB, zC]
  refine tk1 (v := ?_) (by kernel_rfl) (by kernel_rfl) (by kernel_rfl) (fun _ _ _ h => h) (Or.inl ⟨by rfl, ?_⟩) hS ?_
  rotate_left
  ·(intro w hSw; (try dsimp only at hSw); go_simp; try with_reducible rfl)
  simp only [Act.put, zA, zB, zC]
  refine tk2 (v := .agg ([.bool false, .int .i64 1, .int .i64 0, .int .i64 0] : List Value).toArray) (by kernel_rfl) (by kernel_rfl) (by kernel_rfl) (fun _ _ _ h => h) (Or.inl ⟨by kernel_rfl, ?_⟩) hS ?_
  ·intro w' hSw
   exact ex_load rfl rfl (load_row 29 4 (by kernel_rfl) (by kernel_rfl) w' b3 _ rfl (fun j v hv => (hSw.1.out j v hv).1))
  simp only [Act.put, zA, zB, zC]
  refine wpAnyH_ready (rs := [3]) (by kernel_rfl) (by simp) (st3 (fun K hK => ?_) AllReadyH.nil)
  go_simp
  refine (rMoney_any _).mono ?_
  rintro _ U64 ⟨rfl, hb⟩
  go_wp2_with fail
  replace BB := Lib.hid (BB.out.trans (hb.mono BB.out.size))
  replace SS := Lib.hid (SS.out.bel hb)
  replace X2 := Lib.hid (X2.out.bel (by simp) hb)
  replace X3 := Lib.hid (X3.out.bel (by simp) hb)
  replace X6 := Lib.hid (X6.out.bel (by simp) hb)
  replace X9 := Lib.hid (X9.out.bel (by simp) hb)
  replace X12 := Lib.hid (X12.out.bel (by simp) hb)
  replace X15 := Lib.hid (X15.out.bel (by simp) hb)
  clear hb
  have hS : Hid (BoxL U64 b3 [.bool false, .int .i64 1, .int .i64 0, .int .i64 0]) ∧ Hid (BoxL U64 b6 [.bool false, .int .i64 2, .int .i64 0, .int .i64 0]) ∧ Hid (BoxL U64 b9 [.bool true, .int .i64 0, .int .i64 0, .int .i64 0]) ∧ Hid (BoxL U64 b2 [.int .i64 2, .int .i64 0, .string ⟨#[114, 101, 110, 116]⟩, .int .i64 0, .int .i64 0, .bool false, .int .i64 0, .int .i64 0, .int .i64 0, .slice none 0 0]) := ⟨X3, X6, X9, X2⟩
  refine hK.out _ _ ?_ (fun hHeld => ?_)
  ·exact hS
  clear hK K
  try simp only [Act.put, zA, zB, zC]
  refine tk4 (v := ?_) (by kernel_rfl) (by kernel_rfl) (by kernel_rfl) (fun _ _ _ h => h) (Or.inl ⟨by rfl, ?_⟩) hS ?_
  rotate_left
  ·(intro w hSw; (try dsimp only at hSw); go_simp; try with_reducible rfl)
  simp only [Act.put, zA, zB, zC]
  refine tk5 (v := ?_) (by kernel_rfl) (by kernel_rfl) (by kernel_rfl) (fun _ _ _ h => h) (Or.inl ⟨by rfl, ?_⟩) hS ?_
  rotate_left
  ·(intro w hSw; (try dsimp only at hSw); go_simp; try with_reducible rfl)
  simp only [Act.put, zA, zB, zC]
  refine tk6 (v := ?_) (by kernel_rfl) (by kernel_rfl) (by kernel_rfl) (fun _ _ _ h => h) (Or.inl ⟨by rfl, ?_⟩) hS ?_
  rotate_left
  ·(intro w hSw; (try dsimp only at hSw); go_simp; try with_reducible rfl)
  simp only [Act.put, zA, zB, zC]
  refine tk7 (v := .agg ([.bool false, .int .i64 2, .int .i64 0, .int .i64 0] : List Value).toArray) (by kernel_rfl) (by kernel_rfl) (by kernel_rfl) (fun _ _ _ h => h) (Or.inl ⟨by kernel_rfl, ?_⟩) hS ?_
  ·intro w' hSw
   exact ex_load rfl rfl (load_row 29 4 (by kernel_rfl) (by kernel_rfl) w' b6 _ rfl (fun j v hv => (hSw.2.1.out j v hv).1))
  simp only [Act.put, zA, zB, zC]
  refine tk8 (v := ?_) (by kernel_rfl) (by kernel_rfl) (by kernel_rfl) (fun _ _ _ h => h) (Or.inl ⟨by rfl, ?_⟩) hS ?_
  rotate_left
  ·(intro w hSw; (try dsimp only at hSw); go_simp; try with_reducible rfl)
  simp only [Act.put, zA, zB, zC]
  refine tk9 (v := ?_) (by kernel_rfl) (by kernel_rfl) (by kernel_rfl) (fun _ _ _ h => h) (Or.inl ⟨by rfl, ?_⟩) hS ?_
  rotate_left
  ·(intro w hSw; (try dsimp only at hSw); go_simp; try with_reducible rfl)
  simp only [Act.put, zA, zB, zC]
  refine tk10 (v := ?_) (by kernel_rfl) (by kernel_rfl) (by kernel_rfl) (fun _ _ _ h => h) (Or.inl ⟨by rfl, ?_⟩) hS ?_
  rotate_left
  ·(intro w hSw; (try dsimp only at hSw); go_simp; try with_reducible rfl)
  simp only [Act.put, zA, zB, zC]
  refine tk11 (v := ?_) (by kernel_rfl) (by kernel_rfl) (by kernel_rfl) (fun _ _ _ h => h) (Or.inl ⟨by rfl, ?_⟩) hS ?_
  rotate_left
  ·(intro w hSw; (try dsimp only at hSw); go_simp; try with_reducible rfl)
  simp only [Act.put, zA, zB, zC]
  refine tk12 (v := .agg ([.bool true, .int .i64 0, .int .i64 0, .int .i64 0] : List Value).toArray) (by kernel_rfl) (by kernel_rfl) (by kernel_rfl) (fun _ _ _ h => h) (Or.inl ⟨by kernel_rfl, ?_⟩) hS ?_
  ·intro w' hSw
   exact ex_load rfl rfl (load_row 29 4 (by kernel_rfl) (by kernel_rfl) w' b9 _ rfl (fun j v hv => (hSw.2.2.1.out j v hv).1))
  simp only [Act.put, zA, zB, zC]
  refine wpAnyH_ready (rs := [13]) (by kernel_rfl) (by simp) (st13 (fun K hK => ?_) AllReadyH.nil)
  go_simp
  refine (rFlag_any _).mono ?_
  rintro _ U65 ⟨rfl, hb⟩
  go_wp2_with fail
  replace BB := Lib.hid (BB.out.trans (hb.mono BB.out.size))
  replace SS := Lib.hid (SS.out.bel hb)
  replace X2 := Lib.hid (X2.out.bel (by simp) hb)
  replace X3 := Lib.hid (X3.out.bel (by simp) hb)
  replace X6 := Lib.hid (X6.out.bel (by simp) hb)
  replace X9 := Lib.hid (X9.out.bel (by simp) hb)
  replace X12 := Lib.hid (X12.out.bel (by simp) hb)
  replace X15 := Lib.hid (X15.out.bel (by simp) hb)
  clear hb
  have hS : Hid (BoxL U65 b3 [.bool false, .int .i64 1, .int .i64 0, .int .i64 0]) ∧ Hid (BoxL U65 b6 [.bool false, .int .i64 2, .int .i64 0, .int .i64 0]) ∧ Hid (BoxL U65 b9 [.bool true, .int .i64 0, .int .i64 0, .int .i64 0]) ∧ Hid (BoxL U65 b2 [.int .i64 2, .int .i64 0, .string ⟨#[114, 101, 110, 116]⟩, .int .i64 0, .int .i64 0, .bool false, .int .i64 0, .int .i64 0, .int .i64 0, .slice none 0 0]) := ⟨X3, X6, X9, X2⟩
  refine hK.out _ _ ?_ (fun hHeld => ?_)
  ·exact hS
  clear hK K
  try simp only [Act.put, zA, zB, zC]
  refine tk14 (v := ?_) (by kernel_rfl) (by kernel_rfl) (by kernel_rfl) (fun _ _ _ h => h) (Or.inl ⟨by rfl, ?_⟩) hS ?_
  rotate_left
  ·(intro w hSw; (try dsimp only at hSw); go_simp; try with_reducible rfl)
  simp only [Act.put, zA, zB, zC]
  refine tk15 (v := ?_) (by kernel_rfl) (by kernel_rfl) (by kernel_rfl) (fun _ _ _ h => h) (Or.inl ⟨by rfl, ?_⟩) hS ?_
  rotate_left
  ·(intro w hSw; (try dsimp only at hSw); go_simp; try with_reducible rfl)
  simp only [Act.put, zA, zB, zC]
  refine tk16 (v := ?_) (by kernel_rfl) (by kernel_rfl) (by kernel_rfl) (fun _ _ _ h => h) (Or.inl ⟨by rfl, ?_⟩) hS ?_
  rotate_left
  ·(intro w hSw; (try dsimp only at hSw); go_simp; try with_reducible rfl)
  simp only [Act.put, zA, zB, zC]
  refine tk17 (v := ?_) (by kernel_rfl) (by kernel_rfl) (by kernel_rfl) (fun _ _ _ h => h) (Or.inl ⟨by rfl, ?_⟩) hS ?_
  rotate_left
  ·(intro w hSw; (try dsimp only at hSw); go_simp; try with_reducible rfl)
  simp only [Act.put, zA, zB, zC]
  refine tk18 (v := .agg ([.int .i64 2, .int .i64 0, .string ⟨#[114, 101, 110, 116]⟩, .int .i64 0, .int .i64 0, .bool false, .int .i64 0, .int .i64 0, .int .i64 0, .slice none 0 0] : List Value).toArray) (by kernel_rfl) (by kernel_rfl) (by kernel_rfl) (fun _ _ _ h => h) (Or.inl ⟨by kernel_rfl, ?_⟩) hS ?_
  ·intro w' hSw
   exact ex_load rfl rfl (load_row 32 10 (by kernel_rfl) (by kernel_rfl) w' b2 _ rfl (fun j v hv => (hSw.2.2.2.out j v hv).1))
  simp only [Act.put, zA, zB, zC]
  refine wpAnyH_ready (rs := [19]) (by kernel_rfl) (by simp) (st19 (fun K hK => ?_) AllReadyH.nil)
  go_simp
  refine (valid_1 b1 _ SS.out).mono ?_
  rintro _ U66 ⟨rfl, hb⟩
  go_wp2_with fail
  replace BB := Lib.hid (BB.out.trans (hb.mono BB.out.size))
  replace SS := Lib.hid (SS.out.bel hb)
  replace X2 := Lib.hid (X2.out.bel (by simp) hb)
  replace X3 := Lib.hid (X3.out.bel (by simp) hb)
  replace X6 := Lib.hid (X6.out.bel (by simp) hb)
  replace X9 := Lib.hid (X9.out.bel (by simp) hb)
  replace X12 := Lib.hid (X12.out.bel (by simp) hb)
  replace X15 := Lib.hid (X15.out.bel (by simp) hb)
  clear hb
  have hS : Hid (BoxL U66 b3 [.bool false, .int .i64 1, .int .i64 0, .int .i64 0]) ∧ Hid (BoxL U66 b6 [.bool false, .int .i64 2, .int .i64 0, .int .i64 0]) ∧ Hid (BoxL U66 b9 [.bool true, .int .i64 0, .int .i64 0, .int .i64 0]) ∧ Hid (BoxL U66 b2 [.int .i64 2, .int .i64 0, .string ⟨#[114, 101, 110, 116]⟩, .int .i64 0, .int .i64 0, .bool false, .int .i64 0, .int .i64 0, .int .i64 0, .slice none 0 0]) := ⟨X3, X6, X9, X2⟩
  refine hK.out _ _ ?_ (fun hHeld => ?_)
  ·exact hS
  clear hK K
  try simp only [Act.put, zA, zB, zC]
  refine tk20 (v := ?_) (by kernel_rfl) (by kernel_rfl) (by kernel_rfl) (fun _ _ _ h => h) (Or.inl ⟨by rfl, ?_⟩) hS ?_
  rotate_left
  ·(intro w hSw; (try dsimp only at hSw); go_simp; try with_reducible rfl)
  simp only [Act.put, zA, zB, zC]
  refine tk21 (v := ?_) (by kernel_rfl) (by kernel_rfl) (by kernel_rfl) (fun _ _ _ h => h) (Or.inl ⟨by rfl, ?_⟩) hS ?_
  rotate_left
  ·(intro w hSw; (try dsimp only at hSw); go_simp; try with_reducible rfl)
  simp only [Act.put, zA, zB, zC]
  refine tk22 (v := ?_) (by kernel_rfl) (by kernel_rfl) (by kernel_rfl) (fun _ _ _ h => h) (Or.inl ⟨by rfl, ?_⟩) hS ?_
  rotate_left
  ·(intro w hSw; (try dsimp only at hSw); go_simp; try with_reducible rfl)
  simp only [Act.put, zA, zB, zC]
  refine tk23 (v := ?_) (by kernel_rfl) (by kernel_rfl) (by kernel_rfl) (fun _ _ _ h => h) (Or.inl ⟨by rfl, ?_⟩) hS ?_
  rotate_left
  ·(intro w hSw; (try dsimp only at hSw); go_simp; try with_reducible rfl)
  simp only [Act.put, zA, zB, zC]
  refine wpAnyH_ready (rs := [24]) (by kernel_rfl) (by simp) (st24 (fun K hK => ?_) AllReadyH.nil)
  go_simp
  refine (valid_2 b1 _ SS.out).mono ?_
  rintro _ U67 ⟨rfl, hb⟩
  go_wp2_with fail
  replace BB := Lib.hid (BB.out.trans (hb.mono BB.out.size))
  replace SS := Lib.hid (SS.out.bel hb)
  replace X2 := Lib.hid (X2.out.bel (by simp) hb)
  replace X3 := Lib.hid (X3.out.bel (by simp) hb)
  replace X6 := Lib.hid (X6.out.bel (by simp) hb)
  replace X9 := Lib.hid (X9.out.bel (by simp) hb)
  replace X12 := Lib.hid (X12.out.bel (by simp) hb)
  replace X15 := Lib.hid (X15.out.bel (by simp) hb)
  clear hb
  have hS : Hid (BoxL U67 b3 [.bool false, .int .i64 1, .int .i64 0, .int .i64 0]) ∧ Hid (BoxL U67 b6 [.bool false, .int .i64 2, .int .i64 0, .int .i64 0]) ∧ Hid (BoxL U67 b9 [.bool true, .int .i64 0, .int .i64 0, .int .i64 0]) ∧ Hid (BoxL U67 b2 [.int .i64 2, .int .i64 0, .string ⟨#[114, 101, 110, 116]⟩, .int .i64 0, .int .i64 0, .bool false, .int .i64 0, .int .i64 0, .int .i64 0, .slice none 0 0]) := ⟨X3, X6, X9, X2⟩
  refine hK.out _ _ ?_ (fun hHeld => ?_)
  ·exact hS
  clear hK K
  try simp only [Act.put, zA, zB, zC]
  refine tk25 (v := ?_) (by kernel_rfl) (by kernel_rfl) (by kernel_rfl) (fun _ _ _ h => h) (Or.inl ⟨by rfl, ?_⟩) hS ?_
  rotate_left
  ·(intro w hSw; (try dsimp only at hSw); go_simp; try with_reducible rfl)
  simp only [Act.put, zA, zB, zC]
  refine tk26 (v := ?_) (by kernel_rfl) (by kernel_rfl) (by kernel_rfl) (fun _ _ _ h => h) (Or.inl ⟨by rfl, ?_⟩) hS ?_
  rotate_left
  ·(intro w hSw; (try dsimp only at hSw); go_simp; try with_reducible rfl)
  simp only [Act.put, zA, zB, zC]
  refine tk27 (v := ?_) (by kernel_rfl) (by kernel_rfl) (by kernel_rfl) (fun _ _ _ h => h) (Or.inl ⟨by rfl, ?_⟩) hS ?_
  rotate_left
  ·(intro w hSw; (try dsimp only at hSw); go_simp; try with_reducible rfl)
  simp only [Act.put, zA, zB, zC]
  refine wpAnyH_done (by kernel_rfl) ?_ _
  clear hS
  show K0 _ _
  rw [HK0.out]
  exact ⟨0, by constructor, BB, SS, X2, X3, X6, X9, X12, X15⟩
 intro e a v hv
 have hen : e = .normal ∧ K0 a v := by cases e <;> first | exact ⟨rfl, hv⟩ | exact hv.elim
 clear hv
 obtain ⟨rfl, hv⟩ := hen
 rw [HK0.out] at hv
 clear HK0 BB SS X2 X3 X6 X9 X12 X15
 obtain ⟨-, ha, BB, SS, X2, -⟩ := hv
 cases ha
 refine hKrest _ _ ?_
 clear hKrest
 obtain ⟨b19, hb19⟩ : ∃ b, b = v.heap.size := ⟨_, rfl⟩
 go_wp2_with (first | ((with_reducible show wpList _ _ _ ({ dst := some 123, op := _, type := _, pos := _, after := _, guard := _ } :: _) _ _); refine wl_loadP rfl rfl rfl (load_row 32 10 (by kernel_rfl) (by kernel_rfl) _ b2 [.int .i64 2, .int .i64 0, .string ⟨#[114, 101, 110, 116]⟩, .int .i64 0, .int .i64 0, .bool false, .int .i64 0, .int .i64 0, .int .i64 0, .slice none 0 0] rfl (fun j v hv => (X2.out j v hv).1)) ?_; simp only [Act.put, zA, zB, zC]) | ((with_reducible show wpList _ _ _ ({ dst := some 124, op := _, type := _, pos := _, after := _, guard := _ } :: _) _ _); refine wl_build rfl rfl (build_fee _) ?_; simp only [Act.put, zA, zB, zC]) | ((with_reducible show wpList _ _ _ ({ dst := some 19, op := _, type := _, pos := _, after := _, guard := _ } :: _) _ _); refine wl_rbox (L := rFeeL) rfl rfl rfl rfl rfl (by simp [Value.oneCell']) rfl rfl ?_; intro Y1 hb hs hx; replace BB := Lib.hid (BB.out.trans (hb.mono BB.out.size)); replace SS := Lib.hid (SS.out.bel hb); replace X2 := Lib.hid (X2.out.bel (by simp) hb); have X19 := Lib.hid hx; clear hb hx hs; simp only [Act.put, zA, zB, zC]; rw [← hb19] at X19 ⊢; clear hb19) | ((with_reducible show wpList _ _ _ ({ dst := some 126, op := _, type := _, pos := _, after := _, guard := _ } :: _) _ _); refine wl_loadP rfl rfl rfl (load_row 58 28 (by kernel_rfl) (by kernel_rfl) _ b19 rFeeL rfl (fun j v hv => (X19.out j v hv).1)) ?_; simp only [Act.put, zA, zB, zC]) | ((with_reducible show wpList _ _ _ ({ dst := some 127, op := _, type := _, pos := _, after := _, guard := _ } :: _) _ _); refine wl_loadP rfl rfl rfl (load_row 58 28 (by kernel_rfl) (by kernel_rfl) _ b19 rFeeL rfl (fun j v hv => (X19.out j v hv).1)) ?_; simp only [Act.put, zA, zB, zC]) | ((with_reducible show wpList _ _ _ ({ dst := some 128, op := _, type := _, pos := _, after := _, guard := _ } :: _) _ _); have hr2 := Lib.hid (fees2 Y1); have hb := (Below.refl Y1.heap.size Y1).alloc (Nat.le_refl _) (.cells (rFeeL ++ rFeeL).toArray 58); refine wl_slice2 rfl rfl rfl rfl (slice_two Y1) ?_; simp only [Act.put, zA, zB, zC]; generalize Y1.alloc (.cells (rFeeL ++ rFeeL).toArray 58) = Y2 at *; replace BB := Lib.hid (BB.out.trans (hb.mono BB.out.size)); replace SS := Lib.hid (SS.out.bel hb); replace X19 := Lib.hid (X19.out.bel (by simp) hb); clear hb X2))
 refine (check2 b1 _ _ Y2 SS.out hr2.out).mono ?_
 rintro _ Y3 ⟨dv, rfl, hd, hb⟩
 have HD := Lib.hid hd
 clear hd
 replace BB := Lib.hid (BB.out.trans (hb.mono BB.out.size))
 replace SS := Lib.hid (SS.out.bel hb)
 replace X19 := Lib.hid (X19.out.bel (by simp) hb)
 clear hb
 go_wp2_with (first | ((with_reducible show wpList _ _ _ ({ dst := some 134, op := _, type := _, pos := _, after := _, guard := _ } :: _) _ _); refine wl_loadG rfl rfl rfl (load_row 58 28 (by kernel_rfl) (by kernel_rfl) _ b19 rFeeL rfl (fun j v hv => (X19.out j v hv).1)) ?_; simp only [Act.put, zA, zB, zC]) | ((with_reducible show wpList _ _ _ ({ dst := some 135, op := _, type := _, pos := _, after := _, guard := _ } :: _) _ _); have hr1 := Lib.hid (fees1 Y3); have hb := (Below.refl Y3.heap.size Y3).alloc (Nat.le_refl _) (.cells rFeeL.toArray 58); refine wl_sliceG rfl rfl rfl (slice_ruleL rFeeL rfl Y3) ?_; simp only [Act.put, zA, zB, zC]; generalize Y3.alloc (.cells rFeeL.toArray 58) = Y4 at *; replace BB := Lib.hid (BB.out.trans (hb.mono BB.out.size)); replace SS := Lib.hid (SS.out.bel hb); replace HD := Lib.hid (HD.out.bel hb); clear hb X19))
 refine (check1 b1 _ _ Y4 SS.out hr1.out).mono ?_
 rintro _ Y5 ⟨dq, dc, rfl, hb⟩
 replace BB := Lib.hid (BB.out.trans (hb.mono BB.out.size))
 replace HD := Lib.hid (HD.out.bel hb)
 have HY := Lib.hid (diag1 Y5)
 have hb5 := (Below.refl Y5.heap.size Y5).alloc (Nat.le_refl _) (.cells #[.int .i64 0, .int .i64 5] 66)
 have BB6 := Lib.hid (BB.out.trans (hb5.mono BB.out.size))
 have HD6 := Lib.hid (HD.out.bel hb5)
 clear hb hb5 HD BB SS hr1
 go_wp2_with fail
 refine (rSame_any _ _ _ _ _ HD6.out HY.out).mono ?_
 rintro _ Y7 ⟨rfl, hb⟩
 have BB7 := Lib.hid (BB6.out.trans (hb.mono BB6.out.size))
 clear hb HD6 HY BB6
 go_wp2_with fail
 go_ret
 exact ⟨rfl, BB7.out⟩
end Go.Proofs.Ytoaonficdkgfiaa
