/- Texts on units: UChk UErm URe1 -/
import Derived.Test.YtoaonficdkgfiaaY16
namespace Go.Proofs.Ytoaonficdkgfiaa
open Go.RowKit Un MapKept

/-- How things stand within checkRule. -/
structure CkS (w V : World) (m1 m2 : Nat) (l : List Value) : Prop where
 b0 : BoxL V w.heap.size [.map (some m1), .map (some m2)]
 b1 : BoxL V (w.heap.size + 1) l
 be : RowKit.Below w.heap.size w V
theorem CkS.bel {w V V' : World} {m1 m2 : Nat} {l : List Value} (hl : l.length = 28) (h : CkS w V m1 m2 l) (hB : RowKit.Below V.heap.size V V') : CkS w V' m1 m2 l :=
 ⟨h.b0.bel (by simp) hB, h.b1.bel (by omega) hB, h.be.trans (hB.mono h.be.size)⟩
theorem headR_eq (prev : List Ru) (r : Ru) : headR prev r = if timed r = false then 3 else if (prev.any fun v => v.ver == r.ver) = true then 5 else if ((hasAct r.kind != r.act.isEmpty) && !(prev.any fun v => v.kind != r.kind || !(v.act == r.act))) = false then 13 else if nextB prev r = false then 6 else 0 := by
 unfold headR nextB
 cases timed r with
 | false => rfl
 | true =>
  simp only [Bool.true_eq_false, if_false]
  split
  ·rfl
  ·cases ((hasAct r.kind != r.act.isEmpty) && !(prev.any fun v => v.kind != r.kind || !(v.act == r.act))) with
   | false => rfl
   | true =>
    simp only [if_true, Bool.true_eq_false, if_false]
    cases prev.getLast? with
    | none => by_cases h : r.ver = 1 <;> simp [h]
    | some v => by_cases h : v.ver = r.ver - 1 <;> by_cases h2 : v.known ≤ r.known <;> simp [h, h2]
/-- What is said of a rule behind its head. -/
def errM (gi : Int × Int) (wp pl : Int) (hd : Int) : Got → Int × Int
 | .er e p => if hd = 0 then (p, e) else (pl, hd)
 | .ok u => if hd = 0 then (if u.f = false then (wp, 12) else gi) else (pl, hd)
theorem errR_eq (fs : List (List UInt8 × U)) (prev : List Ru) (r : Ru) : errR fs prev r = errM (givR fs r) r.whn.pl r.pl (headR prev r) (fnd fs r.whn) := by
 unfold errR errM givR givM
 by_cases h : headR prev r = 0
 ·rw [if_neg (by simpa using h)]
  cases fnd fs r.whn with
  | er e p => simp [h]
  | ok u => cases fnd fs r.giv <;> simp [h]
 ·rw [if_pos h]
  cases fnd fs r.whn <;> simp [h]
theorem fld_u (vf : Bool) (vm va vd : Int) (w : World) : (Instr.field 29 (.agg #[.bool vf, .int .i64 vm, .int .i64 va, .int .i64 vd]) 0).run Try.prog w = .ok (.bool vf) w := by kernel_rfl
set_option maxRecDepth 100000 in
set_option maxHeartbeats 12000000 in
theorem ucheckRule_any (L : List Dc) (hf : formD L = true) (r : Ru) (g : Nat) (hw : wf vld g r.whn = true) (hw2 : wf vld g r.giv = true) (x y : Kd) (l : List Value) (hr : RuC r x y l) (A : Nat → Prop) (m1 m2 fb p1 p2 : Nat) (vs : List Ru) (rows : List (List Value)) (p : Option Addr) (b off c : Nat) (w : World) (hm : RuM w A r x y) (hs : ScR w L m1 m2 fb p1 p2) (hv : RsC w p b off vs rows) :
  Calls Try.prog 64 #[.agg #[.map (some m1), .map (some m2)], .agg l.toArray, .slice p vs.length c] w fun e w' => CkE (errR (Un.facts L) vs r) e ∧ RowKit.Below w.heap.size w w' := by
 have KT := Lib.hid (fun V => uisTimed_any r x y l hr V)
 have KW := Lib.hid (fun V (hV : RowKit.Below w.heap.size w V) => uisTwice_any r x y l hr vs rows p b off c V (hv.bel hV))
 have KA := Lib.hid (fun V (hV : RowKit.Below w.heap.size w V) => uisAbout_any r x y l hr vs rows p b off c V (hv.bel hV))
 have KN := Lib.hid (fun (ht : timed r = true) V (hV : RowKit.Below w.heap.size w V) => uisNext_any r x y l hr (by simp only [timed, Bool.and_eq_true, decide_eq_true_eq] at ht; omega) vs rows p b off c V (hv.bel hV))
 have KU := Lib.hid (fun V (hV : RowKit.Below w.heap.size w V) => uunit_any L (facts_good hf) (size r.whn) r.whn (Nat.le_refl _) g hw A x m1 m2 fb p1 p2 V (hm.1.bel hV) (hs.bel hV))
 have KG := Lib.hid (fun V (hV : RowKit.Below w.heap.size w V) => ucheckGive_any L hf r g hw2 x y l hr A m1 m2 fb p1 p2 V (hm.2.bel hV) (hs.bel hV))
 obtain ⟨R, hR⟩ : ∃ R, R = errR (Un.facts L) vs r := ⟨_, rfl⟩
 rw [← hR]
 have HH := Lib.hid (headR_eq vs r)
 have HR : Hid (R = errM (givR (Un.facts L) r) r.whn.pl r.pl (headR vs r) (fnd (Un.facts L) r.whn)) := hR.trans (errR_eq _ _ _)
 have HNE := Lib.hid (fun e p (h : fnd (Un.facts L) r.whn = .er e p) => fnd_ne r.whn e p h)
 obtain ⟨W1, hW1⟩ : ∃ W1, w.alloc (.cells #[.map (some m1), .map (some m2)] 72) = W1 := ⟨_, rfl⟩
 have a1 := (Below.refl w.heap.size w).alloc (Nat.le_refl _) (.cells #[.map (some m1), .map (some m2)] 72)
 have x1 : BoxL W1 w.heap.size [.map (some m1), .map (some m2)] := by rw [← hW1]; exact box_new _ _ rfl
 rw [hW1] at a1
 have s1 : W1.heap.size = w.heap.size + 1 := by rw [← hW1]; simp
 obtain ⟨W2, hW2⟩ : ∃ W2, W1.alloc (.cells l.toArray 58) = W2 := ⟨_, rfl⟩
 have a2 := (Below.refl W1.heap.size W1).alloc (Nat.le_refl _) (.cells l.toArray 58)
 have x2 : BoxL W2 (w.heap.size + 1) l := by rw [← hW2]; exact box_new _ _ s1
 rw [hW2] at a2
 have CS : Hid (CkS w W2 m1 m2 l) := ⟨x1.bel (by simp) a2, x2, a1.trans (a2.mono (by omega))⟩
 have hl := hr.len
 have f27 := hr.f27
 have HWH := Lib.hid hr.wh
 clear hR hm hs hw hw2 x1 x2 a1 a2 hv hf hr
 generalize headR vs r = hd at *
 generalize timed r = tm at *
 generalize (vs.any fun v => v.ver == r.ver) = tw at *
 generalize ((hasAct r.kind != r.act.isEmpty) && !(vs.any fun v => v.kind != r.kind || !(v.act == r.act))) = ab at *
 generalize nextB vs r = nx at *
 generalize givR (Un.facts L) r = gi at *
 generalize fnd (Un.facts L) r.whn = G at *
 generalize r.pl = pl at *
 generalize r.whn = t at *
 obtain ⟨op, wp, nm, n0, d0, ⟨uf, um, ua, ud⟩, ks⟩ := t
 obtain ⟨q1, c1⟩ := x
 simp only [nV, nC] at KU HWH
 have HR2 : Hid (R = errM gi wp pl hd G) := HR.out
 clear HR
 generalize bs nm = s at *
 go_enter Try.func64, Try.ntmps64
 obtain ⟨k27, -⟩ := CS.out.b1 27 _ f27
 go_wp2_with fail
 clear hW1 hW2 s1
 have hS : (Hid (BoxL W2.drew (w.heap.size + 1) l)) ∧ W2.drew.cell? ⟨w.heap.size + 1, 27, none⟩ = some (.int .i64 pl) := ⟨CS.out.b1, k27⟩
 refine wp_region_held (S := fun w' : World => (Hid (BoxL w' (w.heap.size + 1) l)) ∧ w'.cell? ⟨w.heap.size + 1, 27, none⟩ = some (.int .i64 pl)) mixed ?_
 change wpAnyH _ _ _ _ _ _ _ _ W2.drew
 refine tk0 (v := .agg l.toArray) (by kernel_rfl) (by kernel_rfl) (by kernel_rfl) (fun _ _ _ h => h) (Or.inl ⟨by rfl, (by intro w hSw; have h1 := hSw.1; exact ex_load rfl rfl (load_rule w _ 0 l hl (fun j v hv => by rw [Nat.zero_add]; exact (h1.out j v hv).1)))⟩) hS ?_
 simp only [Act.put, zA, zB, zC]
 refine tk2 (v := ?_) (by kernel_rfl) (by kernel_rfl) (by kernel_rfl) (fun _ _ _ h => h) (Or.inl ⟨by rfl, ?_⟩) hS ?_
 rotate_left
 ·(intro w hSw; (try dsimp only at hSw); go_simp; try with_reducible rfl)
 simp only [Act.put, zA, zB, zC]
 refine tk3 (v := ?_) (by kernel_rfl) (by kernel_rfl) (by kernel_rfl) (fun _ _ _ h => h) (Or.inl ⟨by rfl, ?_⟩) hS ?_
 rotate_left
 ·(intro w hSw; (try dsimp only at hSw); go_simp; try with_reducible rfl)
 simp only [Act.put, zA, zB, zC]
 refine wpAnyH_ready (rs := [1]) (by kernel_rfl) (by simp) (st1 (fun K hK => ?_) AllReadyH.nil)
 go_simp
 refine (KT.out _).mono ?_
 rintro _ V1 ⟨rfl, hb⟩
 replace hb := (Below.refl W2.heap.size W2).drew.trans hb
 replace CS := Lib.hid (CS.out.bel hl hb)
 clear hb hS k27
 obtain ⟨k27, -⟩ := CS.out.b1 27 _ f27
 go_wp2_with fail
 refine hK.out _ _ ?_ (fun hHeld => ?_)
 ·exact ⟨CS.out.b1, k27⟩
 clear hK K
 try simp only [Act.put, zA, zB, zC]
 refine wpAnyH_ready (rs := [4]) (by kernel_rfl) (by simp) (st4 (fun K hK => ?_) AllReadyH.nil)
 cases tm with
 | false =>
  have hhd : hd = 3 := by rw [HH.out]; rfl
  have HR4 : Hid (R = (pl, 3)) := by show _ = _; rw [HR2.out, hhd]; cases G <;> rfl
  clear hhd
  go_simp
  refine (uneed_er 3 pl _).mono ?_
  rintro _ v2 ⟨rfl, rfl⟩
  go_wp2_with fail
  exact bodyPost_panic rfl ⟨CkE.er HR4.out (by omega) rfl, CS.out.be⟩
 | true =>
  go_simp
  refine (uneed_ok 3 pl _).mono ?_
  rintro _ v2 ⟨rfl, hw2⟩
  rw [hw2]
  clear hw2 v2
  go_wp2_with fail
  refine hK.out _ _ ?_ (fun hHeld => ?_)
  ·exact ⟨CS.out.b1, k27⟩
  clear hK K
  try simp only [Act.put, zA, zB, zC]
  refine wpAnyH_done (by kernel_rfl) ?_ _
  clear hHeld k27
  replace KN := Lib.hid (KN.out (by first | rfl | trivial))
  obtain ⟨k27, -⟩ := CS.out.b1 27 _ f27
  go_wp2_with fail
  have hS : (Hid (BoxL V1.drew (w.heap.size + 1) l)) ∧ V1.drew.cell? ⟨w.heap.size + 1, 27, none⟩ = some (.int .i64 pl) := ⟨CS.out.b1, k27⟩
  refine wp_region_held (S := fun w' : World => (Hid (BoxL w' (w.heap.size + 1) l)) ∧ w'.cell? ⟨w.heap.size + 1, 27, none⟩ = some (.int .i64 pl)) mixed ?_
  change wpAnyH _ _ _ _ _ _ _ _ V1.drew
  refine tk0 (v := .agg l.toArray) (by kernel_rfl) (by kernel_rfl) (by kernel_rfl) (fun _ _ _ h => h) (Or.inl ⟨by rfl, (by intro w hSw; have h1 := hSw.1; exact ex_load rfl rfl (load_rule w _ 0 l hl (fun j v hv => by rw [Nat.zero_add]; exact (h1.out j v hv).1)))⟩) hS ?_
  simp only [Act.put, zA, zB, zC]
  refine tk1 (v := ?_) (by kernel_rfl) (by kernel_rfl) (by kernel_rfl) (fun _ _ _ h => h) (Or.inl ⟨by rfl, ?_⟩) hS ?_
  rotate_left
  ·(intro w hSw; (try dsimp only at hSw); go_simp; try with_reducible rfl)
  simp only [Act.put, zA, zB, zC]
  refine tk4 (v := ?_) (by kernel_rfl) (by kernel_rfl) (by kernel_rfl) (fun _ _ _ h => h) (Or.inl ⟨by rfl, ?_⟩) hS ?_
  rotate_left
  ·(intro w hSw; (try dsimp only at hSw); go_simp; try with_reducible rfl)
  simp only [Act.put, zA, zB, zC]
  refine tk5 (v := ?_) (by kernel_rfl) (by kernel_rfl) (by kernel_rfl) (fun _ _ _ h => h) (Or.inl ⟨by rfl, ?_⟩) hS ?_
  rotate_left
  ·(intro w hSw; (try dsimp only at hSw); go_simp; try with_reducible rfl)
  simp only [Act.put, zA, zB, zC]
  refine wpAnyH_ready (rs := [2]) (by kernel_rfl) (by simp) (st2 (fun K hK => ?_) AllReadyH.nil)
  go_simp
  refine (KW.out _ CS.out.be.drew).mono ?_
  rintro _ V2 ⟨rfl, hb⟩
  replace hb := (Below.refl V1.heap.size V1).drew.trans hb
  replace CS := Lib.hid (CS.out.bel hl hb)
  clear hb hS k27
  obtain ⟨k27, -⟩ := CS.out.b1 27 _ f27
  go_wp2_with fail
  refine hK.out _ _ ?_ (fun hHeld => ?_)
  ·exact ⟨CS.out.b1, k27⟩
  clear hK K
  try simp only [Act.put, zA, zB, zC]
  refine tk3 (v := ?_) (by kernel_rfl) (by kernel_rfl) (by kernel_rfl) (fun _ _ _ h => h) (Or.inl ⟨by rfl, ?_⟩) hHeld ?_
  rotate_left
  ·(intro w hSw; (try dsimp only at hSw); go_simp; try with_reducible rfl)
  simp only [Act.put, zA, zB, zC]
  refine wpAnyH_ready (rs := [6]) (by kernel_rfl) (by simp) (st6 (fun K hK => ?_) AllReadyH.nil)
  cases tw with
  | true =>
   have hhd : hd = 5 := by rw [HH.out]; rfl
   have HR4 : Hid (R = (pl, 5)) := by show _ = _; rw [HR2.out, hhd]; cases G <;> rfl
   clear hhd
   go_simp
   refine (uneed_er 5 pl _).mono ?_
   rintro _ v2 ⟨rfl, rfl⟩
   go_wp2_with fail
   exact bodyPost_panic rfl ⟨CkE.er HR4.out (by omega) rfl, CS.out.be⟩
  | false =>
   go_simp
   refine (uneed_ok 5 pl _).mono ?_
   rintro _ v2 ⟨rfl, hw2⟩
   rw [hw2]
   clear hw2 v2
   go_wp2_with fail
   refine hK.out _ _ ?_ (fun hHeld => ?_)
   ·exact ⟨CS.out.b1, k27⟩
   clear hK K
   try simp only [Act.put, zA, zB, zC]
   refine wpAnyH_done (by kernel_rfl) ?_ _
   clear hHeld k27
   obtain ⟨k27, -⟩ := CS.out.b1 27 _ f27
   go_wp2_with fail
   have hS : (Hid (BoxL V2.drew (w.heap.size + 1) l)) ∧ V2.drew.cell? ⟨w.heap.size + 1, 27, none⟩ = some (.int .i64 pl) := ⟨CS.out.b1, k27⟩
   refine wp_region_held (S := fun w' : World => (Hid (BoxL w' (w.heap.size + 1) l)) ∧ w'.cell? ⟨w.heap.size + 1, 27, none⟩ = some (.int .i64 pl)) mixed ?_
   change wpAnyH _ _ _ _ _ _ _ _ V2.drew
   refine tk0 (v := .agg l.toArray) (by kernel_rfl) (by kernel_rfl) (by kernel_rfl) (fun _ _ _ h => h) (Or.inl ⟨by rfl, (by intro w hSw; have h1 := hSw.1; exact ex_load rfl rfl (load_rule w _ 0 l hl (fun j v hv => by rw [Nat.zero_add]; exact (h1.out j v hv).1)))⟩) hS ?_
   simp only [Act.put, zA, zB, zC]
   refine tk1 (v := ?_) (by kernel_rfl) (by kernel_rfl) (by kernel_rfl) (fun _ _ _ h => h) (Or.inl ⟨by rfl, ?_⟩) hS ?_
   rotate_left
   ·(intro w hSw; (try dsimp only at hSw); go_simp; try with_reducible rfl)
   simp only [Act.put, zA, zB, zC]
   refine tk3 (v := ?_) (by kernel_rfl) (by kernel_rfl) (by kernel_rfl) (fun _ _ _ h => h) (Or.inl ⟨by rfl, ?_⟩) hS ?_
   rotate_left
   ·(intro w hSw; (try dsimp only at hSw); go_simp; try with_reducible rfl)
   simp only [Act.put, zA, zB, zC]
   refine tk4 (v := ?_) (by kernel_rfl) (by kernel_rfl) (by kernel_rfl) (fun _ _ _ h => h) (Or.inl ⟨by rfl, ?_⟩) hS ?_
   rotate_left
   ·(intro w hSw; (try dsimp only at hSw); go_simp; try with_reducible rfl)
   simp only [Act.put, zA, zB, zC]
   refine wpAnyH_ready (rs := [2]) (by kernel_rfl) (by simp) (st2 (fun K hK => ?_) AllReadyH.nil)
   go_simp
   refine (KA.out _ CS.out.be.drew).mono ?_
   rintro _ V3 ⟨rfl, hb⟩
   replace hb := (Below.refl V2.heap.size V2).drew.trans hb
   replace CS := Lib.hid (CS.out.bel hl hb)
   clear hb hS k27
   obtain ⟨k27, -⟩ := CS.out.b1 27 _ f27
   go_wp2_with fail
   refine hK.out _ _ ?_ (fun hHeld => ?_)
   ·exact ⟨CS.out.b1, k27⟩
   clear hK K
   try simp only [Act.put, zA, zB, zC]
   refine wpAnyH_ready (rs := [5]) (by kernel_rfl) (by simp) (st5 (fun K hK => ?_) AllReadyH.nil)
   cases ab with
   | false =>
    have hhd : hd = 13 := by rw [HH.out]; rfl
    have HR4 : Hid (R = (pl, 13)) := by show _ = _; rw [HR2.out, hhd]; cases G <;> rfl
    clear hhd
    go_simp
    refine (uneed_er 13 pl _).mono ?_
    rintro _ v2 ⟨rfl, rfl⟩
    go_wp2_with fail
    exact bodyPost_panic rfl ⟨CkE.er HR4.out (by omega) rfl, CS.out.be⟩
   | true =>
    go_simp
    refine (uneed_ok 13 pl _).mono ?_
    rintro _ v2 ⟨rfl, hw2⟩
    rw [hw2]
    clear hw2 v2
    go_wp2_with fail
    refine hK.out _ _ ?_ (fun hHeld => ?_)
    ·exact ⟨CS.out.b1, k27⟩
    clear hK K
    try simp only [Act.put, zA, zB, zC]
    refine wpAnyH_done (by kernel_rfl) ?_ _
    clear hHeld k27
    obtain ⟨k27, -⟩ := CS.out.b1 27 _ f27
    go_wp2_with fail
    have hS : (Hid (BoxL V3.drew (w.heap.size + 1) l)) ∧ V3.drew.cell? ⟨w.heap.size + 1, 27, none⟩ = some (.int .i64 pl) := ⟨CS.out.b1, k27⟩
    refine wp_region_held (S := fun w' : World => (Hid (BoxL w' (w.heap.size + 1) l)) ∧ w'.cell? ⟨w.heap.size + 1, 27, none⟩ = some (.int .i64 pl)) mixed ?_
    change wpAnyH _ _ _ _ _ _ _ _ V3.drew
    refine tk0 (v := .agg l.toArray) (by kernel_rfl) (by kernel_rfl) (by kernel_rfl) (fun _ _ _ h => h) (Or.inl ⟨by rfl, (by intro w hSw; have h1 := hSw.1; exact ex_load rfl rfl (load_rule w _ 0 l hl (fun j v hv => by rw [Nat.zero_add]; exact (h1.out j v hv).1)))⟩) hS ?_
    simp only [Act.put, zA, zB, zC]
    refine tk1 (v := ?_) (by kernel_rfl) (by kernel_rfl) (by kernel_rfl) (fun _ _ _ h => h) (Or.inl ⟨by rfl, ?_⟩) hS ?_
    rotate_left
    ·(intro w hSw; (try dsimp only at hSw); go_simp; try with_reducible rfl)
    simp only [Act.put, zA, zB, zC]
    refine tk3 (v := ?_) (by kernel_rfl) (by kernel_rfl) (by kernel_rfl) (fun _ _ _ h => h) (Or.inl ⟨by rfl, ?_⟩) hS ?_
    rotate_left
    ·(intro w hSw; (try dsimp only at hSw); go_simp; try with_reducible rfl)
    simp only [Act.put, zA, zB, zC]
    refine tk4 (v := ?_) (by kernel_rfl) (by kernel_rfl) (by kernel_rfl) (fun _ _ _ h => h) (Or.inl ⟨by rfl, ?_⟩) hS ?_
    rotate_left
    ·(intro w hSw; (try dsimp only at hSw); go_simp; try with_reducible rfl)
    simp only [Act.put, zA, zB, zC]
    refine wpAnyH_ready (rs := [2]) (by kernel_rfl) (by simp) (st2 (fun K hK => ?_) AllReadyH.nil)
    go_simp
    refine (KN.out _ CS.out.be.drew).mono ?_
    rintro _ V4 ⟨rfl, hb⟩
    replace hb := (Below.refl V3.heap.size V3).drew.trans hb
    replace CS := Lib.hid (CS.out.bel hl hb)
    clear hb hS k27
    obtain ⟨k27, -⟩ := CS.out.b1 27 _ f27
    go_wp2_with fail
    refine hK.out _ _ ?_ (fun hHeld => ?_)
    ·exact ⟨CS.out.b1, k27⟩
    clear hK K
    try simp only [Act.put, zA, zB, zC]
    refine wpAnyH_ready (rs := [5]) (by kernel_rfl) (by simp) (st5 (fun K hK => ?_) AllReadyH.nil)
    cases nx with
    | false =>
     have hhd : hd = 6 := by rw [HH.out]; rfl
     have HR4 : Hid (R = (pl, 6)) := by show _ = _; rw [HR2.out, hhd]; cases G <;> rfl
     clear hhd
     go_simp
     refine (uneed_er 6 pl _).mono ?_
     rintro _ v2 ⟨rfl, rfl⟩
     go_wp2_with fail
     exact bodyPost_panic rfl ⟨CkE.er HR4.out (by omega) rfl, CS.out.be⟩
    | true =>
     go_simp
     refine (uneed_ok 6 pl _).mono ?_
     rintro _ v2 ⟨rfl, hw2⟩
     rw [hw2]
     clear hw2 v2
     go_wp2_with fail
     refine hK.out _ _ ?_ (fun hHeld => ?_)
     ·exact ⟨CS.out.b1, k27⟩
     clear hK K
     try simp only [Act.put, zA, zB, zC]
     refine wpAnyH_done (by kernel_rfl) ?_ _
     clear hHeld k27
     have hd0 : Hid (hd = 0) := by show _ = _; rw [HH.out]; rfl
     rw [hd0.out] at HR2
     obtain ⟨m0, -⟩ := CS.out.b0 0 _ rfl
     obtain ⟨m3, -⟩ := CS.out.b0 1 _ rfl
     have hwc : ∀ (j : Nat) (v : Value), ([.int .i64 op, .int .i64 wp, .string s, .int .i64 n0, .int .i64 d0, .bool uf, .int .i64 um, .int .i64 ua, .int .i64 ud, .slice q1 ks.length c1])[j]? = some v → V4.cell? ⟨w.heap.size + 1, 7 + j, none⟩ = some v := fun j v hv => (CS.out.b1 (7 + j) v (HWH.out j v hv)).1
     have w0 := hwc 0 _ rfl
     have w1 := hwc 1 _ rfl
     have w2 := hwc 2 _ rfl
     have w3 := hwc 3 _ rfl
     have w4 := hwc 4 _ rfl
     have w5 := hwc 5 _ rfl
     have w6 := hwc 6 _ rfl
     have w7 := hwc 7 _ rfl
     have w8 := hwc 8 _ rfl
     have w9 := hwc 9 _ rfl
     simp only [Nat.add_zero, Nat.reduceAdd] at w0 w1 w2 w3 w4 w5 w6 w7 w8 w9
     clear hwc
     go_wp2_with fail
     have hS : V4.drew.cell? ⟨w.heap.size, 0, none⟩ = some (.map (some m1)) ∧ V4.drew.cell? ⟨w.heap.size, 1, none⟩ = some (.map (some m2)) ∧ V4.drew.cell? ⟨w.heap.size + 1, 7, none⟩ = some (.int .i64 op) ∧ V4.drew.cell? ⟨w.heap.size + 1, 8, none⟩ = some (.int .i64 wp) ∧ V4.drew.cell? ⟨w.heap.size + 1, 9, none⟩ = some (.string s) ∧ V4.drew.cell? ⟨w.heap.size + 1, 10, none⟩ = some (.int .i64 n0) ∧ V4.drew.cell? ⟨w.heap.size + 1, 11, none⟩ = some (.int .i64 d0) ∧ V4.drew.cell? ⟨w.heap.size + 1, 12, none⟩ = some (.bool uf) ∧ V4.drew.cell? ⟨w.heap.size + 1, 13, none⟩ = some (.int .i64 um) ∧ V4.drew.cell? ⟨w.heap.size + 1, 14, none⟩ = some (.int .i64 ua) ∧ V4.drew.cell? ⟨w.heap.size + 1, 15, none⟩ = some (.int .i64 ud) ∧ V4.drew.cell? ⟨w.heap.size + 1, 16, none⟩ = some (.slice q1 ks.length c1) := ⟨m0, m3, w0, w1, w2, w3, w4, w5, w6, w7, w8, w9⟩
     refine wp_region_held (S := fun w' : World => w'.cell? ⟨w.heap.size, 0, none⟩ = some (.map (some m1)) ∧ w'.cell? ⟨w.heap.size, 1, none⟩ = some (.map (some m2)) ∧ w'.cell? ⟨w.heap.size + 1, 7, none⟩ = some (.int .i64 op) ∧ w'.cell? ⟨w.heap.size + 1, 8, none⟩ = some (.int .i64 wp) ∧ w'.cell? ⟨w.heap.size + 1, 9, none⟩ = some (.string s) ∧ w'.cell? ⟨w.heap.size + 1, 10, none⟩ = some (.int .i64 n0) ∧ w'.cell? ⟨w.heap.size + 1, 11, none⟩ = some (.int .i64 d0) ∧ w'.cell? ⟨w.heap.size + 1, 12, none⟩ = some (.bool uf) ∧ w'.cell? ⟨w.heap.size + 1, 13, none⟩ = some (.int .i64 um) ∧ w'.cell? ⟨w.heap.size + 1, 14, none⟩ = some (.int .i64 ua) ∧ w'.cell? ⟨w.heap.size + 1, 15, none⟩ = some (.int .i64 ud) ∧ w'.cell? ⟨w.heap.size + 1, 16, none⟩ = some (.slice q1 ks.length c1)) mixed ?_
     change wpAnyH _ _ _ _ _ _ _ _ V4.drew
     refine tk0 (v := ?_) (by kernel_rfl) (by kernel_rfl) (by kernel_rfl) (fun _ _ _ h => h) (Or.inl ⟨by rfl, ?_⟩) hS ?_
     rotate_left
     ·(intro w hSw; (try dsimp only at hSw); go_simp; try with_reducible rfl)
     simp only [Act.put, zA, zB, zC]
     refine tk1 (v := ?_) (by kernel_rfl) (by kernel_rfl) (by kernel_rfl) (fun _ _ _ h => h) (Or.inl ⟨by rfl, ?_⟩) hS ?_
     rotate_left
     ·(intro w hSw; (try dsimp only at hSw); go_simp; try with_reducible rfl)
     simp only [Act.put, zA, zB, zC]
     refine tk2 (v := ?_) (by kernel_rfl) (by kernel_rfl) (by kernel_rfl) (fun _ _ _ h => h) (Or.inl ⟨by rfl, ?_⟩) hS ?_
     rotate_left
     ·(intro w hSw; (try dsimp only at hSw); go_simp; try with_reducible rfl)
     simp only [Act.put, zA, zB, zC]
     refine tk5 (v := ?_) (by kernel_rfl) (by kernel_rfl) (by kernel_rfl) (fun _ _ _ h => h) (Or.inl ⟨by rfl, ?_⟩) hS ?_
     rotate_left
     ·(intro w hSw; (try dsimp only at hSw); go_simp; try with_reducible rfl)
     simp only [Act.put, zA, zB, zC]
     refine tk6 (v := ?_) (by kernel_rfl) (by kernel_rfl) (by kernel_rfl) (fun _ _ _ h => h) (Or.inl ⟨by rfl, ?_⟩) hS ?_
     rotate_left
     ·(intro w hSw; (try dsimp only at hSw); go_simp; try with_reducible rfl)
     simp only [Act.put, zA, zB, zC]
     refine tk7 (v := ?_) (by kernel_rfl) (by kernel_rfl) (by kernel_rfl) (fun _ _ _ h => h) (Or.inl ⟨by rfl, ?_⟩) hS ?_
     rotate_left
     ·(intro w hSw; (try dsimp only at hSw); go_simp; try with_reducible rfl)
     simp only [Act.put, zA, zB, zC]
     refine wpAnyH_ready (rs := [3]) (by kernel_rfl) (by simp) (st3 (fun K hK => ?_) AllReadyH.nil)
     go_simp
     refine (KU.out _ CS.out.be.drew).mono ?_
     rintro e V5 ⟨hG, hb⟩
     replace hb := (Below.refl V4.heap.size V4).drew.trans hb
     replace CS := Lib.hid (CS.out.bel hl hb)
     clear hb hS m0 m3 w0 w1 w2 w3 w4 w5 w6 w7 w8 w9
     cases G with
     | er E q =>
      have he : e = .panicked (failU E q) := hG
      subst he
      have hE : E ≠ 0 := by rcases HNE.out E q rfl with h | h <;> omega
      have HR4 : Hid (R = (q, E)) := HR2.out
      go_wp2_with fail
      exact bodyPost_panic rfl ⟨CkE.er HR4.out hE rfl, CS.out.be⟩
     | ok u =>
      obtain ⟨vf, vm, va, vd⟩ := u
      have he : e = .returned (uV ⟨vf, vm, va, vd⟩) := hG
      simp only [uV, uC] at he
      subst he
      obtain ⟨m0, -⟩ := CS.out.b0 0 _ rfl
      obtain ⟨m3, -⟩ := CS.out.b0 1 _ rfl
      have hwc : ∀ (j : Nat) (v : Value), ([.int .i64 op, .int .i64 wp, .string s, .int .i64 n0, .int .i64 d0, .bool uf, .int .i64 um, .int .i64 ua, .int .i64 ud, .slice q1 ks.length c1])[j]? = some v → V5.cell? ⟨w.heap.size + 1, 7 + j, none⟩ = some v := fun j v hv => (CS.out.b1 (7 + j) v (HWH.out j v hv)).1
      have w0 := hwc 0 _ rfl
      have w1 := hwc 1 _ rfl
      have w2 := hwc 2 _ rfl
      have w3 := hwc 3 _ rfl
      have w4 := hwc 4 _ rfl
      have w5 := hwc 5 _ rfl
      have w6 := hwc 6 _ rfl
      have w7 := hwc 7 _ rfl
      have w8 := hwc 8 _ rfl
      have w9 := hwc 9 _ rfl
      simp only [Nat.add_zero, Nat.reduceAdd] at w0 w1 w2 w3 w4 w5 w6 w7 w8 w9
      clear hwc
      have HR3 : Hid (R = if vf = false then (wp, 12) else gi) := HR2.out
      go_wp2_with fail
      refine hK.out _ _ ?_ (fun hHeld => ?_)
      ·exact ⟨m0, m3, w0, w1, w2, w3, w4, w5, w6, w7, w8, w9⟩
      clear hK K
      try simp only [Act.put, zA, zB, zC]
      refine tk4 (v := .bool vf) (by kernel_rfl) (by kernel_rfl) (by kernel_rfl) (fun _ _ _ h => h) (Or.inl ⟨by rfl, (by intro w hSw; (try dsimp only at hSw); go_simp; rw [fld_u]; rfl)⟩) hHeld ?_
      simp only [Act.put, zA, zB, zC]
      refine wpAnyH_ready (rs := [8]) (by kernel_rfl) (by simp) (st8 (fun K hK => ?_) AllReadyH.nil)
      cases vf with
      | false =>
       have HR4 : Hid (R = (wp, 12)) := by show _ = _; rw [HR3.out, if_pos rfl]
       go_simp
       refine (uneed_er 12 wp _).mono ?_
       rintro _ v2 ⟨rfl, rfl⟩
       go_wp2_with fail
       exact bodyPost_panic rfl ⟨CkE.er HR4.out (by omega) rfl, CS.out.be⟩
      | true =>
       have HR4 : Hid (R = gi) := by show _ = _; rw [HR3.out, if_neg (by simp)]
       go_simp
       refine (uneed_ok 12 wp _).mono ?_
       rintro _ v2 ⟨rfl, hw2⟩
       rw [hw2]
       clear hw2 v2
       go_wp2_with fail
       refine hK.out _ _ ?_ (fun hHeld => ?_)
       ·exact ⟨m0, m3, w0, w1, w2, w3, w4, w5, w6, w7, w8, w9⟩
       clear hK K
       try simp only [Act.put, zA, zB, zC]
       refine wpAnyH_done (by kernel_rfl) ?_ _
       clear hHeld w0 w1 w2 w3 w4 w5 w6 w7 w8 w9
       have hld := load_rule V5 (w.heap.size + 1) 0 l hl (fun j v hv => by rw [Nat.zero_add]; exact (CS.out.b1 j v hv).1)
       go_wp2_with ((with_reducible show wpList _ _ _ ({ dst := some 40, op := _, type := _, pos := _, after := _, guard := _ } :: _) _ _); refine wl_loadP rfl rfl rfl hld ?_)
       refine (KG.out _ CS.out.be).mono ?_
       rintro e V6 ⟨hC, hb⟩
       have B6 := Lib.hid (CS.out.be.trans (hb.mono CS.out.be.size))
       clear hb hld
       rw [← HR4.out] at hC
       unfold CkE at hC
       by_cases h0 : R.2 = 0
       ·rw [if_pos h0] at hC
        subst hC
        have HQ : Hid (CkE R (.returned (.tuple #[]))) := CkE.ok h0 rfl
        clear h0
        go_wp2_with fail
        go_end0
        exact ⟨HQ.out, B6.out⟩
       ·rw [if_neg h0] at hC
        subst hC
        have HQ : Hid (CkE R (.panicked (failU R.2 R.1))) := CkE.er (r := R) rfl h0 rfl
        clear h0
        go_wp2_with fail
        exact bodyPost_panic rfl ⟨HQ.out, B6.out⟩
end Go.Proofs.Ytoaonficdkgfiaa
namespace Go.Proofs.Ytoaonficdkgfiaa
open Go.RowKit Un MapKept

def named (pre : List Ru) (s : List UInt8) : List Ru := pre.filter fun v => v.nm == s
theorem named_snoc (pre : List Ru) (r : Ru) (s : List UInt8) : named (pre ++ [r]) s = if r.nm = s then named pre s ++ [r] else named pre s := by
 unfold named
 rw [List.filter_append]
 by_cases h : r.nm = s
 ·simp [h]
 ·have : (r.nm == s) = false := by simpa using h
  simp [h]
theorem before_eq (pre : List Ru) (r : Ru) : before pre r = named pre r.nm := rfl
/-- Rows of a slice of the call's own are a slice of rows. -/
theorem flat_get (n : Nat) : ∀ (rows : List (List Value)) (_ : ∀ l ∈ rows, l.length = n) (i : Nat) (h : i < rows.length) (j : Nat) (v : Value), rows[i][j]? = some v → rows.flatten[i * n + j]? = some v
 | [], _, i, h, _, _, _ => absurd h (Nat.not_lt_zero _)
 | r :: rows, hl, i, h, j, v, hv => by
  have hr := hl r (by simp)
  cases i with
  | zero =>
   have hj := (List.getElem?_eq_some_iff.1 hv).1
   simp only [List.getElem_cons_zero] at hj hv
   rw [List.flatten_cons, List.getElem?_append_left (by omega)]
   simpa using hv
  | succ i =>
   rw [List.flatten_cons, List.getElem?_append_right (by rw [hr, Nat.succ_mul]; omega), hr]
   have := flat_get n rows (fun l hl' => hl l (by simp [hl'])) i (by simpa using h) j v (by simpa using hv)
   rwa [show (i + 1) * n + j - n = i * n + j by rw [Nat.succ_mul]; omega]
theorem own_slr {w : World} {base E n : Nat} {v : Value} {rows : List (List Value)} (h : w.ownsRow base E n v rows.length rows.flatten) (hl : ∀ l ∈ rows, l.length = n) : ∃ p b cap, v = .slice p rows.length cap ∧ SlR w p b 0 rows.length n rows := by
 rcases h.2 with ⟨h1, h2⟩ | ⟨g, cap, cur, h1, h2, h3, h4, h5, h6, h7⟩
 ·have : rows = [] := List.length_eq_zero_iff.1 h2
  subst this
  exact ⟨none, 0, 0, h1, SlR.nil _ _ _ _ _⟩
 ·refine ⟨some ⟨g, 0, none⟩, g, cap, h1, rfl, fun _ => rfl, fun i r hr => ?_, fun _ => (Array.getElem?_eq_some_iff.1 h3).1, by unfold maxLen at h5; omega⟩
  obtain ⟨hi, rfl⟩ := List.getElem?_eq_some_iff.1 hr
  refine ⟨hl _ (List.getElem_mem hi), fun j u hu => ?_⟩
  have := flat_get n rows hl i hi j u hu
  rw [← h7, List.getElem?_take] at this
  split at this
  ·rw [Nat.zero_add]
   simp only [World.cell?, h3]
   simpa using this
  ·cases this
/-- The map of earlier rules. -/
structure ErM (w : World) (base mb : Nat) (vd : Value) (pre : List Ru) (f : List UInt8 → Option Value) : Prop where
 mp : MapF kS .string w mb f
 own : ∀ s v, f s = some v → ∃ rows : List (List Value), rows.length = (named pre s).length ∧ w.ownsRow base 58 28 v rows.length rows.flatten ∧ (∀ l ∈ rows, l.length = 28) ∧ ∀ (i : Nat) (h : i < (named pre s).length) (h' : i < rows.length), ∃ x y, RuC (named pre s)[i] x y rows[i]
 no : ∀ s, f s = none → named pre s = []
 dj : ∀ s s' v v' j, s ≠ s' → f s = some v → f s' = some v' → v.ownBlock = some j → v'.ownBlock ≠ some j
 dd : ∀ s v j, f s = some v → v.ownBlock = some j → vd.ownBlock ≠ some j
 mbl : mb < base
theorem ErM.keep {w w' : World} {base mb : Nat} {vd : Value} {pre : List Ru} {f : List UInt8 → Option Value} (h : ErM w base mb vd pre f) (hb : ∀ j, j < w.heap.size → (j = mb ∨ ∃ s v, f s = some v ∧ v.ownBlock = some j) → w'.heap[j]? = w.heap[j]?) : ErM w' base mb vd pre f :=
 ⟨h.mp.of (hb mb h.mp.lt (.inl rfl)), fun s v hv => by
  obtain ⟨rows, h1, h2, h3⟩ := h.own s v hv
  exact ⟨rows, h1, own_heap h2 (fun j hj hj2 => hb j hj2 (.inr ⟨s, v, hv, hj⟩)), h3⟩, h.no, h.dj, h.dd, h.mbl⟩
theorem ErM.bel {w w' : World} {base mb : Nat} {vd : Value} {pre : List Ru} {f : List UInt8 → Option Value} (h : ErM w base mb vd pre f) (hB : RowKit.Below w.heap.size w w') : ErM w' base mb vd pre f := h.keep fun j hj _ => hB.block j hj
/-- An error was appended. -/
theorem ErM.diag {w w' : World} {base mb : Nat} {vd vd' : Value} {pre : List Ru} {f : List UInt8 → Option Value} (h : ErM w base mb vd pre f) (hd : ∀ j, vd.ownBlock = some j → base ≤ j) (hk : ∀ j, j < w.heap.size → vd.ownBlock ≠ some j → w'.heap[j]? = w.heap[j]?) (hn : ∀ j, vd'.ownBlock = some j → vd.ownBlock = some j ∨ w.heap.size ≤ j) : ErM w' base mb vd' pre f := by
 have h2 : ErM w' base mb vd pre f := h.keep fun j hj hj2 => hk j hj (by
  rcases hj2 with rfl | ⟨s, v, hv, hvj⟩
  ·intro e; have := hd _ e; have := h.mbl; omega
  ·exact h.dd s v j hv hvj)
 refine ⟨h2.mp, h2.own, h2.no, h2.dj, fun s v j hv hvj e => ?_, h2.mbl⟩
 rcases hn j e with h3 | h3
 ·exact h.dd s v j hv hvj h3
 ·obtain ⟨rows, -, ho, -⟩ := h.own s v hv
  have := (ho.lt j hvj).2
  omega
/-- What there is of a name. -/
theorem ErM.ask {w : World} {base mb : Nat} {vd : Value} {pre : List Ru} {f : List UInt8 → Option Value} (h : ErM w base mb vd pre f) (s : List UInt8) : ∃ p b cap rows, (f s).getD (.slice none 0 0) = .slice p (named pre s).length cap ∧ RsC w p b 0 (named pre s) rows ∧ w.ownsRow base 58 28 (.slice p (named pre s).length cap) (named pre s).length rows.flatten ∧ (∀ l ∈ rows, l.length = 28) := by
 cases hf : f s with
 | none =>
  have := h.no s hf
  rw [this]
  exact ⟨none, 0, 0, [], rfl, ⟨SlR.nil _ _ _ _ _, fun i h => absurd h (Nat.not_lt_zero _)⟩, ⟨rfl, .inl ⟨rfl, rfl⟩⟩, by simp⟩
 | some v =>
  obtain ⟨rows, h1, h2, h3, h4⟩ := h.own s v hf
  obtain ⟨p, b, cap, rfl, hs⟩ := own_slr h2 h3
  rw [h1] at h2 hs
  exact ⟨p, b, cap, rows, by rw [h1]; rfl, ⟨hs, h4⟩, h2, h3⟩
theorem info_R : (Try.prog.info? 58).map (fun i => (i.zero.map (·.cells.size), i.size, decide (i.bytes ≤ 1000))) = some (some 28, 28, true) := by kernel_rfl
theorem und_erl : Try.prog.underlying 97 = some (.map 9 23) := by kernel_rfl
theorem zero_rs (w : World) : (zeroValue 23).run Try.prog w = .ok (.slice none 0 0) w := by kernel_rfl
/-- One rule more of its name: appended, and laid into the map. -/
theorem ErM.add {w : World} {base mb : Nat} {vd : Value} {pre : List Ru} {f : List UInt8 → Option Value} (h : ErM w base mb vd pre f) (hbs : base ≤ w.heap.size) (hd : ∀ j, vd.ownBlock = some j → base ≤ j ∧ j < w.heap.size) (hpre : pre.length ≤ 1000000) (r : Ru) (x y : Kd) (l : List Value) (hr : RuC r x y l) (ty : TypeId) :
  ∃ v' W2 ob, (Builtin.append_ #[23, 23] ty #[(f r.nm).getD (.slice none 0 0), .slice (some ⟨w.heap.size, 0, none⟩) 1 1]).run Try.prog (w.alloc (.cells l.toArray 58)) = .ok v' W2 ∧
   (Instr.mapUpdate 97 (.map (some mb)) (.string (bs r.nm)) v').run Try.prog W2 = .ok () { W2 with heap := W2.heap.setIfInBounds mb ob } ∧ ErM { W2 with heap := W2.heap.setIfInBounds mb ob } base mb vd (pre ++ [r]) (updF f r.nm v') ∧
   w.heap.size ≤ W2.heap.size ∧ W2.os = w.os ∧ W2.tape = w.tape ∧ W2.output = w.output ∧ (∀ j, j < w.heap.size → (j < base ∨ vd.ownBlock = some j) → W2.heap[j]? = w.heap[j]?) ∧ (∀ j, j < w.heap.size → (∀ v, f r.nm = some v → v.ownBlock ≠ some j) → W2.heap[j]? = w.heap[j]?) := by
 have b1 := (Below.refl w.heap.size w).alloc (Nat.le_refl _) (.cells l.toArray 58)
 have x1 := BoxL.new w l 58
 have h1 := h.bel b1
 obtain ⟨p, b, cap, rows, hv, hrs, how, hl28⟩ := h1.ask r.nm
 have hlen : (named pre r.nm).length ≤ pre.length := List.length_filter_le _ _
 obtain ⟨v', W2, hrn, hown, hgr, hob⟩ := run_app1 23 58 28 Try.underlying23 info_R (by decide) _ base ty _ _ _ how w.heap.size l hr.len
  (fun j u hu => (x1 j u hu).1) hr.one (by omega) (by simp; omega)
 rw [← hv] at hrn
 have hvb : ∀ j, (Value.slice p (named pre r.nm).length cap).ownBlock = some j → base ≤ j ∧ j < (w.alloc (.cells l.toArray 58)).heap.size := fun j hj => how.lt j hj
 -- the old value's block is none of another name, nor the errors'
 have hfn : ∀ j, (Value.slice p (named pre r.nm).length cap).ownBlock = some j → ∃ v, f r.nm = some v ∧ v.ownBlock = some j := fun j hj => by
  cases hf : f r.nm with
  | none => rw [hf] at hv; simp only [Option.getD_none] at hv; rw [← hv] at hj; cases hj
  | some v => rw [hf] at hv; simp only [Option.getD_some] at hv; exact ⟨v, rfl, by rw [hv]; exact hj⟩
 have hkeep : ∀ j, j < (w.alloc (.cells l.toArray 58)).heap.size → (Value.slice p (named pre r.nm).length cap).ownBlock ≠ some j → W2.heap[j]? = (w.alloc (.cells l.toArray 58)).heap[j]? := fun j hj hn => hgr.block j hj (fun e => hn e.symm)
 have hmb : (Value.slice p (named pre r.nm).length cap).ownBlock ≠ some mb := fun e => by have := (hvb mb e).1; have := h.mbl; omega
 have hm2 : MapF kS .string W2 mb f := h1.mp.of (hkeep mb h1.mp.lt hmb)
 obtain ⟨ob, hup, hm3⟩ := hm2.update und_erl und_str r.nm (by trivial) (fun x hx => kS_inj _ _ hx) v'
 have hset : ∀ j, j ≠ mb → ({ W2 with heap := W2.heap.setIfInBounds mb ob } : World).heap[j]? = W2.heap[j]? := fun j hj => by simp [Ne.symm hj]
 have hv'b : ∀ j, v'.ownBlock = some j → base ≤ j ∧ j < W2.heap.size := fun j hj => hown.lt j hj
 refine ⟨v', W2, ob, hrn, hup, ⟨hm3, fun s v hs => ?_, fun s hs => ?_, fun s s' u u' j hne hu hu' hj => ?_, fun s v j hs hj => ?_, h.mbl⟩, Nat.le_trans b1.size hgr.size, hgr.os.trans b1.os, hgr.tape.trans b1.tape, hgr.output.trans b1.output, fun j hj hj2 => ?_, fun j hj hj2 => (hkeep j (by simp; omega) (fun e => by obtain ⟨u, hu, hub⟩ := hfn j e; exact hj2 u hu hub)).trans (b1.block j hj)⟩
 ·unfold updF at hs
  by_cases hsn : s = r.nm
  ·subst hsn
   rw [if_pos rfl] at hs
   cases hs
   have hsn := named_snoc pre r r.nm
   rw [if_pos rfl] at hsn
   have hln := hrs.sl.ln
   refine ⟨rows ++ [l], by rw [hsn]; simp [hln], ?_, fun l' hl' => ?_, fun i hi hi' => ?_⟩
   ·have : (rows ++ [l]).flatten = rows.flatten ++ l := by simp
    rw [this, List.length_append, hln]
    exact own_heap hown (fun j hj _ => hset j (by have := (hv'b j hj).1; have := h.mbl; omega))
   ·rcases List.mem_append.1 hl' with h' | h'
    ·exact hl28 l' h'
    ·rw [List.mem_singleton.1 h']; exact hr.len
   ·have hi3 : i < (named pre r.nm ++ [r]).length := by rw [← hsn]; exact hi
    have e1 : (named (pre ++ [r]) r.nm)[i] = (named pre r.nm ++ [r])[i]'hi3 := by simp only [hsn]
    rw [e1]
    by_cases hlt : i < (named pre r.nm).length
    ·rw [List.getElem_append_left hlt, List.getElem_append_left (by omega)]
     exact hrs.ru i hlt (by omega)
    ·have hie : i = (named pre r.nm).length := by simp at hi3; omega
     subst hie
     have e2 : (rows ++ [l])[(named pre r.nm).length] = l := by
      rw [List.getElem_append_right (by omega)]; simp [hln]
     rw [e2]
     simp only [List.getElem_concat_length]
     exact ⟨x, y, hr⟩
  ·rw [if_neg hsn] at hs
   have hsn2 := named_snoc pre r s
   rw [if_neg (Ne.symm hsn)] at hsn2
   obtain ⟨rows', h2, h3, h4, h5⟩ := h1.own s v hs
   refine ⟨rows', by rw [hsn2]; exact h2, ?_, h4, by simp only [hsn2]; exact h5⟩
   exact own_heap h3 (fun j hj hj2 => (hset j (by have := (h3.lt j hj).1; have := h.mbl; omega)).trans (hkeep j hj2 (fun e => by
    obtain ⟨u, hu, hub⟩ := hfn j e
    exact h.dj r.nm s u v j (Ne.symm hsn) hu hs hub hj)))
 ·unfold updF at hs
  by_cases hsn : s = r.nm
  ·rw [if_pos hsn] at hs; cases hs
  ·rw [if_neg hsn] at hs
   rw [named_snoc, if_neg (Ne.symm hsn)]
   exact h.no s hs
 ·have fresh : ∀ s v j, s ≠ r.nm → f s = some v → v.ownBlock = some j → v'.ownBlock ≠ some j := fun s v j hsn hs hj e => by
   rcases hob with ho | ho
   ·rw [ho] at e
    obtain ⟨u, hu, hub⟩ := hfn j e
    exact h.dj r.nm s u v j (Ne.symm hsn) hu hs hub hj
   ·rw [ho] at e
    obtain ⟨rows', -, h3, -⟩ := h1.own s v hs
    have := (h3.lt j hj).2
    simp only [Option.some.injEq] at e
    omega
  unfold updF at hu hu'
  by_cases h2 : s = r.nm
  ·rw [if_pos h2] at hu
   cases hu
   have h3 : s' ≠ r.nm := fun e => hne (h2.trans e.symm)
   rw [if_neg h3] at hu'
   exact fun e => fresh s' u' j h3 hu' e hj
  ·rw [if_neg h2] at hu
   by_cases h3 : s' = r.nm
   ·rw [if_pos h3] at hu'
    cases hu'
    exact fresh s u j h2 hu hj
   ·rw [if_neg h3] at hu'
    exact h.dj s s' u u' j hne hu hu' hj
 ·unfold updF at hs
  by_cases h2 : s = r.nm
  ·rw [if_pos h2] at hs
   cases hs
   intro e
   rcases hob with ho | ho
   ·rw [ho] at hj
    obtain ⟨u, hu, hub⟩ := hfn j hj
    exact h.dd r.nm u j hu hub e
   ·rw [ho] at hj
    simp only [Option.some.injEq] at hj
    have := (hd j e).2
    have : (w.alloc (.cells l.toArray 58)).heap.size = w.heap.size + 1 := by simp
    omega
  ·rw [if_neg h2] at hs
   exact h.dd s v j hs hj
 ·rw [← b1.block j hj]
  refine hkeep j (by simp; omega) (fun e => ?_)
  rcases hj2 with h2 | h2
  ·have := (hvb j e).1; omega
  ·obtain ⟨u, hu, hub⟩ := hfn j e
   exact h.dd r.nm u j hu hub h2
end Go.Proofs.Ytoaonficdkgfiaa
namespace Go.Proofs.Ytoaonficdkgfiaa
open Go.RowKit Un MapKept

set_option maxRecDepth 100000 in
set_option maxHeartbeats 8000000 in
theorem ure1_any (L : List Dc) (hf : formD L = true) (r : Ru) (g : Nat) (hw : wf vld g r.whn = true) (hw2 : wf vld g r.giv = true) (x y : Kd) (l : List Value) (hr : RuC r x y l) (A : Nat → Prop) (m1 m2 fb p1 p2 : Nat) (base mb : Nat) (vd : Value) (pre : List Ru) (f : List UInt8 → Option Value) (sb ub eb : Nat) (w : World) (hm : RuM w A r x y) (hs : ScR w L m1 m2 fb p1 p2)
  (he : ErM w base mb vd pre f) (h1 : BoxL w sb [.map (some m1), .map (some m2)]) (h2 : BoxL w ub l) (h3 : w.cell? ⟨eb, 0, none⟩ = some (.map (some mb))) :
  Calls Try.prog 63 #[.pointer (some ⟨sb, 0, none⟩), .pointer (some ⟨ub, 0, none⟩), .pointer (some ⟨eb, 0, none⟩)] w fun e w' => CkE (errR (Un.facts L) (before pre r) r) e ∧ RowKit.Below w.heap.size w w' := by
 obtain ⟨p, b, cap, rows, hv, hrs, -, -⟩ := he.ask r.nm
 have KC := Lib.hid (ucheckRule_any L hf r g hw hw2 x y l hr A m1 m2 fb p1 p2 (named pre r.nm) rows p b 0 cap w hm hs hrs)
 have hlk := he.mp.ask und_erl und_str r.nm (by trivial) false (.slice none 0 0) (zero_rs w)
 rw [hv] at hlk
 have hlk : (Instr.lookup 97 (.map (some mb)) (.string (bs r.nm)) false).run Try.prog w = .ok (.slice p (named pre r.nm).length cap) w := hlk
 have hld := load_rule w ub 0 l hr.len (fun j v hv => by rw [Nat.zero_add]; exact (h2 j v hv).1)
 obtain ⟨c0, -⟩ := h2 0 _ hr.f0
 obtain ⟨s0, -⟩ := h1 0 _ rfl
 obtain ⟨s1, -⟩ := h1 1 _ rfl
 rw [before_eq]
 obtain ⟨R, hR⟩ : ∃ R, R = errR (Un.facts L) (named pre r.nm) r := ⟨_, rfl⟩
 rw [← hR] at KC ⊢
 clear hR hv hrs hm hs he h1 h2 hr hw hw2 hf
 generalize (named pre r.nm).length = n at *
 generalize bs r.nm = s at *
 go_enter Try.func63, Try.ntmps63
 go_wp2_with (first | ((with_reducible show wpList _ _ _ ({ dst := some 4, op := _, type := _, pos := _, after := _, guard := _ } :: _) _ _); refine wl_loadP rfl rfl rfl hld ?_) | ((with_reducible show wpList _ _ _ ({ dst := some 8, op := _, type := _, pos := _, after := _, guard := _ } :: _) _ _); refine wl_lookup _ _ _ rfl rfl rfl rfl hlk ?_))
 refine KC.out.mono ?_
 rintro e V ⟨hC, hb⟩
 have HB := Lib.hid hb
 clear hb hlk hld
 unfold CkE at hC
 by_cases h0 : R.2 = 0
 ·rw [if_pos h0] at hC
  subst hC
  have HQ : Hid (CkE R (.returned (.tuple #[]))) := CkE.ok h0 rfl
  clear h0
  go_wp2_with fail
  go_end0
  exact ⟨HQ.out, HB.out⟩
 ·rw [if_neg h0] at hC
  subst hC
  have HQ : Hid (CkE R (.panicked (failU R.2 R.1))) := CkE.er (r := R) rfl h0 rfl
  clear h0
  go_wp2_with fail
  exact bodyPost_panic rfl ⟨HQ.out, HB.out⟩
theorem enter_re1 (args : Array Value) (w : World) : (callFunc 63 args).run Try.prog w = .ok (.enter 63 args) w := by kernel_rfl
/-- What a check gives up with, caught: zeros if it does not. -/
def caught (r : Int × Int) : Int × Int := if r.2 = 0 then (0, 0) else r
theorem ure1_caught (L : List Dc) (hf : formD L = true) (r : Ru) (g : Nat) (hw : wf vld g r.whn = true) (hw2 : wf vld g r.giv = true) (x y : Kd) (l : List Value) (hr : RuC r x y l) (A : Nat → Prop) (m1 m2 fb p1 p2 : Nat) (base mb : Nat) (vd : Value) (pre : List Ru) (f : List UInt8 → Option Value) (sb ub eb : Nat) (w : World) (hm : RuM w A r x y) (hs : ScR w L m1 m2 fb p1 p2)
  (he : ErM w base mb vd pre f) (h1 : BoxL w sb [.map (some m1), .map (some m2)]) (h2 : BoxL w ub l) (h3 : w.cell? ⟨eb, 0, none⟩ = some (.map (some mb))) :
  Calls Try.prog 35 #[.func (.func 63) #[] #[.pointer (some ⟨sb, 0, none⟩), .pointer (some ⟨ub, 0, none⟩), .pointer (some ⟨eb, 0, none⟩)]] w fun e w' => e = .returned (.agg #[.int .i64 (caught (errR (Un.facts L) (before pre r) r)).1, .int .i64 (caught (errR (Un.facts L) (before pre r) r)).2]) ∧ RowKit.Below w.heap.size w w' := by
 have bd := (Below.refl w.heap.size w).alloc (Nat.le_refl _) (.cells #[.int .i64 0, .int .i64 0] 66)
 have sd : (w.alloc (.cells #[.int .i64 0, .int .i64 0] 66)).heap.size = w.heap.size + 1 := by simp
 have ad := At2.new w (.int .i64 0) (.int .i64 0) 66
 have KQ := ure1_any L hf r g hw hw2 x y l hr A m1 m2 fb p1 p2 base mb vd pre f sb ub eb _ (hm.bel bd) (hs.bel bd) (he.bel bd) (h1.bel (by simp) bd) (h2.bel (by rw [hr.len]; omega) bd) ((bd.cell (p := ⟨eb, 0, none⟩) (World.block_lt_of_cell? _ _ h3)).trans h3)
 generalize errR (Un.facts L) (before pre r) r = R at *
 by_cases h0 : R.2 = 0
 ·have e1 : caught R = (0, 0) := if_pos h0
  rw [e1]
  refine (uerrorOf_okB 63 _ enter_re1 (fun w' => RowKit.Below w.heap.size w w') w (KQ.mono ?_)).mono ?_
  ·rintro e w' ⟨hc, hb⟩
   unfold CkE at hc
   rw [if_pos h0] at hc
   exact ⟨hc, ad.bel hb, bd.trans (hb.mono (by omega))⟩
  ·rintro e w' ⟨rfl, w2, h, h'⟩
   exact ⟨rfl, h.trans (h'.mono h.size)⟩
 ·have e1 : caught R = R := if_neg h0
  rw [e1]
  refine (uerrorOf_er 63 _ enter_re1 R.2 R.1 (fun w' => RowKit.Below w.heap.size w w') w (KQ.mono ?_)).mono ?_
  ·rintro e w' ⟨hc, hb⟩
   unfold CkE at hc
   rw [if_neg h0] at hc
   exact ⟨hc, ad.bel hb, bd.trans (hb.mono (by omega))⟩
  ·rintro e w' ⟨rfl, w2, h, h'⟩
   exact ⟨rfl, h.trans (h'.below (B := w.heap.size) (Nat.le_refl _) h.size)⟩
end Go.Proofs.Ytoaonficdkgfiaa
