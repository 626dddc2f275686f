/- Texts on units: UGiv -/
import Derived.Test.YtoaonficdkgfiaaY14
namespace Go.Proofs.Ytoaonficdkgfiaa
open Go.RowKit Un MapKept

/-- A check gives up with an error and its place, or does not. -/
def CkE (r : Int × Int) (e : Ending) : Prop := if r.2 = 0 then e = .returned (.tuple #[]) else e = .panicked (failU r.2 r.1)
def givM (gE : U → Int) (pl : Int) : Got → Int × Int
 | .er e p => (p, e)
 | .ok u => if gE u = 0 then (0, 0) else (pl, gE u)
def givR (fs : List (List UInt8 × U)) (r : Ru) : Int × Int := givM (giveE r) r.giv.pl (fnd fs r.giv)
theorem CkE.ok {r : Int × Int} {e : Ending} (h : r.2 = 0) (he : e = .returned (.tuple #[])) : CkE r e := by unfold CkE; rw [if_pos h]; exact he
theorem CkE.er {r : Int × Int} {e : Ending} {E p : Int} (h : r = (p, E)) (hE : E ≠ 0) (he : e = .panicked (failU E p)) : CkE r e := by subst h; unfold CkE; rw [if_neg hE]; exact he
theorem eq_cmp {rr vf : Bool} {vm va vd a b c : Int} (h : rr = (!vf && (vm == a && (va == b && vd == c)))) (w : World) : (if vf = true then Result.ok (Next.value (Value.bool false)) w else if vm = a then if va = b then if vd = c then Result.ok (Next.value (Value.bool true)) w else Result.ok (Next.value (Value.bool false)) w else Result.ok (Next.value (Value.bool false)) w else Result.ok (Next.value (Value.bool false)) w) = Result.ok (Next.value (Value.bool rr)) w := by
 subst h
 cases vf <;> by_cases h1 : vm = a <;> by_cases h2 : va = b <;> by_cases h3 : vd = c <;> simp [h1, h2, h3]
set_option maxRecDepth 100000 in
set_option maxHeartbeats 12000000 in
theorem ucheckGive_any (L : List Dc) (hf : formD L = true) (r : Ru) (g : Nat) (hw : wf vld g r.giv = true) (x y : Kd) (l : List Value) (hr : RuC r x y l) (A : Nat → Prop) (m1 m2 fb p1 p2 : Nat) (w : World) (hm : NdM w A r.giv y) (hs : ScR w L m1 m2 fb p1 p2) :
  Calls Try.prog 88 #[.agg #[.map (some m1), .map (some m2)], .agg l.toArray] w fun e w' => CkE (givR (Un.facts L) r) e ∧ RowKit.Below w.heap.size w w' := by
 have KU := Lib.hid (fun V (hV : RowKit.Below w.heap.size w V) => uunit_any L (facts_good hf) (size r.giv) r.giv (Nat.le_refl _) g hw A y m1 m2 fb p1 p2 V (hm.bel hV) (hs.bel hV))
 have KN := Lib.hid (fun V => uisNothing_any r.giv y V)
 obtain ⟨R, hR⟩ : ∃ R, R = givR (Un.facts L) r := ⟨_, rfl⟩
 rw [← hR]
 have HR : Hid (R = givM (giveE r) r.giv.pl (fnd (Un.facts L) r.giv)) := hR
 have HNE := Lib.hid (fun e p (h : fnd (Un.facts L) r.giv = .er e p) => fnd_ne r.giv e p h)
 have HGE : Hid (∀ u, giveE r u = if r.kind = 1 ∨ r.kind = 2 then (if u = uMoney then 0 else 12) else if r.kind = 5 ∨ r.kind = 6 then (if u = uNum then 0 else 12) else if r.kind = 7 then (if u = uDays then 0 else 12) else if isNothing r.giv = true then 0 else 13) := fun _ => rfl
 obtain ⟨W1, hW1⟩ : ∃ W1, w.alloc (.cells #[.map (some m1), .map (some m2)] 72) = W1 := ⟨_, rfl⟩
 have a1 := (Below.refl w.heap.size w).alloc (Nat.le_refl _) (.cells #[.map (some m1), .map (some m2)] 72)
 have x1 : BoxL W1 w.heap.size [.map (some m1), .map (some m2)] := by rw [← hW1]; exact box_new _ _ rfl
 rw [hW1] at a1
 have s1 : W1.heap.size = w.heap.size + 1 := by rw [← hW1]; simp
 obtain ⟨W2, hW2⟩ : ∃ W2, W1.alloc (.cells l.toArray 58) = W2 := ⟨_, rfl⟩
 have a2 := (Below.refl W1.heap.size W1).alloc (Nat.le_refl _) (.cells l.toArray 58)
 have x2 : BoxL W2 (w.heap.size + 1) l := by rw [← hW2]; exact box_new _ _ s1
 rw [hW2] at a2
 have X1 := Lib.hid (x1.bel (by simp) a2)
 have X2 := Lib.hid x2
 have B2 := Lib.hid (a1.trans (a2.mono (by omega)))
 obtain ⟨-, -, hg⟩ := kC x2 hr
 obtain ⟨k2, -⟩ := x2 2 _ hr.f2
 have hl := hr.len
 obtain ⟨b0, -⟩ := X1.out 0 _ rfl
 obtain ⟨b1, -⟩ := X1.out 1 _ rfl
 clear hR hm hs hw x1 x2 a1 a2
 generalize fnd (Un.facts L) r.giv = G at *
 generalize isNothing r.giv = inn at *
 generalize giveE r = gE at *
 generalize r.kind = kd at *
 clear hr
 generalize r.giv = t at *
 obtain ⟨op, pl, nm, n0, d0, ⟨uf, um, ua, ud⟩, ks⟩ := t
 obtain ⟨q2, p2'⟩ := y
 simp only [nV, nC] at KU KN
 simp only [nC] at hg
 have HR2 : Hid (R = givM gE pl G) := HR.out
 clear HR
 have g0 := hg 0 _ rfl
 have g1 := hg 1 _ rfl
 have g2 := hg 2 _ rfl
 have g3 := hg 3 _ rfl
 have g4 := hg 4 _ rfl
 have g5 := hg 5 _ rfl
 have g6 := hg 6 _ rfl
 have g7 := hg 7 _ rfl
 have g8 := hg 8 _ rfl
 have g9 := hg 9 _ rfl
 simp only [Nat.add_zero, Nat.reduceAdd] at g0 g1 g2 g3 g4 g5 g6 g7 g8 g9
 clear hg
 generalize bs nm = s at *
 go_enter Try.func88, Try.ntmps88
 go_wp2_with fail
 clear hW1 hW2
 refine (KU.out _ B2.out).mono ?_
 rintro e V ⟨hG, hb⟩
 have B3 := Lib.hid (B2.out.trans (hb.mono B2.out.size))
 replace k2 := (hb.cell (World.block_lt_of_cell? _ _ k2)).trans k2
 replace g0 := (hb.cell (World.block_lt_of_cell? _ _ g0)).trans g0
 replace g1 := (hb.cell (World.block_lt_of_cell? _ _ g1)).trans g1
 replace g2 := (hb.cell (World.block_lt_of_cell? _ _ g2)).trans g2
 replace g3 := (hb.cell (World.block_lt_of_cell? _ _ g3)).trans g3
 replace g4 := (hb.cell (World.block_lt_of_cell? _ _ g4)).trans g4
 replace g5 := (hb.cell (World.block_lt_of_cell? _ _ g5)).trans g5
 replace g6 := (hb.cell (World.block_lt_of_cell? _ _ g6)).trans g6
 replace g7 := (hb.cell (World.block_lt_of_cell? _ _ g7)).trans g7
 replace g8 := (hb.cell (World.block_lt_of_cell? _ _ g8)).trans g8
 replace g9 := (hb.cell (World.block_lt_of_cell? _ _ g9)).trans g9
 have hV := hb.size
 have h1V : w.heap.size + 1 < V.heap.size := by have := World.block_lt_of_cell? _ _ g0; exact this
 clear hb B2 X1 X2 KU b0 b1 s1
 cases G with
 | er E q =>
  have he : e = .panicked (failU E q) := hG
  subst he
  have hE : E ≠ 0 := by rcases HNE.out E q rfl with h | h <;> omega
  have HR3 : Hid (R = (q, E)) := HR2.out
  go_wp2_with fail
  exact bodyPost_panic rfl ⟨CkE.er HR3.out hE rfl, B3.out⟩
 | ok u =>
  have HR3 : Hid (R = if gE u = 0 then (0, 0) else (pl, gE u)) := HR2.out
  have HG3 := Lib.hid (HGE.out u)
  obtain ⟨vf, vm, va, vd⟩ := u
  have he : e = .returned (uV ⟨vf, vm, va, vd⟩) := hG
  simp only [uV, uC] at he
  subst he
  clear HR2 HGE HNE hG
  have hb := (Below.refl V.heap.size V).alloc (Nat.le_refl _) (.cells #[.bool vf, .int .i64 vm, .int .i64 va, .int .i64 vd] 29)
  have B4 := Lib.hid (B3.out.trans (hb.mono B3.out.size))
  obtain ⟨z0, z1, z2, z3, -⟩ := box4 (BoxL.new V [.bool vf, .int .i64 vm, .int .i64 va, .int .i64 vd] 29)
  replace k2 := (hb.cell (World.block_lt_of_cell? _ _ k2)).trans k2
  replace g0 := (hb.cell (World.block_lt_of_cell? _ _ g0)).trans g0
  replace g1 := (hb.cell (World.block_lt_of_cell? _ _ g1)).trans g1
  replace g2 := (hb.cell (World.block_lt_of_cell? _ _ g2)).trans g2
  replace g3 := (hb.cell (World.block_lt_of_cell? _ _ g3)).trans g3
  replace g4 := (hb.cell (World.block_lt_of_cell? _ _ g4)).trans g4
  replace g5 := (hb.cell (World.block_lt_of_cell? _ _ g5)).trans g5
  replace g6 := (hb.cell (World.block_lt_of_cell? _ _ g6)).trans g6
  replace g7 := (hb.cell (World.block_lt_of_cell? _ _ g7)).trans g7
  replace g8 := (hb.cell (World.block_lt_of_cell? _ _ g8)).trans g8
  replace g9 := (hb.cell (World.block_lt_of_cell? _ _ g9)).trans g9
  clear hb B3
  generalize hV4 : V.alloc (.cells #[.bool vf, .int .i64 vm, .int .i64 va, .int .i64 vd] 29) = V4 at *
  generalize hub : V.heap.size = ub at *
  by_cases e1 : kd = 1
  ·subst e1
   have HE : Hid (decide ((⟨vf, vm, va, vd⟩ : U) = uMoney) = (!vf && (vm == 1 && (va == 0 && vd == 0)))) := by show _ = _; rw [Bool.eq_iff_iff]; simp [uMoney]
   generalize hRR : decide ((⟨vf, vm, va, vd⟩ : U) = uMoney) = rr at *
   have HGE : Hid (gE ⟨vf, vm, va, vd⟩ = if rr = true then 0 else 12) := by show _ = _; rw [HG3.out, ← hRR]; simp []
   clear hRR HG3
   go_wp2_with fail
   have hS : V4.drew.cell? ⟨ub, 0, none⟩ = some (.bool vf) ∧ V4.drew.cell? ⟨ub, 1, none⟩ = some (.int .i64 vm) ∧ V4.drew.cell? ⟨ub, 2, none⟩ = some (.int .i64 va) ∧ V4.drew.cell? ⟨ub, 3, none⟩ = some (.int .i64 vd) ∧ V4.drew.cell? ⟨w.heap.size + 1, 18, none⟩ = some (.int .i64 pl) := ⟨z0, z1, z2, z3, g1⟩
   refine wp_region_held (S := fun w' : World => w'.cell? ⟨ub, 0, none⟩ = some (.bool vf) ∧ w'.cell? ⟨ub, 1, none⟩ = some (.int .i64 vm) ∧ w'.cell? ⟨ub, 2, none⟩ = some (.int .i64 va) ∧ w'.cell? ⟨ub, 3, none⟩ = some (.int .i64 vd) ∧ w'.cell? ⟨w.heap.size + 1, 18, none⟩ = some (.int .i64 pl)) mixed ?_
   change wpAnyH _ _ _ _ _ _ _ _ V4.drew
   refine tk0 (v := ?_) (by kernel_rfl) (by kernel_rfl) (by kernel_rfl) (fun _ _ _ h => h) (Or.inl ⟨by rfl, ?_⟩) hS ?_
   rotate_left
   ·(intro w hSw; (try dsimp only at hSw); go_simp; try with_reducible rfl)
   simp only [Act.put, zA, zB, zC]
   refine tk1 (v := ?_) (by kernel_rfl) (by kernel_rfl) (by kernel_rfl) (fun _ _ _ h => h) (Or.inl ⟨by rfl, ?_⟩) hS ?_
   rotate_left
   ·(intro w hSw; (try dsimp only at hSw); go_simp; try with_reducible rfl)
   simp only [Act.put, zA, zB, zC]
   refine tk2 (v := .bool rr) (by kernel_rfl) (by kernel_rfl) (by kernel_rfl) (fun _ _ _ h => h) (Or.inl ⟨by rfl, (by intro w hSw; (try dsimp only at hSw); go_simp; exact eq_cmp HE.out w)⟩) hS ?_
   simp only [Act.put, zA, zB, zC]
   refine tk3 (v := ?_) (by kernel_rfl) (by kernel_rfl) (by kernel_rfl) (fun _ _ _ h => h) (Or.inl ⟨by rfl, ?_⟩) hS ?_
   rotate_left
   ·(intro w hSw; (try dsimp only at hSw); go_simp; try with_reducible rfl)
   simp only [Act.put, zA, zB, zC]
   refine tk4 (v := ?_) (by kernel_rfl) (by kernel_rfl) (by kernel_rfl) (fun _ _ _ h => h) (Or.inl ⟨by rfl, ?_⟩) hS ?_
   rotate_left
   ·(intro w hSw; (try dsimp only at hSw); go_simp; try with_reducible rfl)
   simp only [Act.put, zA, zB, zC]
   refine tk5 (v := ?_) (by kernel_rfl) (by kernel_rfl) (by kernel_rfl) (fun _ _ _ h => h) (Or.inl ⟨by rfl, ?_⟩) hS ?_
   rotate_left
   ·(intro w hSw; (try dsimp only at hSw); go_simp; try with_reducible rfl)
   simp only [Act.put, zA, zB, zC]
   refine wpAnyH_ready (rs := [6]) (by kernel_rfl) (by simp) (st6 (fun K hK => ?_) AllReadyH.nil)
   cases rr with
   | false =>
    have HR4 : Hid (R = (pl, 12)) := by show _ = _; rw [HR3.out, HGE.out]; rfl
    go_simp
    refine (uneed_er 12 pl _).mono ?_
    rintro _ v2 ⟨rfl, rfl⟩
    go_wp2_with fail
    exact bodyPost_panic rfl ⟨CkE.er HR4.out (by omega) rfl, B4.out.drew⟩
   | true =>
    have HR4 : Hid (R = (0, 0)) := by show _ = _; rw [HR3.out, HGE.out]; rfl
    go_simp
    refine (uneed_ok 12 pl _).mono ?_
    rintro _ v2 ⟨rfl, rfl⟩
    go_wp2_with fail
    refine hK.out _ _ ?_ (fun hHeld => ?_)
    ·exact ⟨z0, z1, z2, z3, g1⟩
    clear hK K
    try simp only [Act.put, zA, zB, zC]
    refine wpAnyH_done (by kernel_rfl) ?_ _
    go_wp2_with fail
    go_end0
    exact ⟨CkE.ok (by rw [HR4.out]) rfl, B4.out.drew⟩
  ·by_cases e2 : kd = 2
   ·subst e2
    have HE : Hid (decide ((⟨vf, vm, va, vd⟩ : U) = uMoney) = (!vf && (vm == 1 && (va == 0 && vd == 0)))) := by show _ = _; rw [Bool.eq_iff_iff]; simp [uMoney]
    generalize hRR : decide ((⟨vf, vm, va, vd⟩ : U) = uMoney) = rr at *
    have HGE : Hid (gE ⟨vf, vm, va, vd⟩ = if rr = true then 0 else 12) := by show _ = _; rw [HG3.out, ← hRR]; simp []
    clear hRR HG3
    go_wp2_with fail
    have hS : V4.drew.cell? ⟨ub, 0, none⟩ = some (.bool vf) ∧ V4.drew.cell? ⟨ub, 1, none⟩ = some (.int .i64 vm) ∧ V4.drew.cell? ⟨ub, 2, none⟩ = some (.int .i64 va) ∧ V4.drew.cell? ⟨ub, 3, none⟩ = some (.int .i64 vd) ∧ V4.drew.cell? ⟨w.heap.size + 1, 18, none⟩ = some (.int .i64 pl) := ⟨z0, z1, z2, z3, g1⟩
    refine wp_region_held (S := fun w' : World => w'.cell? ⟨ub, 0, none⟩ = some (.bool vf) ∧ w'.cell? ⟨ub, 1, none⟩ = some (.int .i64 vm) ∧ w'.cell? ⟨ub, 2, none⟩ = some (.int .i64 va) ∧ w'.cell? ⟨ub, 3, none⟩ = some (.int .i64 vd) ∧ w'.cell? ⟨w.heap.size + 1, 18, none⟩ = some (.int .i64 pl)) mixed ?_
    change wpAnyH _ _ _ _ _ _ _ _ V4.drew
    refine tk0 (v := ?_) (by kernel_rfl) (by kernel_rfl) (by kernel_rfl) (fun _ _ _ h => h) (Or.inl ⟨by rfl, ?_⟩) hS ?_
    rotate_left
    ·(intro w hSw; (try dsimp only at hSw); go_simp; try with_reducible rfl)
    simp only [Act.put, zA, zB, zC]
    refine tk1 (v := ?_) (by kernel_rfl) (by kernel_rfl) (by kernel_rfl) (fun _ _ _ h => h) (Or.inl ⟨by rfl, ?_⟩) hS ?_
    rotate_left
    ·(intro w hSw; (try dsimp only at hSw); go_simp; try with_reducible rfl)
    simp only [Act.put, zA, zB, zC]
    refine tk2 (v := .bool rr) (by kernel_rfl) (by kernel_rfl) (by kernel_rfl) (fun _ _ _ h => h) (Or.inl ⟨by rfl, (by intro w hSw; (try dsimp only at hSw); go_simp; exact eq_cmp HE.out w)⟩) hS ?_
    simp only [Act.put, zA, zB, zC]
    refine tk3 (v := ?_) (by kernel_rfl) (by kernel_rfl) (by kernel_rfl) (fun _ _ _ h => h) (Or.inl ⟨by rfl, ?_⟩) hS ?_
    rotate_left
    ·(intro w hSw; (try dsimp only at hSw); go_simp; try with_reducible rfl)
    simp only [Act.put, zA, zB, zC]
    refine tk4 (v := ?_) (by kernel_rfl) (by kernel_rfl) (by kernel_rfl) (fun _ _ _ h => h) (Or.inl ⟨by rfl, ?_⟩) hS ?_
    rotate_left
    ·(intro w hSw; (try dsimp only at hSw); go_simp; try with_reducible rfl)
    simp only [Act.put, zA, zB, zC]
    refine tk5 (v := ?_) (by kernel_rfl) (by kernel_rfl) (by kernel_rfl) (fun _ _ _ h => h) (Or.inl ⟨by rfl, ?_⟩) hS ?_
    rotate_left
    ·(intro w hSw; (try dsimp only at hSw); go_simp; try with_reducible rfl)
    simp only [Act.put, zA, zB, zC]
    refine wpAnyH_ready (rs := [6]) (by kernel_rfl) (by simp) (st6 (fun K hK => ?_) AllReadyH.nil)
    cases rr with
    | false =>
     have HR4 : Hid (R = (pl, 12)) := by show _ = _; rw [HR3.out, HGE.out]; rfl
     go_simp
     refine (uneed_er 12 pl _).mono ?_
     rintro _ v2 ⟨rfl, rfl⟩
     go_wp2_with fail
     exact bodyPost_panic rfl ⟨CkE.er HR4.out (by omega) rfl, B4.out.drew⟩
    | true =>
     have HR4 : Hid (R = (0, 0)) := by show _ = _; rw [HR3.out, HGE.out]; rfl
     go_simp
     refine (uneed_ok 12 pl _).mono ?_
     rintro _ v2 ⟨rfl, rfl⟩
     go_wp2_with fail
     refine hK.out _ _ ?_ (fun hHeld => ?_)
     ·exact ⟨z0, z1, z2, z3, g1⟩
     clear hK K
     try simp only [Act.put, zA, zB, zC]
     refine wpAnyH_done (by kernel_rfl) ?_ _
     go_wp2_with fail
     go_end0
     exact ⟨CkE.ok (by rw [HR4.out]) rfl, B4.out.drew⟩
   ·by_cases e5 : kd = 5
    ·subst e5
     have HE : Hid (decide ((⟨vf, vm, va, vd⟩ : U) = uNum) = (!vf && (vm == 0 && (va == 0 && vd == 0)))) := by show _ = _; rw [Bool.eq_iff_iff]; simp [uNum]
     generalize hRR : decide ((⟨vf, vm, va, vd⟩ : U) = uNum) = rr at *
     have HGE : Hid (gE ⟨vf, vm, va, vd⟩ = if rr = true then 0 else 12) := by show _ = _; rw [HG3.out, ← hRR]; simp []
     clear hRR HG3
     go_wp2_with fail
     have hS : V4.drew.cell? ⟨ub, 0, none⟩ = some (.bool vf) ∧ V4.drew.cell? ⟨ub, 1, none⟩ = some (.int .i64 vm) ∧ V4.drew.cell? ⟨ub, 2, none⟩ = some (.int .i64 va) ∧ V4.drew.cell? ⟨ub, 3, none⟩ = some (.int .i64 vd) ∧ V4.drew.cell? ⟨w.heap.size + 1, 18, none⟩ = some (.int .i64 pl) := ⟨z0, z1, z2, z3, g1⟩
     refine wp_region_held (S := fun w' : World => w'.cell? ⟨ub, 0, none⟩ = some (.bool vf) ∧ w'.cell? ⟨ub, 1, none⟩ = some (.int .i64 vm) ∧ w'.cell? ⟨ub, 2, none⟩ = some (.int .i64 va) ∧ w'.cell? ⟨ub, 3, none⟩ = some (.int .i64 vd) ∧ w'.cell? ⟨w.heap.size + 1, 18, none⟩ = some (.int .i64 pl)) mixed ?_
     change wpAnyH _ _ _ _ _ _ _ _ V4.drew
     refine tk0 (v := ?_) (by kernel_rfl) (by kernel_rfl) (by kernel_rfl) (fun _ _ _ h => h) (Or.inl ⟨by rfl, ?_⟩) hS ?_
     rotate_left
     ·(intro w hSw; (try dsimp only at hSw); go_simp; try with_reducible rfl)
     simp only [Act.put, zA, zB, zC]
     refine tk1 (v := ?_) (by kernel_rfl) (by kernel_rfl) (by kernel_rfl) (fun _ _ _ h => h) (Or.inl ⟨by rfl, ?_⟩) hS ?_
     rotate_left
     ·(intro w hSw; (try dsimp only at hSw); go_simp; try with_reducible rfl)
     simp only [Act.put, zA, zB, zC]
     refine tk2 (v := .bool rr) (by kernel_rfl) (by kernel_rfl) (by kernel_rfl) (fun _ _ _ h => h) (Or.inl ⟨by rfl, (by intro w hSw; (try dsimp only at hSw); go_simp; exact eq_cmp HE.out w)⟩) hS ?_
     simp only [Act.put, zA, zB, zC]
     refine tk3 (v := ?_) (by kernel_rfl) (by kernel_rfl) (by kernel_rfl) (fun _ _ _ h => h) (Or.inl ⟨by rfl, ?_⟩) hS ?_
     rotate_left
     ·(intro w hSw; (try dsimp only at hSw); go_simp; try with_reducible rfl)
     simp only [Act.put, zA, zB, zC]
     refine tk4 (v := ?_) (by kernel_rfl) (by kernel_rfl) (by kernel_rfl) (fun _ _ _ h => h) (Or.inl ⟨by rfl, ?_⟩) hS ?_
     rotate_left
     ·(intro w hSw; (try dsimp only at hSw); go_simp; try with_reducible rfl)
     simp only [Act.put, zA, zB, zC]
     refine tk5 (v := ?_) (by kernel_rfl) (by kernel_rfl) (by kernel_rfl) (fun _ _ _ h => h) (Or.inl ⟨by rfl, ?_⟩) hS ?_
     rotate_left
     ·(intro w hSw; (try dsimp only at hSw); go_simp; try with_reducible rfl)
     simp only [Act.put, zA, zB, zC]
     refine wpAnyH_ready (rs := [6]) (by kernel_rfl) (by simp) (st6 (fun K hK => ?_) AllReadyH.nil)
     cases rr with
     | false =>
      have HR4 : Hid (R = (pl, 12)) := by show _ = _; rw [HR3.out, HGE.out]; rfl
      go_simp
      refine (uneed_er 12 pl _).mono ?_
      rintro _ v2 ⟨rfl, rfl⟩
      go_wp2_with fail
      exact bodyPost_panic rfl ⟨CkE.er HR4.out (by omega) rfl, B4.out.drew⟩
     | true =>
      have HR4 : Hid (R = (0, 0)) := by show _ = _; rw [HR3.out, HGE.out]; rfl
      go_simp
      refine (uneed_ok 12 pl _).mono ?_
      rintro _ v2 ⟨rfl, rfl⟩
      go_wp2_with fail
      refine hK.out _ _ ?_ (fun hHeld => ?_)
      ·exact ⟨z0, z1, z2, z3, g1⟩
      clear hK K
      try simp only [Act.put, zA, zB, zC]
      refine wpAnyH_done (by kernel_rfl) ?_ _
      go_wp2_with fail
      go_end0
      exact ⟨CkE.ok (by rw [HR4.out]) rfl, B4.out.drew⟩
    ·by_cases e6 : kd = 6
     ·subst e6
      have HE : Hid (decide ((⟨vf, vm, va, vd⟩ : U) = uNum) = (!vf && (vm == 0 && (va == 0 && vd == 0)))) := by show _ = _; rw [Bool.eq_iff_iff]; simp [uNum]
      generalize hRR : decide ((⟨vf, vm, va, vd⟩ : U) = uNum) = rr at *
      have HGE : Hid (gE ⟨vf, vm, va, vd⟩ = if rr = true then 0 else 12) := by show _ = _; rw [HG3.out, ← hRR]; simp []
      clear hRR HG3
      go_wp2_with fail
      have hS : V4.drew.cell? ⟨ub, 0, none⟩ = some (.bool vf) ∧ V4.drew.cell? ⟨ub, 1, none⟩ = some (.int .i64 vm) ∧ V4.drew.cell? ⟨ub, 2, none⟩ = some (.int .i64 va) ∧ V4.drew.cell? ⟨ub, 3, none⟩ = some (.int .i64 vd) ∧ V4.drew.cell? ⟨w.heap.size + 1, 18, none⟩ = some (.int .i64 pl) := ⟨z0, z1, z2, z3, g1⟩
      refine wp_region_held (S := fun w' : World => w'.cell? ⟨ub, 0, none⟩ = some (.bool vf) ∧ w'.cell? ⟨ub, 1, none⟩ = some (.int .i64 vm) ∧ w'.cell? ⟨ub, 2, none⟩ = some (.int .i64 va) ∧ w'.cell? ⟨ub, 3, none⟩ = some (.int .i64 vd) ∧ w'.cell? ⟨w.heap.size + 1, 18, none⟩ = some (.int .i64 pl)) mixed ?_
      change wpAnyH _ _ _ _ _ _ _ _ V4.drew
      refine tk0 (v := ?_) (by kernel_rfl) (by kernel_rfl) (by kernel_rfl) (fun _ _ _ h => h) (Or.inl ⟨by rfl, ?_⟩) hS ?_
      rotate_left
      ·(intro w hSw; (try dsimp only at hSw); go_simp; try with_reducible rfl)
      simp only [Act.put, zA, zB, zC]
      refine tk1 (v := ?_) (by kernel_rfl) (by kernel_rfl) (by kernel_rfl) (fun _ _ _ h => h) (Or.inl ⟨by rfl, ?_⟩) hS ?_
      rotate_left
      ·(intro w hSw; (try dsimp only at hSw); go_simp; try with_reducible rfl)
      simp only [Act.put, zA, zB, zC]
      refine tk2 (v := .bool rr) (by kernel_rfl) (by kernel_rfl) (by kernel_rfl) (fun _ _ _ h => h) (Or.inl ⟨by rfl, (by intro w hSw; (try dsimp only at hSw); go_simp; exact eq_cmp HE.out w)⟩) hS ?_
      simp only [Act.put, zA, zB, zC]
      refine tk3 (v := ?_) (by kernel_rfl) (by kernel_rfl) (by kernel_rfl) (fun _ _ _ h => h) (Or.inl ⟨by rfl, ?_⟩) hS ?_
      rotate_left
      ·(intro w hSw; (try dsimp only at hSw); go_simp; try with_reducible rfl)
      simp only [Act.put, zA, zB, zC]
      refine tk4 (v := ?_) (by kernel_rfl) (by kernel_rfl) (by kernel_rfl) (fun _ _ _ h => h) (Or.inl ⟨by rfl, ?_⟩) hS ?_
      rotate_left
      ·(intro w hSw; (try dsimp only at hSw); go_simp; try with_reducible rfl)
      simp only [Act.put, zA, zB, zC]
      refine tk5 (v := ?_) (by kernel_rfl) (by kernel_rfl) (by kernel_rfl) (fun _ _ _ h => h) (Or.inl ⟨by rfl, ?_⟩) hS ?_
      rotate_left
      ·(intro w hSw; (try dsimp only at hSw); go_simp; try with_reducible rfl)
      simp only [Act.put, zA, zB, zC]
      refine wpAnyH_ready (rs := [6]) (by kernel_rfl) (by simp) (st6 (fun K hK => ?_) AllReadyH.nil)
      cases rr with
      | false =>
       have HR4 : Hid (R = (pl, 12)) := by show _ = _; rw [HR3.out, HGE.out]; rfl
       go_simp
       refine (uneed_er 12 pl _).mono ?_
       rintro _ v2 ⟨rfl, rfl⟩
       go_wp2_with fail
       exact bodyPost_panic rfl ⟨CkE.er HR4.out (by omega) rfl, B4.out.drew⟩
      | true =>
       have HR4 : Hid (R = (0, 0)) := by show _ = _; rw [HR3.out, HGE.out]; rfl
       go_simp
       refine (uneed_ok 12 pl _).mono ?_
       rintro _ v2 ⟨rfl, rfl⟩
       go_wp2_with fail
       refine hK.out _ _ ?_ (fun hHeld => ?_)
       ·exact ⟨z0, z1, z2, z3, g1⟩
       clear hK K
       try simp only [Act.put, zA, zB, zC]
       refine wpAnyH_done (by kernel_rfl) ?_ _
       go_wp2_with fail
       go_end0
       exact ⟨CkE.ok (by rw [HR4.out]) rfl, B4.out.drew⟩
     ·by_cases e7 : kd = 7
      ·subst e7
       have HE : Hid (decide ((⟨vf, vm, va, vd⟩ : U) = uDays) = (!vf && (vm == 0 && (va == 0 && vd == 1)))) := by show _ = _; rw [Bool.eq_iff_iff]; simp [uDays]
       generalize hRR : decide ((⟨vf, vm, va, vd⟩ : U) = uDays) = rr at *
       have HGE : Hid (gE ⟨vf, vm, va, vd⟩ = if rr = true then 0 else 12) := by show _ = _; rw [HG3.out, ← hRR]; simp []
       clear hRR HG3
       go_wp2_with fail
       have hS : V4.drew.cell? ⟨ub, 0, none⟩ = some (.bool vf) ∧ V4.drew.cell? ⟨ub, 1, none⟩ = some (.int .i64 vm) ∧ V4.drew.cell? ⟨ub, 2, none⟩ = some (.int .i64 va) ∧ V4.drew.cell? ⟨ub, 3, none⟩ = some (.int .i64 vd) ∧ V4.drew.cell? ⟨w.heap.size + 1, 18, none⟩ = some (.int .i64 pl) := ⟨z0, z1, z2, z3, g1⟩
       refine wp_region_held (S := fun w' : World => w'.cell? ⟨ub, 0, none⟩ = some (.bool vf) ∧ w'.cell? ⟨ub, 1, none⟩ = some (.int .i64 vm) ∧ w'.cell? ⟨ub, 2, none⟩ = some (.int .i64 va) ∧ w'.cell? ⟨ub, 3, none⟩ = some (.int .i64 vd) ∧ w'.cell? ⟨w.heap.size + 1, 18, none⟩ = some (.int .i64 pl)) mixed ?_
       change wpAnyH _ _ _ _ _ _ _ _ V4.drew
       refine tk0 (v := ?_) (by kernel_rfl) (by kernel_rfl) (by kernel_rfl) (fun _ _ _ h => h) (Or.inl ⟨by rfl, ?_⟩) hS ?_
       rotate_left
       ·(intro w hSw; (try dsimp only at hSw); go_simp; try with_reducible rfl)
       simp only [Act.put, zA, zB, zC]
       refine tk1 (v := ?_) (by kernel_rfl) (by kernel_rfl) (by kernel_rfl) (fun _ _ _ h => h) (Or.inl ⟨by rfl, ?_⟩) hS ?_
       rotate_left
       ·(intro w hSw; (try dsimp only at hSw); go_simp; try with_reducible rfl)
       simp only [Act.put, zA, zB, zC]
       refine tk2 (v := .bool rr) (by kernel_rfl) (by kernel_rfl) (by kernel_rfl) (fun _ _ _ h => h) (Or.inl ⟨by rfl, (by intro w hSw; (try dsimp only at hSw); go_simp; exact eq_cmp HE.out w)⟩) hS ?_
       simp only [Act.put, zA, zB, zC]
       refine tk3 (v := ?_) (by kernel_rfl) (by kernel_rfl) (by kernel_rfl) (fun _ _ _ h => h) (Or.inl ⟨by rfl, ?_⟩) hS ?_
       rotate_left
       ·(intro w hSw; (try dsimp only at hSw); go_simp; try with_reducible rfl)
       simp only [Act.put, zA, zB, zC]
       refine tk4 (v := ?_) (by kernel_rfl) (by kernel_rfl) (by kernel_rfl) (fun _ _ _ h => h) (Or.inl ⟨by rfl, ?_⟩) hS ?_
       rotate_left
       ·(intro w hSw; (try dsimp only at hSw); go_simp; try with_reducible rfl)
       simp only [Act.put, zA, zB, zC]
       refine tk5 (v := ?_) (by kernel_rfl) (by kernel_rfl) (by kernel_rfl) (fun _ _ _ h => h) (Or.inl ⟨by rfl, ?_⟩) hS ?_
       rotate_left
       ·(intro w hSw; (try dsimp only at hSw); go_simp; try with_reducible rfl)
       simp only [Act.put, zA, zB, zC]
       refine wpAnyH_ready (rs := [6]) (by kernel_rfl) (by simp) (st6 (fun K hK => ?_) AllReadyH.nil)
       cases rr with
       | false =>
        have HR4 : Hid (R = (pl, 12)) := by show _ = _; rw [HR3.out, HGE.out]; rfl
        go_simp
        refine (uneed_er 12 pl _).mono ?_
        rintro _ v2 ⟨rfl, rfl⟩
        go_wp2_with fail
        exact bodyPost_panic rfl ⟨CkE.er HR4.out (by omega) rfl, B4.out.drew⟩
       | true =>
        have HR4 : Hid (R = (0, 0)) := by show _ = _; rw [HR3.out, HGE.out]; rfl
        go_simp
        refine (uneed_ok 12 pl _).mono ?_
        rintro _ v2 ⟨rfl, rfl⟩
        go_wp2_with fail
        refine hK.out _ _ ?_ (fun hHeld => ?_)
        ·exact ⟨z0, z1, z2, z3, g1⟩
        clear hK K
        try simp only [Act.put, zA, zB, zC]
        refine wpAnyH_done (by kernel_rfl) ?_ _
        go_wp2_with fail
        go_end0
        exact ⟨CkE.ok (by rw [HR4.out]) rfl, B4.out.drew⟩
      ·have b1 : (kd == 1) = false := by simpa using e1
       have b2 : (kd == 2) = false := by simpa using e2
       have b5 : (kd == 5) = false := by simpa using e5
       have b6 : (kd == 6) = false := by simpa using e6
       have b7 : (kd == 7) = false := by simpa using e7
       have HGE : Hid (gE ⟨vf, vm, va, vd⟩ = if inn = true then 0 else 13) := by show _ = _; rw [HG3.out, if_neg (by omega), if_neg (by omega), if_neg e7]
       clear HG3
       go_wp2_with fail
       have hS : V4.drew.cell? ⟨w.heap.size + 1, 17, none⟩ = some (.int .i64 op) ∧ V4.drew.cell? ⟨w.heap.size + 1, 18, none⟩ = some (.int .i64 pl) ∧ V4.drew.cell? ⟨w.heap.size + 1, 19, none⟩ = some (.string s) ∧ V4.drew.cell? ⟨w.heap.size + 1, 20, none⟩ = some (.int .i64 n0) ∧ V4.drew.cell? ⟨w.heap.size + 1, 21, none⟩ = some (.int .i64 d0) ∧ V4.drew.cell? ⟨w.heap.size + 1, 22, none⟩ = some (.bool uf) ∧ V4.drew.cell? ⟨w.heap.size + 1, 23, none⟩ = some (.int .i64 um) ∧ V4.drew.cell? ⟨w.heap.size + 1, 24, none⟩ = some (.int .i64 ua) ∧ V4.drew.cell? ⟨w.heap.size + 1, 25, none⟩ = some (.int .i64 ud) ∧ V4.drew.cell? ⟨w.heap.size + 1, 26, none⟩ = some (.slice q2 ks.length p2') := ⟨g0, g1, g2, g3, g4, g5, g6, g7, g8, g9⟩
       refine wp_region_held (S := fun w' : World => w'.cell? ⟨w.heap.size + 1, 17, none⟩ = some (.int .i64 op) ∧ w'.cell? ⟨w.heap.size + 1, 18, none⟩ = some (.int .i64 pl) ∧ w'.cell? ⟨w.heap.size + 1, 19, none⟩ = some (.string s) ∧ w'.cell? ⟨w.heap.size + 1, 20, none⟩ = some (.int .i64 n0) ∧ w'.cell? ⟨w.heap.size + 1, 21, none⟩ = some (.int .i64 d0) ∧ w'.cell? ⟨w.heap.size + 1, 22, none⟩ = some (.bool uf) ∧ w'.cell? ⟨w.heap.size + 1, 23, none⟩ = some (.int .i64 um) ∧ w'.cell? ⟨w.heap.size + 1, 24, none⟩ = some (.int .i64 ua) ∧ w'.cell? ⟨w.heap.size + 1, 25, none⟩ = some (.int .i64 ud) ∧ w'.cell? ⟨w.heap.size + 1, 26, none⟩ = some (.slice q2 ks.length p2')) mixed ?_
       change wpAnyH _ _ _ _ _ _ _ _ V4.drew
       refine tk0 (v := ?_) (by kernel_rfl) (by kernel_rfl) (by kernel_rfl) (fun _ _ _ h => h) (Or.inl ⟨by rfl, ?_⟩) hS ?_
       rotate_left
       ·(intro w hSw; (try dsimp only at hSw); go_simp; try with_reducible rfl)
       simp only [Act.put, zA, zB, zC]
       refine tk1 (v := ?_) (by kernel_rfl) (by kernel_rfl) (by kernel_rfl) (fun _ _ _ h => h) (Or.inl ⟨by rfl, ?_⟩) hS ?_
       rotate_left
       ·(intro w hSw; (try dsimp only at hSw); go_simp; try with_reducible rfl)
       simp only [Act.put, zA, zB, zC]
       refine tk3 (v := ?_) (by kernel_rfl) (by kernel_rfl) (by kernel_rfl) (fun _ _ _ h => h) (Or.inl ⟨by rfl, ?_⟩) hS ?_
       rotate_left
       ·(intro w hSw; (try dsimp only at hSw); go_simp; try with_reducible rfl)
       simp only [Act.put, zA, zB, zC]
       refine tk4 (v := ?_) (by kernel_rfl) (by kernel_rfl) (by kernel_rfl) (fun _ _ _ h => h) (Or.inl ⟨by rfl, ?_⟩) hS ?_
       rotate_left
       ·(intro w hSw; (try dsimp only at hSw); go_simp; try with_reducible rfl)
       simp only [Act.put, zA, zB, zC]
       refine tk5 (v := ?_) (by kernel_rfl) (by kernel_rfl) (by kernel_rfl) (fun _ _ _ h => h) (Or.inl ⟨by rfl, ?_⟩) hS ?_
       rotate_left
       ·(intro w hSw; (try dsimp only at hSw); go_simp; try with_reducible rfl)
       simp only [Act.put, zA, zB, zC]
       refine wpAnyH_ready (rs := [2]) (by kernel_rfl) (by simp) (st2 (fun K hK => ?_) AllReadyH.nil)
       go_simp
       refine (KN.out _).mono ?_
       rintro _ V5 ⟨rfl, hb⟩
       replace hb := (Below.refl V4.heap.size V4).drew.trans hb
       replace g0 := (hb.cell (World.block_lt_of_cell? _ _ g0)).trans g0
       replace g1 := (hb.cell (World.block_lt_of_cell? _ _ g1)).trans g1
       replace g2 := (hb.cell (World.block_lt_of_cell? _ _ g2)).trans g2
       replace g3 := (hb.cell (World.block_lt_of_cell? _ _ g3)).trans g3
       replace g4 := (hb.cell (World.block_lt_of_cell? _ _ g4)).trans g4
       replace g5 := (hb.cell (World.block_lt_of_cell? _ _ g5)).trans g5
       replace g6 := (hb.cell (World.block_lt_of_cell? _ _ g6)).trans g6
       replace g7 := (hb.cell (World.block_lt_of_cell? _ _ g7)).trans g7
       replace g8 := (hb.cell (World.block_lt_of_cell? _ _ g8)).trans g8
       replace g9 := (hb.cell (World.block_lt_of_cell? _ _ g9)).trans g9
       replace B4 := Lib.hid (B4.out.trans (hb.mono B4.out.size))
       clear hb
       go_wp2_with fail
       refine hK.out _ _ ?_ (fun hHeld => ?_)
       ·exact ⟨g0, g1, g2, g3, g4, g5, g6, g7, g8, g9⟩
       clear hK K
       try simp only [Act.put, zA, zB, zC]
       refine wpAnyH_ready (rs := [6]) (by kernel_rfl) (by simp) (st6 (fun K hK => ?_) AllReadyH.nil)
       cases inn with
       | false =>
        have HR4 : Hid (R = (pl, 13)) := by show _ = _; rw [HR3.out, HGE.out]; rfl
        go_simp
        refine (uneed_er 13 pl _).mono ?_
        rintro _ v2 ⟨rfl, rfl⟩
        go_wp2_with fail
        exact bodyPost_panic rfl ⟨CkE.er HR4.out (by omega) rfl, B4.out⟩
       | true =>
        have HR4 : Hid (R = (0, 0)) := by show _ = _; rw [HR3.out, HGE.out]; rfl
        go_simp
        refine (uneed_ok 13 pl _).mono ?_
        rintro _ v2 ⟨rfl, rfl⟩
        go_wp2_with fail
        refine hK.out _ _ ?_ (fun hHeld => ?_)
        ·exact ⟨g0, g1, g2, g3, g4, g5, g6, g7, g8, g9⟩
        clear hK K
        try simp only [Act.put, zA, zB, zC]
        refine wpAnyH_done (by kernel_rfl) ?_ _
        go_wp2_with fail
        go_end0
        exact ⟨CkE.ok (by rw [HR4.out]) rfl, B4.out⟩
end Go.Proofs.Ytoaonficdkgfiaa
