/-
  ZF: several texts in one.
-/
import Derived.Test.YtjifiijgghpniaaZE
/-
  Contract of units: checkGive.
-/
namespace Go.Proofs.Ytjifiijgghpniaa
open Go.RowKit Un MapKept

/-- A check gives up with an error and its place, or does not. -/
def CkE (r : Int × Int) (e : Ending) : Prop := if r.2 = 0 then e = .returned (.tuple #[]) else e = .panicked (failU r.2 r.1)
def givM (gE : U → Int) (pl : Int) : Got → Int × Int
  | .er e p => (p, e)
  | .ok u => if gE u = 0 then (0, 0) else (pl, gE u)
def givR (fs : List (List UInt8 × U)) (r : Ru) : Int × Int := givM (giveE r) r.giv.pl (fnd fs r.giv)
theorem CkE.ok {r : Int × Int} {e : Ending} (h : r.2 = 0) (he : e = .returned (.tuple #[])) : CkE r e := by unfold CkE; rw [if_pos h]; exact he
theorem CkE.er {r : Int × Int} {e : Ending} {E p : Int} (h : r = (p, E)) (hE : E ≠ 0) (he : e = .panicked (failU E p)) : CkE r e := by subst h; unfold CkE; rw [if_neg hE]; exact he
theorem eq_cmp {rr vf : Bool} {vm va vd a b c : Int} (h : rr = (!vf && (vm == a && (va == b && vd == c)))) (w : World) : (if vf = true then Result.ok (Next.value (Value.bool false)) w else if vm = a then if va = b then if vd = c then Result.ok (Next.value (Value.bool true)) w else Result.ok (Next.value (Value.bool false)) w else Result.ok (Next.value (Value.bool false)) w else Result.ok (Next.value (Value.bool false)) w) = Result.ok (Next.value (Value.bool rr)) w := by
  subst h
  cases vf <;> by_cases h1 : vm = a <;> by_cases h2 : va = b <;> by_cases h3 : vd = c <;> simp [h1, h2, h3]
set_option maxRecDepth 100000 in
set_option maxHeartbeats 12000000 in
theorem ucheckGive_any (L : List Dc) (hf : formD L = true) (r : Ru) (g : Nat) (hw : wf vld g r.giv = true) (x y : Kd) (l : List Value) (hr : RuC r x y l) (A : Nat → Prop) (m1 m2 fb p1 p2 : Nat) (w : World) (hm : NdM w A r.giv y) (hs : ScR w L m1 m2 fb p1 p2) :
    Calls Try.prog 88 #[.agg #[.map (some m1), .map (some m2)], .agg l.toArray] w fun e w' => CkE (givR (Un.facts L) r) e ∧ RowKit.Below w.heap.size w w' := by
  have KU := Lib.hid (fun V (hV : RowKit.Below w.heap.size w V) => uunit_any L (facts_good hf) (size r.giv) r.giv (Nat.le_refl _) g hw A y m1 m2 fb p1 p2 V (hm.bel hV) (hs.bel hV))
  have KN := Lib.hid (fun V => uisNothing_any r.giv y V)
  obtain ⟨R, hR⟩ : ∃ R, R = givR (Un.facts L) r := ⟨_, rfl⟩
  rw [← hR]
  have HR : Hid (R = givM (giveE r) r.giv.pl (fnd (Un.facts L) r.giv)) := hR
  have HNE := Lib.hid (fun e p (h : fnd (Un.facts L) r.giv = .er e p) => fnd_ne r.giv e p h)
  have HGE : Hid (∀ u, giveE r u = if r.kind = 1 ∨ r.kind = 2 then (if u = uMoney then 0 else 12) else if r.kind = 5 ∨ r.kind = 6 then (if u = uNum then 0 else 12) else if r.kind = 7 then (if u = uDays then 0 else 12) else if isNothing r.giv = true then 0 else 13) := fun _ => rfl
  obtain ⟨W1, hW1⟩ : ∃ W1, w.alloc (.cells #[.map (some m1), .map (some m2)] 72) = W1 := ⟨_, rfl⟩
  have a1 := (Below.refl w.heap.size w).alloc (Nat.le_refl _) (.cells #[.map (some m1), .map (some m2)] 72)
  have x1 : BoxL W1 w.heap.size [.map (some m1), .map (some m2)] := by rw [← hW1]; exact box_new _ _ rfl
  rw [hW1] at a1
  have s1 : W1.heap.size = w.heap.size + 1 := by rw [← hW1]; simp
  obtain ⟨W2, hW2⟩ : ∃ W2, W1.alloc (.cells l.toArray 58) = W2 := ⟨_, rfl⟩
  have a2 := (Below.refl W1.heap.size W1).alloc (Nat.le_refl _) (.cells l.toArray 58)
  have x2 : BoxL W2 (w.heap.size + 1) l := by rw [← hW2]; exact box_new _ _ s1
  rw [hW2] at a2
  have X1 := Lib.hid (x1.bel (by simp) a2)
  have X2 := Lib.hid x2
  have B2 := Lib.hid (a1.trans (a2.mono (by omega)))
  obtain ⟨-, -, hg⟩ := kC x2 hr
  obtain ⟨k2, -⟩ := x2 2 _ hr.f2
  have hl := hr.len
  obtain ⟨b0, -⟩ := X1.out 0 _ rfl
  obtain ⟨b1, -⟩ := X1.out 1 _ rfl
  clear hR hm hs hw x1 x2 a1 a2
  generalize fnd (Un.facts L) r.giv = G at *
  generalize isNothing r.giv = inn at *
  generalize giveE r = gE at *
  generalize r.kind = kd at *
  clear hr
  generalize r.giv = t at *
  obtain ⟨op, pl, nm, n0, d0, ⟨uf, um, ua, ud⟩, ks⟩ := t
  obtain ⟨q2, p2'⟩ := y
  simp only [nV, nC] at KU KN
  simp only [nC] at hg
  have HR2 : Hid (R = givM gE pl G) := HR.out
  clear HR
  have g0 := hg 0 _ rfl
  have g1 := hg 1 _ rfl
  have g2 := hg 2 _ rfl
  have g3 := hg 3 _ rfl
  have g4 := hg 4 _ rfl
  have g5 := hg 5 _ rfl
  have g6 := hg 6 _ rfl
  have g7 := hg 7 _ rfl
  have g8 := hg 8 _ rfl
  have g9 := hg 9 _ rfl
  simp only [Nat.add_zero, Nat.reduceAdd] at g0 g1 g2 g3 g4 g5 g6 g7 g8 g9
  clear hg
  generalize bs nm = s at *
  go_enter Try.func88, Try.ntmps88
  go_wp2_with fail
  clear hW1 hW2
  refine (KU.out _ B2.out).mono ?_
  rintro e V ⟨hG, hb⟩
  have B3 := Lib.hid (B2.out.trans (hb.mono B2.out.size))
  replace k2 := (hb.cell (World.block_lt_of_cell? _ _ k2)).trans k2
  replace g0 := (hb.cell (World.block_lt_of_cell? _ _ g0)).trans g0
  replace g1 := (hb.cell (World.block_lt_of_cell? _ _ g1)).trans g1
  replace g2 := (hb.cell (World.block_lt_of_cell? _ _ g2)).trans g2
  replace g3 := (hb.cell (World.block_lt_of_cell? _ _ g3)).trans g3
  replace g4 := (hb.cell (World.block_lt_of_cell? _ _ g4)).trans g4
  replace g5 := (hb.cell (World.block_lt_of_cell? _ _ g5)).trans g5
  replace g6 := (hb.cell (World.block_lt_of_cell? _ _ g6)).trans g6
  replace g7 := (hb.cell (World.block_lt_of_cell? _ _ g7)).trans g7
  replace g8 := (hb.cell (World.block_lt_of_cell? _ _ g8)).trans g8
  replace g9 := (hb.cell (World.block_lt_of_cell? _ _ g9)).trans g9
  have hV := hb.size
  have h1V : w.heap.size + 1 < V.heap.size := by have := World.block_lt_of_cell? _ _ g0; exact this
  clear hb B2 X1 X2 KU b0 b1 s1
  cases G with
  | er E q =>
    have he : e = .panicked (failU E q) := hG
    subst he
    have hE : E ≠ 0 := by rcases HNE.out E q rfl with h | h <;> omega
    have HR3 : Hid (R = (q, E)) := HR2.out
    go_wp2_with fail
    exact bodyPost_panic rfl ⟨CkE.er HR3.out hE rfl, B3.out⟩
  | ok u =>
    have HR3 : Hid (R = if gE u = 0 then (0, 0) else (pl, gE u)) := HR2.out
    have HG3 := Lib.hid (HGE.out u)
    obtain ⟨vf, vm, va, vd⟩ := u
    have he : e = .returned (uV ⟨vf, vm, va, vd⟩) := hG
    simp only [uV, uC] at he
    subst he
    clear HR2 HGE HNE hG
    have hb := (Below.refl V.heap.size V).alloc (Nat.le_refl _) (.cells #[.bool vf, .int .i64 vm, .int .i64 va, .int .i64 vd] 29)
    have B4 := Lib.hid (B3.out.trans (hb.mono B3.out.size))
    obtain ⟨z0, z1, z2, z3, -⟩ := box4 (BoxL.new V [.bool vf, .int .i64 vm, .int .i64 va, .int .i64 vd] 29)
    replace k2 := (hb.cell (World.block_lt_of_cell? _ _ k2)).trans k2
    replace g0 := (hb.cell (World.block_lt_of_cell? _ _ g0)).trans g0
    replace g1 := (hb.cell (World.block_lt_of_cell? _ _ g1)).trans g1
    replace g2 := (hb.cell (World.block_lt_of_cell? _ _ g2)).trans g2
    replace g3 := (hb.cell (World.block_lt_of_cell? _ _ g3)).trans g3
    replace g4 := (hb.cell (World.block_lt_of_cell? _ _ g4)).trans g4
    replace g5 := (hb.cell (World.block_lt_of_cell? _ _ g5)).trans g5
    replace g6 := (hb.cell (World.block_lt_of_cell? _ _ g6)).trans g6
    replace g7 := (hb.cell (World.block_lt_of_cell? _ _ g7)).trans g7
    replace g8 := (hb.cell (World.block_lt_of_cell? _ _ g8)).trans g8
    replace g9 := (hb.cell (World.block_lt_of_cell? _ _ g9)).trans g9
    clear hb B3
    generalize hV4 : V.alloc (.cells #[.bool vf, .int .i64 vm, .int .i64 va, .int .i64 vd] 29) = V4 at *
    generalize hub : V.heap.size = ub at *
    by_cases e1 : kd = 1
    · subst e1
      have HE : Hid (decide ((⟨vf, vm, va, vd⟩ : U) = uMoney) = (!vf && (vm == 1 && (va == 0 && vd == 0)))) := by show _ = _; rw [Bool.eq_iff_iff]; simp [uMoney]
      generalize hRR : decide ((⟨vf, vm, va, vd⟩ : U) = uMoney) = rr at *
      have HGE : Hid (gE ⟨vf, vm, va, vd⟩ = if rr = true then 0 else 12) := by show _ = _; rw [HG3.out, ← hRR]; simp []
      clear hRR HG3
      go_wp2_with fail
      have hS : V4.drew.cell? ⟨ub, 0, none⟩ = some (.bool vf) ∧ V4.drew.cell? ⟨ub, 1, none⟩ = some (.int .i64 vm) ∧ V4.drew.cell? ⟨ub, 2, none⟩ = some (.int .i64 va) ∧ V4.drew.cell? ⟨ub, 3, none⟩ = some (.int .i64 vd) ∧ V4.drew.cell? ⟨w.heap.size + 1, 18, none⟩ = some (.int .i64 pl) := ⟨z0, z1, z2, z3, g1⟩
      refine wp_region_held (S := fun w' : World => w'.cell? ⟨ub, 0, none⟩ = some (.bool vf) ∧ w'.cell? ⟨ub, 1, none⟩ = some (.int .i64 vm) ∧ w'.cell? ⟨ub, 2, none⟩ = some (.int .i64 va) ∧ w'.cell? ⟨ub, 3, none⟩ = some (.int .i64 vd) ∧ w'.cell? ⟨w.heap.size + 1, 18, none⟩ = some (.int .i64 pl)) mixed ?_
      change wpAnyH _ _ _ _ _ _ _ _ V4.drew
      refine tk0 (v := ?_) (by kernel_rfl) (by kernel_rfl) (by kernel_rfl) (fun _ _ _ h => h) (Or.inl ⟨by rfl, ?_⟩) hS ?_
      rotate_left
      · (intro w hSw; (try dsimp only at hSw); go_simp; try with_reducible rfl)
      simp only [Act.put, List.setIfInBounds_toArray, List.set_cons_zero, List.set_cons_succ]
      refine tk1 (v := ?_) (by kernel_rfl) (by kernel_rfl) (by kernel_rfl) (fun _ _ _ h => h) (Or.inl ⟨by rfl, ?_⟩) hS ?_
      rotate_left
      · (intro w hSw; (try dsimp only at hSw); go_simp; try with_reducible rfl)
      simp only [Act.put, List.setIfInBounds_toArray, List.set_cons_zero, List.set_cons_succ]
      refine tk2 (v := .bool rr) (by kernel_rfl) (by kernel_rfl) (by kernel_rfl) (fun _ _ _ h => h) (Or.inl ⟨by rfl, (by intro w hSw; (try dsimp only at hSw); go_simp; exact eq_cmp HE.out w)⟩) hS ?_
      simp only [Act.put, List.setIfInBounds_toArray, List.set_cons_zero, List.set_cons_succ]
      refine tk3 (v := ?_) (by kernel_rfl) (by kernel_rfl) (by kernel_rfl) (fun _ _ _ h => h) (Or.inl ⟨by rfl, ?_⟩) hS ?_
      rotate_left
      · (intro w hSw; (try dsimp only at hSw); go_simp; try with_reducible rfl)
      simp only [Act.put, List.setIfInBounds_toArray, List.set_cons_zero, List.set_cons_succ]
      refine tk4 (v := ?_) (by kernel_rfl) (by kernel_rfl) (by kernel_rfl) (fun _ _ _ h => h) (Or.inl ⟨by rfl, ?_⟩) hS ?_
      rotate_left
      · (intro w hSw; (try dsimp only at hSw); go_simp; try with_reducible rfl)
      simp only [Act.put, List.setIfInBounds_toArray, List.set_cons_zero, List.set_cons_succ]
      refine tk5 (v := ?_) (by kernel_rfl) (by kernel_rfl) (by kernel_rfl) (fun _ _ _ h => h) (Or.inl ⟨by rfl, ?_⟩) hS ?_
      rotate_left
      · (intro w hSw; (try dsimp only at hSw); go_simp; try with_reducible rfl)
      simp only [Act.put, List.setIfInBounds_toArray, List.set_cons_zero, List.set_cons_succ]
      refine wpAnyH_ready (rs := [6]) (by kernel_rfl) (by simp) (st6 (fun K hK => ?_) AllReadyH.nil)
      cases rr with
      | false =>
        have HR4 : Hid (R = (pl, 12)) := by show _ = _; rw [HR3.out, HGE.out]; rfl
        go_simp
        refine (uneed_er 12 pl _).mono ?_
        rintro _ v2 ⟨rfl, rfl⟩
        go_wp2_with fail
        exact bodyPost_panic rfl ⟨CkE.er HR4.out (by omega) rfl, B4.out.drew⟩
      | true =>
        have HR4 : Hid (R = (0, 0)) := by show _ = _; rw [HR3.out, HGE.out]; rfl
        go_simp
        refine (uneed_ok 12 pl _).mono ?_
        rintro _ v2 ⟨rfl, rfl⟩
        go_wp2_with fail
        refine hK.out _ _ ?_ (fun hHeld => ?_)
        · exact ⟨z0, z1, z2, z3, g1⟩
        clear hK K
        try simp only [Act.put, List.setIfInBounds_toArray, List.set_cons_zero, List.set_cons_succ]
        refine wpAnyH_done (by kernel_rfl) ?_ _
        go_wp2_with fail
        go_end0
        exact ⟨CkE.ok (by rw [HR4.out]) rfl, B4.out.drew⟩
    · by_cases e2 : kd = 2
      · subst e2
        have HE : Hid (decide ((⟨vf, vm, va, vd⟩ : U) = uMoney) = (!vf && (vm == 1 && (va == 0 && vd == 0)))) := by show _ = _; rw [Bool.eq_iff_iff]; simp [uMoney]
        generalize hRR : decide ((⟨vf, vm, va, vd⟩ : U) = uMoney) = rr at *
        have HGE : Hid (gE ⟨vf, vm, va, vd⟩ = if rr = true then 0 else 12) := by show _ = _; rw [HG3.out, ← hRR]; simp []
        clear hRR HG3
        go_wp2_with fail
        have hS : V4.drew.cell? ⟨ub, 0, none⟩ = some (.bool vf) ∧ V4.drew.cell? ⟨ub, 1, none⟩ = some (.int .i64 vm) ∧ V4.drew.cell? ⟨ub, 2, none⟩ = some (.int .i64 va) ∧ V4.drew.cell? ⟨ub, 3, none⟩ = some (.int .i64 vd) ∧ V4.drew.cell? ⟨w.heap.size + 1, 18, none⟩ = some (.int .i64 pl) := ⟨z0, z1, z2, z3, g1⟩
        refine wp_region_held (S := fun w' : World => w'.cell? ⟨ub, 0, none⟩ = some (.bool vf) ∧ w'.cell? ⟨ub, 1, none⟩ = some (.int .i64 vm) ∧ w'.cell? ⟨ub, 2, none⟩ = some (.int .i64 va) ∧ w'.cell? ⟨ub, 3, none⟩ = some (.int .i64 vd) ∧ w'.cell? ⟨w.heap.size + 1, 18, none⟩ = some (.int .i64 pl)) mixed ?_
        change wpAnyH _ _ _ _ _ _ _ _ V4.drew
        refine tk0 (v := ?_) (by kernel_rfl) (by kernel_rfl) (by kernel_rfl) (fun _ _ _ h => h) (Or.inl ⟨by rfl, ?_⟩) hS ?_
        rotate_left
        · (intro w hSw; (try dsimp only at hSw); go_simp; try with_reducible rfl)
        simp only [Act.put, List.setIfInBounds_toArray, List.set_cons_zero, List.set_cons_succ]
        refine tk1 (v := ?_) (by kernel_rfl) (by kernel_rfl) (by kernel_rfl) (fun _ _ _ h => h) (Or.inl ⟨by rfl, ?_⟩) hS ?_
        rotate_left
        · (intro w hSw; (try dsimp only at hSw); go_simp; try with_reducible rfl)
        simp only [Act.put, List.setIfInBounds_toArray, List.set_cons_zero, List.set_cons_succ]
        refine tk2 (v := .bool rr) (by kernel_rfl) (by kernel_rfl) (by kernel_rfl) (fun _ _ _ h => h) (Or.inl ⟨by rfl, (by intro w hSw; (try dsimp only at hSw); go_simp; exact eq_cmp HE.out w)⟩) hS ?_
        simp only [Act.put, List.setIfInBounds_toArray, List.set_cons_zero, List.set_cons_succ]
        refine tk3 (v := ?_) (by kernel_rfl) (by kernel_rfl) (by kernel_rfl) (fun _ _ _ h => h) (Or.inl ⟨by rfl, ?_⟩) hS ?_
        rotate_left
        · (intro w hSw; (try dsimp only at hSw); go_simp; try with_reducible rfl)
        simp only [Act.put, List.setIfInBounds_toArray, List.set_cons_zero, List.set_cons_succ]
        refine tk4 (v := ?_) (by kernel_rfl) (by kernel_rfl) (by kernel_rfl) (fun _ _ _ h => h) (Or.inl ⟨by rfl, ?_⟩) hS ?_
        rotate_left
        · (intro w hSw; (try dsimp only at hSw); go_simp; try with_reducible rfl)
        simp only [Act.put, List.setIfInBounds_toArray, List.set_cons_zero, List.set_cons_succ]
        refine tk5 (v := ?_) (by kernel_rfl) (by kernel_rfl) (by kernel_rfl) (fun _ _ _ h => h) (Or.inl ⟨by rfl, ?_⟩) hS ?_
        rotate_left
        · (intro w hSw; (try dsimp only at hSw); go_simp; try with_reducible rfl)
        simp only [Act.put, List.setIfInBounds_toArray, List.set_cons_zero, List.set_cons_succ]
        refine wpAnyH_ready (rs := [6]) (by kernel_rfl) (by simp) (st6 (fun K hK => ?_) AllReadyH.nil)
        cases rr with
        | false =>
          have HR4 : Hid (R = (pl, 12)) := by show _ = _; rw [HR3.out, HGE.out]; rfl
          go_simp
          refine (uneed_er 12 pl _).mono ?_
          rintro _ v2 ⟨rfl, rfl⟩
          go_wp2_with fail
          exact bodyPost_panic rfl ⟨CkE.er HR4.out (by omega) rfl, B4.out.drew⟩
        | true =>
          have HR4 : Hid (R = (0, 0)) := by show _ = _; rw [HR3.out, HGE.out]; rfl
          go_simp
          refine (uneed_ok 12 pl _).mono ?_
          rintro _ v2 ⟨rfl, rfl⟩
          go_wp2_with fail
          refine hK.out _ _ ?_ (fun hHeld => ?_)
          · exact ⟨z0, z1, z2, z3, g1⟩
          clear hK K
          try simp only [Act.put, List.setIfInBounds_toArray, List.set_cons_zero, List.set_cons_succ]
          refine wpAnyH_done (by kernel_rfl) ?_ _
          go_wp2_with fail
          go_end0
          exact ⟨CkE.ok (by rw [HR4.out]) rfl, B4.out.drew⟩
      · by_cases e5 : kd = 5
        · subst e5
          have HE : Hid (decide ((⟨vf, vm, va, vd⟩ : U) = uNum) = (!vf && (vm == 0 && (va == 0 && vd == 0)))) := by show _ = _; rw [Bool.eq_iff_iff]; simp [uNum]
          generalize hRR : decide ((⟨vf, vm, va, vd⟩ : U) = uNum) = rr at *
          have HGE : Hid (gE ⟨vf, vm, va, vd⟩ = if rr = true then 0 else 12) := by show _ = _; rw [HG3.out, ← hRR]; simp []
          clear hRR HG3
          go_wp2_with fail
          have hS : V4.drew.cell? ⟨ub, 0, none⟩ = some (.bool vf) ∧ V4.drew.cell? ⟨ub, 1, none⟩ = some (.int .i64 vm) ∧ V4.drew.cell? ⟨ub, 2, none⟩ = some (.int .i64 va) ∧ V4.drew.cell? ⟨ub, 3, none⟩ = some (.int .i64 vd) ∧ V4.drew.cell? ⟨w.heap.size + 1, 18, none⟩ = some (.int .i64 pl) := ⟨z0, z1, z2, z3, g1⟩
          refine wp_region_held (S := fun w' : World => w'.cell? ⟨ub, 0, none⟩ = some (.bool vf) ∧ w'.cell? ⟨ub, 1, none⟩ = some (.int .i64 vm) ∧ w'.cell? ⟨ub, 2, none⟩ = some (.int .i64 va) ∧ w'.cell? ⟨ub, 3, none⟩ = some (.int .i64 vd) ∧ w'.cell? ⟨w.heap.size + 1, 18, none⟩ = some (.int .i64 pl)) mixed ?_
          change wpAnyH _ _ _ _ _ _ _ _ V4.drew
          refine tk0 (v := ?_) (by kernel_rfl) (by kernel_rfl) (by kernel_rfl) (fun _ _ _ h => h) (Or.inl ⟨by rfl, ?_⟩) hS ?_
          rotate_left
          · (intro w hSw; (try dsimp only at hSw); go_simp; try with_reducible rfl)
          simp only [Act.put, List.setIfInBounds_toArray, List.set_cons_zero, List.set_cons_succ]
          refine tk1 (v := ?_) (by kernel_rfl) (by kernel_rfl) (by kernel_rfl) (fun _ _ _ h => h) (Or.inl ⟨by rfl, ?_⟩) hS ?_
          rotate_left
          · (intro w hSw; (try dsimp only at hSw); go_simp; try with_reducible rfl)
          simp only [Act.put, List.setIfInBounds_toArray, List.set_cons_zero, List.set_cons_succ]
          refine tk2 (v := .bool rr) (by kernel_rfl) (by kernel_rfl) (by kernel_rfl) (fun _ _ _ h => h) (Or.inl ⟨by rfl, (by intro w hSw; (try dsimp only at hSw); go_simp; exact eq_cmp HE.out w)⟩) hS ?_
          simp only [Act.put, List.setIfInBounds_toArray, List.set_cons_zero, List.set_cons_succ]
          refine tk3 (v := ?_) (by kernel_rfl) (by kernel_rfl) (by kernel_rfl) (fun _ _ _ h => h) (Or.inl ⟨by rfl, ?_⟩) hS ?_
          rotate_left
          · (intro w hSw; (try dsimp only at hSw); go_simp; try with_reducible rfl)
          simp only [Act.put, List.setIfInBounds_toArray, List.set_cons_zero, List.set_cons_succ]
          refine tk4 (v := ?_) (by kernel_rfl) (by kernel_rfl) (by kernel_rfl) (fun _ _ _ h => h) (Or.inl ⟨by rfl, ?_⟩) hS ?_
          rotate_left
          · (intro w hSw; (try dsimp only at hSw); go_simp; try with_reducible rfl)
          simp only [Act.put, List.setIfInBounds_toArray, List.set_cons_zero, List.set_cons_succ]
          refine tk5 (v := ?_) (by kernel_rfl) (by kernel_rfl) (by kernel_rfl) (fun _ _ _ h => h) (Or.inl ⟨by rfl, ?_⟩) hS ?_
          rotate_left
          · (intro w hSw; (try dsimp only at hSw); go_simp; try with_reducible rfl)
          simp only [Act.put, List.setIfInBounds_toArray, List.set_cons_zero, List.set_cons_succ]
          refine wpAnyH_ready (rs := [6]) (by kernel_rfl) (by simp) (st6 (fun K hK => ?_) AllReadyH.nil)
          cases rr with
          | false =>
            have HR4 : Hid (R = (pl, 12)) := by show _ = _; rw [HR3.out, HGE.out]; rfl
            go_simp
            refine (uneed_er 12 pl _).mono ?_
            rintro _ v2 ⟨rfl, rfl⟩
            go_wp2_with fail
            exact bodyPost_panic rfl ⟨CkE.er HR4.out (by omega) rfl, B4.out.drew⟩
          | true =>
            have HR4 : Hid (R = (0, 0)) := by show _ = _; rw [HR3.out, HGE.out]; rfl
            go_simp
            refine (uneed_ok 12 pl _).mono ?_
            rintro _ v2 ⟨rfl, rfl⟩
            go_wp2_with fail
            refine hK.out _ _ ?_ (fun hHeld => ?_)
            · exact ⟨z0, z1, z2, z3, g1⟩
            clear hK K
            try simp only [Act.put, List.setIfInBounds_toArray, List.set_cons_zero, List.set_cons_succ]
            refine wpAnyH_done (by kernel_rfl) ?_ _
            go_wp2_with fail
            go_end0
            exact ⟨CkE.ok (by rw [HR4.out]) rfl, B4.out.drew⟩
        · by_cases e6 : kd = 6
          · subst e6
            have HE : Hid (decide ((⟨vf, vm, va, vd⟩ : U) = uNum) = (!vf && (vm == 0 && (va == 0 && vd == 0)))) := by show _ = _; rw [Bool.eq_iff_iff]; simp [uNum]
            generalize hRR : decide ((⟨vf, vm, va, vd⟩ : U) = uNum) = rr at *
            have HGE : Hid (gE ⟨vf, vm, va, vd⟩ = if rr = true then 0 else 12) := by show _ = _; rw [HG3.out, ← hRR]; simp []
            clear hRR HG3
            go_wp2_with fail
            have hS : V4.drew.cell? ⟨ub, 0, none⟩ = some (.bool vf) ∧ V4.drew.cell? ⟨ub, 1, none⟩ = some (.int .i64 vm) ∧ V4.drew.cell? ⟨ub, 2, none⟩ = some (.int .i64 va) ∧ V4.drew.cell? ⟨ub, 3, none⟩ = some (.int .i64 vd) ∧ V4.drew.cell? ⟨w.heap.size + 1, 18, none⟩ = some (.int .i64 pl) := ⟨z0, z1, z2, z3, g1⟩
            refine wp_region_held (S := fun w' : World => w'.cell? ⟨ub, 0, none⟩ = some (.bool vf) ∧ w'.cell? ⟨ub, 1, none⟩ = some (.int .i64 vm) ∧ w'.cell? ⟨ub, 2, none⟩ = some (.int .i64 va) ∧ w'.cell? ⟨ub, 3, none⟩ = some (.int .i64 vd) ∧ w'.cell? ⟨w.heap.size + 1, 18, none⟩ = some (.int .i64 pl)) mixed ?_
            change wpAnyH _ _ _ _ _ _ _ _ V4.drew
            refine tk0 (v := ?_) (by kernel_rfl) (by kernel_rfl) (by kernel_rfl) (fun _ _ _ h => h) (Or.inl ⟨by rfl, ?_⟩) hS ?_
            rotate_left
            · (intro w hSw; (try dsimp only at hSw); go_simp; try with_reducible rfl)
            simp only [Act.put, List.setIfInBounds_toArray, List.set_cons_zero, List.set_cons_succ]
            refine tk1 (v := ?_) (by kernel_rfl) (by kernel_rfl) (by kernel_rfl) (fun _ _ _ h => h) (Or.inl ⟨by rfl, ?_⟩) hS ?_
            rotate_left
            · (intro w hSw; (try dsimp only at hSw); go_simp; try with_reducible rfl)
            simp only [Act.put, List.setIfInBounds_toArray, List.set_cons_zero, List.set_cons_succ]
            refine tk2 (v := .bool rr) (by kernel_rfl) (by kernel_rfl) (by kernel_rfl) (fun _ _ _ h => h) (Or.inl ⟨by rfl, (by intro w hSw; (try dsimp only at hSw); go_simp; exact eq_cmp HE.out w)⟩) hS ?_
            simp only [Act.put, List.setIfInBounds_toArray, List.set_cons_zero, List.set_cons_succ]
            refine tk3 (v := ?_) (by kernel_rfl) (by kernel_rfl) (by kernel_rfl) (fun _ _ _ h => h) (Or.inl ⟨by rfl, ?_⟩) hS ?_
            rotate_left
            · (intro w hSw; (try dsimp only at hSw); go_simp; try with_reducible rfl)
            simp only [Act.put, List.setIfInBounds_toArray, List.set_cons_zero, List.set_cons_succ]
            refine tk4 (v := ?_) (by kernel_rfl) (by kernel_rfl) (by kernel_rfl) (fun _ _ _ h => h) (Or.inl ⟨by rfl, ?_⟩) hS ?_
            rotate_left
            · (intro w hSw; (try dsimp only at hSw); go_simp; try with_reducible rfl)
            simp only [Act.put, List.setIfInBounds_toArray, List.set_cons_zero, List.set_cons_succ]
            refine tk5 (v := ?_) (by kernel_rfl) (by kernel_rfl) (by kernel_rfl) (fun _ _ _ h => h) (Or.inl ⟨by rfl, ?_⟩) hS ?_
            rotate_left
            · (intro w hSw; (try dsimp only at hSw); go_simp; try with_reducible rfl)
            simp only [Act.put, List.setIfInBounds_toArray, List.set_cons_zero, List.set_cons_succ]
            refine wpAnyH_ready (rs := [6]) (by kernel_rfl) (by simp) (st6 (fun K hK => ?_) AllReadyH.nil)
            cases rr with
            | false =>
              have HR4 : Hid (R = (pl, 12)) := by show _ = _; rw [HR3.out, HGE.out]; rfl
              go_simp
              refine (uneed_er 12 pl _).mono ?_
              rintro _ v2 ⟨rfl, rfl⟩
              go_wp2_with fail
              exact bodyPost_panic rfl ⟨CkE.er HR4.out (by omega) rfl, B4.out.drew⟩
            | true =>
              have HR4 : Hid (R = (0, 0)) := by show _ = _; rw [HR3.out, HGE.out]; rfl
              go_simp
              refine (uneed_ok 12 pl _).mono ?_
              rintro _ v2 ⟨rfl, rfl⟩
              go_wp2_with fail
              refine hK.out _ _ ?_ (fun hHeld => ?_)
              · exact ⟨z0, z1, z2, z3, g1⟩
              clear hK K
              try simp only [Act.put, List.setIfInBounds_toArray, List.set_cons_zero, List.set_cons_succ]
              refine wpAnyH_done (by kernel_rfl) ?_ _
              go_wp2_with fail
              go_end0
              exact ⟨CkE.ok (by rw [HR4.out]) rfl, B4.out.drew⟩
          · by_cases e7 : kd = 7
            · subst e7
              have HE : Hid (decide ((⟨vf, vm, va, vd⟩ : U) = uDays) = (!vf && (vm == 0 && (va == 0 && vd == 1)))) := by show _ = _; rw [Bool.eq_iff_iff]; simp [uDays]
              generalize hRR : decide ((⟨vf, vm, va, vd⟩ : U) = uDays) = rr at *
              have HGE : Hid (gE ⟨vf, vm, va, vd⟩ = if rr = true then 0 else 12) := by show _ = _; rw [HG3.out, ← hRR]; simp []
              clear hRR HG3
              go_wp2_with fail
              have hS : V4.drew.cell? ⟨ub, 0, none⟩ = some (.bool vf) ∧ V4.drew.cell? ⟨ub, 1, none⟩ = some (.int .i64 vm) ∧ V4.drew.cell? ⟨ub, 2, none⟩ = some (.int .i64 va) ∧ V4.drew.cell? ⟨ub, 3, none⟩ = some (.int .i64 vd) ∧ V4.drew.cell? ⟨w.heap.size + 1, 18, none⟩ = some (.int .i64 pl) := ⟨z0, z1, z2, z3, g1⟩
              refine wp_region_held (S := fun w' : World => w'.cell? ⟨ub, 0, none⟩ = some (.bool vf) ∧ w'.cell? ⟨ub, 1, none⟩ = some (.int .i64 vm) ∧ w'.cell? ⟨ub, 2, none⟩ = some (.int .i64 va) ∧ w'.cell? ⟨ub, 3, none⟩ = some (.int .i64 vd) ∧ w'.cell? ⟨w.heap.size + 1, 18, none⟩ = some (.int .i64 pl)) mixed ?_
              change wpAnyH _ _ _ _ _ _ _ _ V4.drew
              refine tk0 (v := ?_) (by kernel_rfl) (by kernel_rfl) (by kernel_rfl) (fun _ _ _ h => h) (Or.inl ⟨by rfl, ?_⟩) hS ?_
              rotate_left
              · (intro w hSw; (try dsimp only at hSw); go_simp; try with_reducible rfl)
              simp only [Act.put, List.setIfInBounds_toArray, List.set_cons_zero, List.set_cons_succ]
              refine tk1 (v := ?_) (by kernel_rfl) (by kernel_rfl) (by kernel_rfl) (fun _ _ _ h => h) (Or.inl ⟨by rfl, ?_⟩) hS ?_
              rotate_left
              · (intro w hSw; (try dsimp only at hSw); go_simp; try with_reducible rfl)
              simp only [Act.put, List.setIfInBounds_toArray, List.set_cons_zero, List.set_cons_succ]
              refine tk2 (v := .bool rr) (by kernel_rfl) (by kernel_rfl) (by kernel_rfl) (fun _ _ _ h => h) (Or.inl ⟨by rfl, (by intro w hSw; (try dsimp only at hSw); go_simp; exact eq_cmp HE.out w)⟩) hS ?_
              simp only [Act.put, List.setIfInBounds_toArray, List.set_cons_zero, List.set_cons_succ]
              refine tk3 (v := ?_) (by kernel_rfl) (by kernel_rfl) (by kernel_rfl) (fun _ _ _ h => h) (Or.inl ⟨by rfl, ?_⟩) hS ?_
              rotate_left
              · (intro w hSw; (try dsimp only at hSw); go_simp; try with_reducible rfl)
              simp only [Act.put, List.setIfInBounds_toArray, List.set_cons_zero, List.set_cons_succ]
              refine tk4 (v := ?_) (by kernel_rfl) (by kernel_rfl) (by kernel_rfl) (fun _ _ _ h => h) (Or.inl ⟨by rfl, ?_⟩) hS ?_
              rotate_left
              · (intro w hSw; (try dsimp only at hSw); go_simp; try with_reducible rfl)
              simp only [Act.put, List.setIfInBounds_toArray, List.set_cons_zero, List.set_cons_succ]
              refine tk5 (v := ?_) (by kernel_rfl) (by kernel_rfl) (by kernel_rfl) (fun _ _ _ h => h) (Or.inl ⟨by rfl, ?_⟩) hS ?_
              rotate_left
              · (intro w hSw; (try dsimp only at hSw); go_simp; try with_reducible rfl)
              simp only [Act.put, List.setIfInBounds_toArray, List.set_cons_zero, List.set_cons_succ]
              refine wpAnyH_ready (rs := [6]) (by kernel_rfl) (by simp) (st6 (fun K hK => ?_) AllReadyH.nil)
              cases rr with
              | false =>
                have HR4 : Hid (R = (pl, 12)) := by show _ = _; rw [HR3.out, HGE.out]; rfl
                go_simp
                refine (uneed_er 12 pl _).mono ?_
                rintro _ v2 ⟨rfl, rfl⟩
                go_wp2_with fail
                exact bodyPost_panic rfl ⟨CkE.er HR4.out (by omega) rfl, B4.out.drew⟩
              | true =>
                have HR4 : Hid (R = (0, 0)) := by show _ = _; rw [HR3.out, HGE.out]; rfl
                go_simp
                refine (uneed_ok 12 pl _).mono ?_
                rintro _ v2 ⟨rfl, rfl⟩
                go_wp2_with fail
                refine hK.out _ _ ?_ (fun hHeld => ?_)
                · exact ⟨z0, z1, z2, z3, g1⟩
                clear hK K
                try simp only [Act.put, List.setIfInBounds_toArray, List.set_cons_zero, List.set_cons_succ]
                refine wpAnyH_done (by kernel_rfl) ?_ _
                go_wp2_with fail
                go_end0
                exact ⟨CkE.ok (by rw [HR4.out]) rfl, B4.out.drew⟩
            · have b1 : (kd == 1) = false := by simpa using e1
              have b2 : (kd == 2) = false := by simpa using e2
              have b5 : (kd == 5) = false := by simpa using e5
              have b6 : (kd == 6) = false := by simpa using e6
              have b7 : (kd == 7) = false := by simpa using e7
              have HGE : Hid (gE ⟨vf, vm, va, vd⟩ = if inn = true then 0 else 13) := by show _ = _; rw [HG3.out, if_neg (by omega), if_neg (by omega), if_neg e7]
              clear HG3
              go_wp2_with fail
              have hS : V4.drew.cell? ⟨w.heap.size + 1, 17, none⟩ = some (.int .i64 op) ∧ V4.drew.cell? ⟨w.heap.size + 1, 18, none⟩ = some (.int .i64 pl) ∧ V4.drew.cell? ⟨w.heap.size + 1, 19, none⟩ = some (.string s) ∧ V4.drew.cell? ⟨w.heap.size + 1, 20, none⟩ = some (.int .i64 n0) ∧ V4.drew.cell? ⟨w.heap.size + 1, 21, none⟩ = some (.int .i64 d0) ∧ V4.drew.cell? ⟨w.heap.size + 1, 22, none⟩ = some (.bool uf) ∧ V4.drew.cell? ⟨w.heap.size + 1, 23, none⟩ = some (.int .i64 um) ∧ V4.drew.cell? ⟨w.heap.size + 1, 24, none⟩ = some (.int .i64 ua) ∧ V4.drew.cell? ⟨w.heap.size + 1, 25, none⟩ = some (.int .i64 ud) ∧ V4.drew.cell? ⟨w.heap.size + 1, 26, none⟩ = some (.slice q2 ks.length p2') := ⟨g0, g1, g2, g3, g4, g5, g6, g7, g8, g9⟩
              refine wp_region_held (S := fun w' : World => w'.cell? ⟨w.heap.size + 1, 17, none⟩ = some (.int .i64 op) ∧ w'.cell? ⟨w.heap.size + 1, 18, none⟩ = some (.int .i64 pl) ∧ w'.cell? ⟨w.heap.size + 1, 19, none⟩ = some (.string s) ∧ w'.cell? ⟨w.heap.size + 1, 20, none⟩ = some (.int .i64 n0) ∧ w'.cell? ⟨w.heap.size + 1, 21, none⟩ = some (.int .i64 d0) ∧ w'.cell? ⟨w.heap.size + 1, 22, none⟩ = some (.bool uf) ∧ w'.cell? ⟨w.heap.size + 1, 23, none⟩ = some (.int .i64 um) ∧ w'.cell? ⟨w.heap.size + 1, 24, none⟩ = some (.int .i64 ua) ∧ w'.cell? ⟨w.heap.size + 1, 25, none⟩ = some (.int .i64 ud) ∧ w'.cell? ⟨w.heap.size + 1, 26, none⟩ = some (.slice q2 ks.length p2')) mixed ?_
              change wpAnyH _ _ _ _ _ _ _ _ V4.drew
              refine tk0 (v := ?_) (by kernel_rfl) (by kernel_rfl) (by kernel_rfl) (fun _ _ _ h => h) (Or.inl ⟨by rfl, ?_⟩) hS ?_
              rotate_left
              · (intro w hSw; (try dsimp only at hSw); go_simp; try with_reducible rfl)
              simp only [Act.put, List.setIfInBounds_toArray, List.set_cons_zero, List.set_cons_succ]
              refine tk1 (v := ?_) (by kernel_rfl) (by kernel_rfl) (by kernel_rfl) (fun _ _ _ h => h) (Or.inl ⟨by rfl, ?_⟩) hS ?_
              rotate_left
              · (intro w hSw; (try dsimp only at hSw); go_simp; try with_reducible rfl)
              simp only [Act.put, List.setIfInBounds_toArray, List.set_cons_zero, List.set_cons_succ]
              refine tk3 (v := ?_) (by kernel_rfl) (by kernel_rfl) (by kernel_rfl) (fun _ _ _ h => h) (Or.inl ⟨by rfl, ?_⟩) hS ?_
              rotate_left
              · (intro w hSw; (try dsimp only at hSw); go_simp; try with_reducible rfl)
              simp only [Act.put, List.setIfInBounds_toArray, List.set_cons_zero, List.set_cons_succ]
              refine tk4 (v := ?_) (by kernel_rfl) (by kernel_rfl) (by kernel_rfl) (fun _ _ _ h => h) (Or.inl ⟨by rfl, ?_⟩) hS ?_
              rotate_left
              · (intro w hSw; (try dsimp only at hSw); go_simp; try with_reducible rfl)
              simp only [Act.put, List.setIfInBounds_toArray, List.set_cons_zero, List.set_cons_succ]
              refine tk5 (v := ?_) (by kernel_rfl) (by kernel_rfl) (by kernel_rfl) (fun _ _ _ h => h) (Or.inl ⟨by rfl, ?_⟩) hS ?_
              rotate_left
              · (intro w hSw; (try dsimp only at hSw); go_simp; try with_reducible rfl)
              simp only [Act.put, List.setIfInBounds_toArray, List.set_cons_zero, List.set_cons_succ]
              refine wpAnyH_ready (rs := [2]) (by kernel_rfl) (by simp) (st2 (fun K hK => ?_) AllReadyH.nil)
              go_simp
              refine (KN.out _).mono ?_
              rintro _ V5 ⟨rfl, hb⟩
              replace hb := (Below.refl V4.heap.size V4).drew.trans hb
              replace g0 := (hb.cell (World.block_lt_of_cell? _ _ g0)).trans g0
              replace g1 := (hb.cell (World.block_lt_of_cell? _ _ g1)).trans g1
              replace g2 := (hb.cell (World.block_lt_of_cell? _ _ g2)).trans g2
              replace g3 := (hb.cell (World.block_lt_of_cell? _ _ g3)).trans g3
              replace g4 := (hb.cell (World.block_lt_of_cell? _ _ g4)).trans g4
              replace g5 := (hb.cell (World.block_lt_of_cell? _ _ g5)).trans g5
              replace g6 := (hb.cell (World.block_lt_of_cell? _ _ g6)).trans g6
              replace g7 := (hb.cell (World.block_lt_of_cell? _ _ g7)).trans g7
              replace g8 := (hb.cell (World.block_lt_of_cell? _ _ g8)).trans g8
              replace g9 := (hb.cell (World.block_lt_of_cell? _ _ g9)).trans g9
              replace B4 := Lib.hid (B4.out.trans (hb.mono B4.out.size))
              clear hb
              go_wp2_with fail
              refine hK.out _ _ ?_ (fun hHeld => ?_)
              · exact ⟨g0, g1, g2, g3, g4, g5, g6, g7, g8, g9⟩
              clear hK K
              try simp only [Act.put, List.setIfInBounds_toArray, List.set_cons_zero, List.set_cons_succ]
              refine wpAnyH_ready (rs := [6]) (by kernel_rfl) (by simp) (st6 (fun K hK => ?_) AllReadyH.nil)
              cases inn with
              | false =>
                have HR4 : Hid (R = (pl, 13)) := by show _ = _; rw [HR3.out, HGE.out]; rfl
                go_simp
                refine (uneed_er 13 pl _).mono ?_
                rintro _ v2 ⟨rfl, rfl⟩
                go_wp2_with fail
                exact bodyPost_panic rfl ⟨CkE.er HR4.out (by omega) rfl, B4.out⟩
              | true =>
                have HR4 : Hid (R = (0, 0)) := by show _ = _; rw [HR3.out, HGE.out]; rfl
                go_simp
                refine (uneed_ok 13 pl _).mono ?_
                rintro _ v2 ⟨rfl, rfl⟩
                go_wp2_with fail
                refine hK.out _ _ ?_ (fun hHeld => ?_)
                · exact ⟨g0, g1, g2, g3, g4, g5, g6, g7, g8, g9⟩
                clear hK K
                try simp only [Act.put, List.setIfInBounds_toArray, List.set_cons_zero, List.set_cons_succ]
                refine wpAnyH_done (by kernel_rfl) ?_ _
                go_wp2_with fail
                go_end0
                exact ⟨CkE.ok (by rw [HR4.out]) rfl, B4.out⟩
end Go.Proofs.Ytjifiijgghpniaa
/-
  Contract of units: checkRule.
-/
namespace Go.Proofs.Ytjifiijgghpniaa
open Go.RowKit Un MapKept

/-- How things stand within checkRule. -/
structure CkS (w V : World) (m1 m2 : Nat) (l : List Value) : Prop where
  b0 : BoxL V w.heap.size [.map (some m1), .map (some m2)]
  b1 : BoxL V (w.heap.size + 1) l
  be : RowKit.Below w.heap.size w V
theorem CkS.bel {w V V' : World} {m1 m2 : Nat} {l : List Value} (hl : l.length = 28) (h : CkS w V m1 m2 l) (hB : RowKit.Below V.heap.size V V') : CkS w V' m1 m2 l :=
  ⟨h.b0.bel (by simp) hB, h.b1.bel (by omega) hB, h.be.trans (hB.mono h.be.size)⟩
theorem headR_eq (prev : List Ru) (r : Ru) : headR prev r = if timed r = false then 3 else if (prev.any fun v => v.ver == r.ver) = true then 5 else if ((hasAct r.kind != r.act.isEmpty) && !(prev.any fun v => v.kind != r.kind || !(v.act == r.act))) = false then 13 else if nextB prev r = false then 6 else 0 := by
  unfold headR nextB
  cases timed r with
  | false => rfl
  | true =>
    simp only [Bool.true_eq_false, if_false]
    split
    · rfl
    · cases ((hasAct r.kind != r.act.isEmpty) && !(prev.any fun v => v.kind != r.kind || !(v.act == r.act))) with
      | false => rfl
      | true =>
        simp only [if_true, Bool.true_eq_false, if_false]
        cases prev.getLast? with
        | none => by_cases h : r.ver = 1 <;> simp [h]
        | some v => by_cases h : v.ver = r.ver - 1 <;> by_cases h2 : v.known ≤ r.known <;> simp [h, h2]
/-- What is said of a rule behind its head. -/
def errM (gi : Int × Int) (wp pl : Int) (hd : Int) : Got → Int × Int
  | .er e p => if hd = 0 then (p, e) else (pl, hd)
  | .ok u => if hd = 0 then (if u.f = false then (wp, 12) else gi) else (pl, hd)
theorem errR_eq (fs : List (List UInt8 × U)) (prev : List Ru) (r : Ru) : errR fs prev r = errM (givR fs r) r.whn.pl r.pl (headR prev r) (fnd fs r.whn) := by
  unfold errR errM givR givM
  by_cases h : headR prev r = 0
  · rw [if_neg (by simpa using h)]
    cases fnd fs r.whn with
    | er e p => simp [h]
    | ok u => cases fnd fs r.giv <;> simp [h]
  · rw [if_pos h]
    cases fnd fs r.whn <;> simp [h]
theorem fld_u (vf : Bool) (vm va vd : Int) (w : World) : (Instr.field 29 (.agg #[.bool vf, .int .i64 vm, .int .i64 va, .int .i64 vd]) 0).run Try.prog w = .ok (.bool vf) w := by kernel_rfl
set_option maxRecDepth 100000 in
set_option maxHeartbeats 12000000 in
theorem ucheckRule_any (L : List Dc) (hf : formD L = true) (r : Ru) (g : Nat) (hw : wf vld g r.whn = true) (hw2 : wf vld g r.giv = true) (x y : Kd) (l : List Value) (hr : RuC r x y l) (A : Nat → Prop) (m1 m2 fb p1 p2 : Nat) (vs : List Ru) (rows : List (List Value)) (p : Option Addr) (b off c : Nat) (w : World) (hm : RuM w A r x y) (hs : ScR w L m1 m2 fb p1 p2) (hv : RsC w p b off vs rows) :
    Calls Try.prog 64 #[.agg #[.map (some m1), .map (some m2)], .agg l.toArray, .slice p vs.length c] w fun e w' => CkE (errR (Un.facts L) vs r) e ∧ RowKit.Below w.heap.size w w' := by
  have KT := Lib.hid (fun V => uisTimed_any r x y l hr V)
  have KW := Lib.hid (fun V (hV : RowKit.Below w.heap.size w V) => uisTwice_any r x y l hr vs rows p b off c V (hv.bel hV))
  have KA := Lib.hid (fun V (hV : RowKit.Below w.heap.size w V) => uisAbout_any r x y l hr vs rows p b off c V (hv.bel hV))
  have KN := Lib.hid (fun (ht : timed r = true) V (hV : RowKit.Below w.heap.size w V) => uisNext_any r x y l hr (by simp only [timed, Bool.and_eq_true, decide_eq_true_eq] at ht; omega) vs rows p b off c V (hv.bel hV))
  have KU := Lib.hid (fun V (hV : RowKit.Below w.heap.size w V) => uunit_any L (facts_good hf) (size r.whn) r.whn (Nat.le_refl _) g hw A x m1 m2 fb p1 p2 V (hm.1.bel hV) (hs.bel hV))
  have KG := Lib.hid (fun V (hV : RowKit.Below w.heap.size w V) => ucheckGive_any L hf r g hw2 x y l hr A m1 m2 fb p1 p2 V (hm.2.bel hV) (hs.bel hV))
  obtain ⟨R, hR⟩ : ∃ R, R = errR (Un.facts L) vs r := ⟨_, rfl⟩
  rw [← hR]
  have HH := Lib.hid (headR_eq vs r)
  have HR : Hid (R = errM (givR (Un.facts L) r) r.whn.pl r.pl (headR vs r) (fnd (Un.facts L) r.whn)) := hR.trans (errR_eq _ _ _)
  have HNE := Lib.hid (fun e p (h : fnd (Un.facts L) r.whn = .er e p) => fnd_ne r.whn e p h)
  obtain ⟨W1, hW1⟩ : ∃ W1, w.alloc (.cells #[.map (some m1), .map (some m2)] 72) = W1 := ⟨_, rfl⟩
  have a1 := (Below.refl w.heap.size w).alloc (Nat.le_refl _) (.cells #[.map (some m1), .map (some m2)] 72)
  have x1 : BoxL W1 w.heap.size [.map (some m1), .map (some m2)] := by rw [← hW1]; exact box_new _ _ rfl
  rw [hW1] at a1
  have s1 : W1.heap.size = w.heap.size + 1 := by rw [← hW1]; simp
  obtain ⟨W2, hW2⟩ : ∃ W2, W1.alloc (.cells l.toArray 58) = W2 := ⟨_, rfl⟩
  have a2 := (Below.refl W1.heap.size W1).alloc (Nat.le_refl _) (.cells l.toArray 58)
  have x2 : BoxL W2 (w.heap.size + 1) l := by rw [← hW2]; exact box_new _ _ s1
  rw [hW2] at a2
  have CS : Hid (CkS w W2 m1 m2 l) := ⟨x1.bel (by simp) a2, x2, a1.trans (a2.mono (by omega))⟩
  have hl := hr.len
  have f27 := hr.f27
  have HWH := Lib.hid hr.wh
  clear hR hm hs hw hw2 x1 x2 a1 a2 hv hf hr
  generalize headR vs r = hd at *
  generalize timed r = tm at *
  generalize (vs.any fun v => v.ver == r.ver) = tw at *
  generalize ((hasAct r.kind != r.act.isEmpty) && !(vs.any fun v => v.kind != r.kind || !(v.act == r.act))) = ab at *
  generalize nextB vs r = nx at *
  generalize givR (Un.facts L) r = gi at *
  generalize fnd (Un.facts L) r.whn = G at *
  generalize r.pl = pl at *
  generalize r.whn = t at *
  obtain ⟨op, wp, nm, n0, d0, ⟨uf, um, ua, ud⟩, ks⟩ := t
  obtain ⟨q1, c1⟩ := x
  simp only [nV, nC] at KU HWH
  have HR2 : Hid (R = errM gi wp pl hd G) := HR.out
  clear HR
  generalize bs nm = s at *
  go_enter Try.func64, Try.ntmps64
  obtain ⟨k27, -⟩ := CS.out.b1 27 _ f27
  go_wp2_with fail
  clear hW1 hW2 s1
  have hS : (Hid (BoxL W2.drew (w.heap.size + 1) l)) ∧ W2.drew.cell? ⟨w.heap.size + 1, 27, none⟩ = some (.int .i64 pl) := ⟨CS.out.b1, k27⟩
  refine wp_region_held (S := fun w' : World => (Hid (BoxL w' (w.heap.size + 1) l)) ∧ w'.cell? ⟨w.heap.size + 1, 27, none⟩ = some (.int .i64 pl)) mixed ?_
  change wpAnyH _ _ _ _ _ _ _ _ W2.drew
  refine tk0 (v := .agg l.toArray) (by kernel_rfl) (by kernel_rfl) (by kernel_rfl) (fun _ _ _ h => h) (Or.inl ⟨by rfl, (by intro w hSw; have h1 := hSw.1; exact ex_load rfl rfl (load_rule w _ 0 l hl (fun j v hv => by rw [Nat.zero_add]; exact (h1.out j v hv).1)))⟩) hS ?_
  simp only [Act.put, List.setIfInBounds_toArray, List.set_cons_zero, List.set_cons_succ]
  refine tk2 (v := ?_) (by kernel_rfl) (by kernel_rfl) (by kernel_rfl) (fun _ _ _ h => h) (Or.inl ⟨by rfl, ?_⟩) hS ?_
  rotate_left
  · (intro w hSw; (try dsimp only at hSw); go_simp; try with_reducible rfl)
  simp only [Act.put, List.setIfInBounds_toArray, List.set_cons_zero, List.set_cons_succ]
  refine tk3 (v := ?_) (by kernel_rfl) (by kernel_rfl) (by kernel_rfl) (fun _ _ _ h => h) (Or.inl ⟨by rfl, ?_⟩) hS ?_
  rotate_left
  · (intro w hSw; (try dsimp only at hSw); go_simp; try with_reducible rfl)
  simp only [Act.put, List.setIfInBounds_toArray, List.set_cons_zero, List.set_cons_succ]
  refine wpAnyH_ready (rs := [1]) (by kernel_rfl) (by simp) (st1 (fun K hK => ?_) AllReadyH.nil)
  go_simp
  refine (KT.out _).mono ?_
  rintro _ V1 ⟨rfl, hb⟩
  replace hb := (Below.refl W2.heap.size W2).drew.trans hb
  replace CS := Lib.hid (CS.out.bel hl hb)
  clear hb hS k27
  obtain ⟨k27, -⟩ := CS.out.b1 27 _ f27
  go_wp2_with fail
  refine hK.out _ _ ?_ (fun hHeld => ?_)
  · exact ⟨CS.out.b1, k27⟩
  clear hK K
  try simp only [Act.put, List.setIfInBounds_toArray, List.set_cons_zero, List.set_cons_succ]
  refine wpAnyH_ready (rs := [4]) (by kernel_rfl) (by simp) (st4 (fun K hK => ?_) AllReadyH.nil)
  cases tm with
  | false =>
    have hhd : hd = 3 := by rw [HH.out]; rfl
    have HR4 : Hid (R = (pl, 3)) := by show _ = _; rw [HR2.out, hhd]; cases G <;> rfl
    clear hhd
    go_simp
    refine (uneed_er 3 pl _).mono ?_
    rintro _ v2 ⟨rfl, rfl⟩
    go_wp2_with fail
    exact bodyPost_panic rfl ⟨CkE.er HR4.out (by omega) rfl, CS.out.be⟩
  | true =>
    go_simp
    refine (uneed_ok 3 pl _).mono ?_
    rintro _ v2 ⟨rfl, hw2⟩
    rw [hw2]
    clear hw2 v2
    go_wp2_with fail
    refine hK.out _ _ ?_ (fun hHeld => ?_)
    · exact ⟨CS.out.b1, k27⟩
    clear hK K
    try simp only [Act.put, List.setIfInBounds_toArray, List.set_cons_zero, List.set_cons_succ]
    refine wpAnyH_done (by kernel_rfl) ?_ _
    clear hHeld k27
    replace KN := Lib.hid (KN.out (by first | rfl | trivial))
    obtain ⟨k27, -⟩ := CS.out.b1 27 _ f27
    go_wp2_with fail
    have hS : (Hid (BoxL V1.drew (w.heap.size + 1) l)) ∧ V1.drew.cell? ⟨w.heap.size + 1, 27, none⟩ = some (.int .i64 pl) := ⟨CS.out.b1, k27⟩
    refine wp_region_held (S := fun w' : World => (Hid (BoxL w' (w.heap.size + 1) l)) ∧ w'.cell? ⟨w.heap.size + 1, 27, none⟩ = some (.int .i64 pl)) mixed ?_
    change wpAnyH _ _ _ _ _ _ _ _ V1.drew
    refine tk0 (v := .agg l.toArray) (by kernel_rfl) (by kernel_rfl) (by kernel_rfl) (fun _ _ _ h => h) (Or.inl ⟨by rfl, (by intro w hSw; have h1 := hSw.1; exact ex_load rfl rfl (load_rule w _ 0 l hl (fun j v hv => by rw [Nat.zero_add]; exact (h1.out j v hv).1)))⟩) hS ?_
    simp only [Act.put, List.setIfInBounds_toArray, List.set_cons_zero, List.set_cons_succ]
    refine tk1 (v := ?_) (by kernel_rfl) (by kernel_rfl) (by kernel_rfl) (fun _ _ _ h => h) (Or.inl ⟨by rfl, ?_⟩) hS ?_
    rotate_left
    · (intro w hSw; (try dsimp only at hSw); go_simp; try with_reducible rfl)
    simp only [Act.put, List.setIfInBounds_toArray, List.set_cons_zero, List.set_cons_succ]
    refine tk4 (v := ?_) (by kernel_rfl) (by kernel_rfl) (by kernel_rfl) (fun _ _ _ h => h) (Or.inl ⟨by rfl, ?_⟩) hS ?_
    rotate_left
    · (intro w hSw; (try dsimp only at hSw); go_simp; try with_reducible rfl)
    simp only [Act.put, List.setIfInBounds_toArray, List.set_cons_zero, List.set_cons_succ]
    refine tk5 (v := ?_) (by kernel_rfl) (by kernel_rfl) (by kernel_rfl) (fun _ _ _ h => h) (Or.inl ⟨by rfl, ?_⟩) hS ?_
    rotate_left
    · (intro w hSw; (try dsimp only at hSw); go_simp; try with_reducible rfl)
    simp only [Act.put, List.setIfInBounds_toArray, List.set_cons_zero, List.set_cons_succ]
    refine wpAnyH_ready (rs := [2]) (by kernel_rfl) (by simp) (st2 (fun K hK => ?_) AllReadyH.nil)
    go_simp
    refine (KW.out _ CS.out.be.drew).mono ?_
    rintro _ V2 ⟨rfl, hb⟩
    replace hb := (Below.refl V1.heap.size V1).drew.trans hb
    replace CS := Lib.hid (CS.out.bel hl hb)
    clear hb hS k27
    obtain ⟨k27, -⟩ := CS.out.b1 27 _ f27
    go_wp2_with fail
    refine hK.out _ _ ?_ (fun hHeld => ?_)
    · exact ⟨CS.out.b1, k27⟩
    clear hK K
    try simp only [Act.put, List.setIfInBounds_toArray, List.set_cons_zero, List.set_cons_succ]
    refine tk3 (v := ?_) (by kernel_rfl) (by kernel_rfl) (by kernel_rfl) (fun _ _ _ h => h) (Or.inl ⟨by rfl, ?_⟩) hHeld ?_
    rotate_left
    · (intro w hSw; (try dsimp only at hSw); go_simp; try with_reducible rfl)
    simp only [Act.put, List.setIfInBounds_toArray, List.set_cons_zero, List.set_cons_succ]
    refine wpAnyH_ready (rs := [6]) (by kernel_rfl) (by simp) (st6 (fun K hK => ?_) AllReadyH.nil)
    cases tw with
    | true =>
      have hhd : hd = 5 := by rw [HH.out]; rfl
      have HR4 : Hid (R = (pl, 5)) := by show _ = _; rw [HR2.out, hhd]; cases G <;> rfl
      clear hhd
      go_simp
      refine (uneed_er 5 pl _).mono ?_
      rintro _ v2 ⟨rfl, rfl⟩
      go_wp2_with fail
      exact bodyPost_panic rfl ⟨CkE.er HR4.out (by omega) rfl, CS.out.be⟩
    | false =>
      go_simp
      refine (uneed_ok 5 pl _).mono ?_
      rintro _ v2 ⟨rfl, hw2⟩
      rw [hw2]
      clear hw2 v2
      go_wp2_with fail
      refine hK.out _ _ ?_ (fun hHeld => ?_)
      · exact ⟨CS.out.b1, k27⟩
      clear hK K
      try simp only [Act.put, List.setIfInBounds_toArray, List.set_cons_zero, List.set_cons_succ]
      refine wpAnyH_done (by kernel_rfl) ?_ _
      clear hHeld k27
      obtain ⟨k27, -⟩ := CS.out.b1 27 _ f27
      go_wp2_with fail
      have hS : (Hid (BoxL V2.drew (w.heap.size + 1) l)) ∧ V2.drew.cell? ⟨w.heap.size + 1, 27, none⟩ = some (.int .i64 pl) := ⟨CS.out.b1, k27⟩
      refine wp_region_held (S := fun w' : World => (Hid (BoxL w' (w.heap.size + 1) l)) ∧ w'.cell? ⟨w.heap.size + 1, 27, none⟩ = some (.int .i64 pl)) mixed ?_
      change wpAnyH _ _ _ _ _ _ _ _ V2.drew
      refine tk0 (v := .agg l.toArray) (by kernel_rfl) (by kernel_rfl) (by kernel_rfl) (fun _ _ _ h => h) (Or.inl ⟨by rfl, (by intro w hSw; have h1 := hSw.1; exact ex_load rfl rfl (load_rule w _ 0 l hl (fun j v hv => by rw [Nat.zero_add]; exact (h1.out j v hv).1)))⟩) hS ?_
      simp only [Act.put, List.setIfInBounds_toArray, List.set_cons_zero, List.set_cons_succ]
      refine tk1 (v := ?_) (by kernel_rfl) (by kernel_rfl) (by kernel_rfl) (fun _ _ _ h => h) (Or.inl ⟨by rfl, ?_⟩) hS ?_
      rotate_left
      · (intro w hSw; (try dsimp only at hSw); go_simp; try with_reducible rfl)
      simp only [Act.put, List.setIfInBounds_toArray, List.set_cons_zero, List.set_cons_succ]
      refine tk3 (v := ?_) (by kernel_rfl) (by kernel_rfl) (by kernel_rfl) (fun _ _ _ h => h) (Or.inl ⟨by rfl, ?_⟩) hS ?_
      rotate_left
      · (intro w hSw; (try dsimp only at hSw); go_simp; try with_reducible rfl)
      simp only [Act.put, List.setIfInBounds_toArray, List.set_cons_zero, List.set_cons_succ]
      refine tk4 (v := ?_) (by kernel_rfl) (by kernel_rfl) (by kernel_rfl) (fun _ _ _ h => h) (Or.inl ⟨by rfl, ?_⟩) hS ?_
      rotate_left
      · (intro w hSw; (try dsimp only at hSw); go_simp; try with_reducible rfl)
      simp only [Act.put, List.setIfInBounds_toArray, List.set_cons_zero, List.set_cons_succ]
      refine wpAnyH_ready (rs := [2]) (by kernel_rfl) (by simp) (st2 (fun K hK => ?_) AllReadyH.nil)
      go_simp
      refine (KA.out _ CS.out.be.drew).mono ?_
      rintro _ V3 ⟨rfl, hb⟩
      replace hb := (Below.refl V2.heap.size V2).drew.trans hb
      replace CS := Lib.hid (CS.out.bel hl hb)
      clear hb hS k27
      obtain ⟨k27, -⟩ := CS.out.b1 27 _ f27
      go_wp2_with fail
      refine hK.out _ _ ?_ (fun hHeld => ?_)
      · exact ⟨CS.out.b1, k27⟩
      clear hK K
      try simp only [Act.put, List.setIfInBounds_toArray, List.set_cons_zero, List.set_cons_succ]
      refine wpAnyH_ready (rs := [5]) (by kernel_rfl) (by simp) (st5 (fun K hK => ?_) AllReadyH.nil)
      cases ab with
      | false =>
        have hhd : hd = 13 := by rw [HH.out]; rfl
        have HR4 : Hid (R = (pl, 13)) := by show _ = _; rw [HR2.out, hhd]; cases G <;> rfl
        clear hhd
        go_simp
        refine (uneed_er 13 pl _).mono ?_
        rintro _ v2 ⟨rfl, rfl⟩
        go_wp2_with fail
        exact bodyPost_panic rfl ⟨CkE.er HR4.out (by omega) rfl, CS.out.be⟩
      | true =>
        go_simp
        refine (uneed_ok 13 pl _).mono ?_
        rintro _ v2 ⟨rfl, hw2⟩
        rw [hw2]
        clear hw2 v2
        go_wp2_with fail
        refine hK.out _ _ ?_ (fun hHeld => ?_)
        · exact ⟨CS.out.b1, k27⟩
        clear hK K
        try simp only [Act.put, List.setIfInBounds_toArray, List.set_cons_zero, List.set_cons_succ]
        refine wpAnyH_done (by kernel_rfl) ?_ _
        clear hHeld k27
        obtain ⟨k27, -⟩ := CS.out.b1 27 _ f27
        go_wp2_with fail
        have hS : (Hid (BoxL V3.drew (w.heap.size + 1) l)) ∧ V3.drew.cell? ⟨w.heap.size + 1, 27, none⟩ = some (.int .i64 pl) := ⟨CS.out.b1, k27⟩
        refine wp_region_held (S := fun w' : World => (Hid (BoxL w' (w.heap.size + 1) l)) ∧ w'.cell? ⟨w.heap.size + 1, 27, none⟩ = some (.int .i64 pl)) mixed ?_
        change wpAnyH _ _ _ _ _ _ _ _ V3.drew
        refine tk0 (v := .agg l.toArray) (by kernel_rfl) (by kernel_rfl) (by kernel_rfl) (fun _ _ _ h => h) (Or.inl ⟨by rfl, (by intro w hSw; have h1 := hSw.1; exact ex_load rfl rfl (load_rule w _ 0 l hl (fun j v hv => by rw [Nat.zero_add]; exact (h1.out j v hv).1)))⟩) hS ?_
        simp only [Act.put, List.setIfInBounds_toArray, List.set_cons_zero, List.set_cons_succ]
        refine tk1 (v := ?_) (by kernel_rfl) (by kernel_rfl) (by kernel_rfl) (fun _ _ _ h => h) (Or.inl ⟨by rfl, ?_⟩) hS ?_
        rotate_left
        · (intro w hSw; (try dsimp only at hSw); go_simp; try with_reducible rfl)
        simp only [Act.put, List.setIfInBounds_toArray, List.set_cons_zero, List.set_cons_succ]
        refine tk3 (v := ?_) (by kernel_rfl) (by kernel_rfl) (by kernel_rfl) (fun _ _ _ h => h) (Or.inl ⟨by rfl, ?_⟩) hS ?_
        rotate_left
        · (intro w hSw; (try dsimp only at hSw); go_simp; try with_reducible rfl)
        simp only [Act.put, List.setIfInBounds_toArray, List.set_cons_zero, List.set_cons_succ]
        refine tk4 (v := ?_) (by kernel_rfl) (by kernel_rfl) (by kernel_rfl) (fun _ _ _ h => h) (Or.inl ⟨by rfl, ?_⟩) hS ?_
        rotate_left
        · (intro w hSw; (try dsimp only at hSw); go_simp; try with_reducible rfl)
        simp only [Act.put, List.setIfInBounds_toArray, List.set_cons_zero, List.set_cons_succ]
        refine wpAnyH_ready (rs := [2]) (by kernel_rfl) (by simp) (st2 (fun K hK => ?_) AllReadyH.nil)
        go_simp
        refine (KN.out _ CS.out.be.drew).mono ?_
        rintro _ V4 ⟨rfl, hb⟩
        replace hb := (Below.refl V3.heap.size V3).drew.trans hb
        replace CS := Lib.hid (CS.out.bel hl hb)
        clear hb hS k27
        obtain ⟨k27, -⟩ := CS.out.b1 27 _ f27
        go_wp2_with fail
        refine hK.out _ _ ?_ (fun hHeld => ?_)
        · exact ⟨CS.out.b1, k27⟩
        clear hK K
        try simp only [Act.put, List.setIfInBounds_toArray, List.set_cons_zero, List.set_cons_succ]
        refine wpAnyH_ready (rs := [5]) (by kernel_rfl) (by simp) (st5 (fun K hK => ?_) AllReadyH.nil)
        cases nx with
        | false =>
          have hhd : hd = 6 := by rw [HH.out]; rfl
          have HR4 : Hid (R = (pl, 6)) := by show _ = _; rw [HR2.out, hhd]; cases G <;> rfl
          clear hhd
          go_simp
          refine (uneed_er 6 pl _).mono ?_
          rintro _ v2 ⟨rfl, rfl⟩
          go_wp2_with fail
          exact bodyPost_panic rfl ⟨CkE.er HR4.out (by omega) rfl, CS.out.be⟩
        | true =>
          go_simp
          refine (uneed_ok 6 pl _).mono ?_
          rintro _ v2 ⟨rfl, hw2⟩
          rw [hw2]
          clear hw2 v2
          go_wp2_with fail
          refine hK.out _ _ ?_ (fun hHeld => ?_)
          · exact ⟨CS.out.b1, k27⟩
          clear hK K
          try simp only [Act.put, List.setIfInBounds_toArray, List.set_cons_zero, List.set_cons_succ]
          refine wpAnyH_done (by kernel_rfl) ?_ _
          clear hHeld k27
          have hd0 : Hid (hd = 0) := by show _ = _; rw [HH.out]; rfl
          rw [hd0.out] at HR2
          obtain ⟨m0, -⟩ := CS.out.b0 0 _ rfl
          obtain ⟨m3, -⟩ := CS.out.b0 1 _ rfl
          have hwc : ∀ (j : Nat) (v : Value), ([.int .i64 op, .int .i64 wp, .string s, .int .i64 n0, .int .i64 d0, .bool uf, .int .i64 um, .int .i64 ua, .int .i64 ud, .slice q1 ks.length c1])[j]? = some v → V4.cell? ⟨w.heap.size + 1, 7 + j, none⟩ = some v := fun j v hv => (CS.out.b1 (7 + j) v (HWH.out j v hv)).1
          have w0 := hwc 0 _ rfl
          have w1 := hwc 1 _ rfl
          have w2 := hwc 2 _ rfl
          have w3 := hwc 3 _ rfl
          have w4 := hwc 4 _ rfl
          have w5 := hwc 5 _ rfl
          have w6 := hwc 6 _ rfl
          have w7 := hwc 7 _ rfl
          have w8 := hwc 8 _ rfl
          have w9 := hwc 9 _ rfl
          simp only [Nat.add_zero, Nat.reduceAdd] at w0 w1 w2 w3 w4 w5 w6 w7 w8 w9
          clear hwc
          go_wp2_with fail
          have hS : V4.drew.cell? ⟨w.heap.size, 0, none⟩ = some (.map (some m1)) ∧ V4.drew.cell? ⟨w.heap.size, 1, none⟩ = some (.map (some m2)) ∧ V4.drew.cell? ⟨w.heap.size + 1, 7, none⟩ = some (.int .i64 op) ∧ V4.drew.cell? ⟨w.heap.size + 1, 8, none⟩ = some (.int .i64 wp) ∧ V4.drew.cell? ⟨w.heap.size + 1, 9, none⟩ = some (.string s) ∧ V4.drew.cell? ⟨w.heap.size + 1, 10, none⟩ = some (.int .i64 n0) ∧ V4.drew.cell? ⟨w.heap.size + 1, 11, none⟩ = some (.int .i64 d0) ∧ V4.drew.cell? ⟨w.heap.size + 1, 12, none⟩ = some (.bool uf) ∧ V4.drew.cell? ⟨w.heap.size + 1, 13, none⟩ = some (.int .i64 um) ∧ V4.drew.cell? ⟨w.heap.size + 1, 14, none⟩ = some (.int .i64 ua) ∧ V4.drew.cell? ⟨w.heap.size + 1, 15, none⟩ = some (.int .i64 ud) ∧ V4.drew.cell? ⟨w.heap.size + 1, 16, none⟩ = some (.slice q1 ks.length c1) := ⟨m0, m3, w0, w1, w2, w3, w4, w5, w6, w7, w8, w9⟩
          refine wp_region_held (S := fun w' : World => w'.cell? ⟨w.heap.size, 0, none⟩ = some (.map (some m1)) ∧ w'.cell? ⟨w.heap.size, 1, none⟩ = some (.map (some m2)) ∧ w'.cell? ⟨w.heap.size + 1, 7, none⟩ = some (.int .i64 op) ∧ w'.cell? ⟨w.heap.size + 1, 8, none⟩ = some (.int .i64 wp) ∧ w'.cell? ⟨w.heap.size + 1, 9, none⟩ = some (.string s) ∧ w'.cell? ⟨w.heap.size + 1, 10, none⟩ = some (.int .i64 n0) ∧ w'.cell? ⟨w.heap.size + 1, 11, none⟩ = some (.int .i64 d0) ∧ w'.cell? ⟨w.heap.size + 1, 12, none⟩ = some (.bool uf) ∧ w'.cell? ⟨w.heap.size + 1, 13, none⟩ = some (.int .i64 um) ∧ w'.cell? ⟨w.heap.size + 1, 14, none⟩ = some (.int .i64 ua) ∧ w'.cell? ⟨w.heap.size + 1, 15, none⟩ = some (.int .i64 ud) ∧ w'.cell? ⟨w.heap.size + 1, 16, none⟩ = some (.slice q1 ks.length c1)) mixed ?_
          change wpAnyH _ _ _ _ _ _ _ _ V4.drew
          refine tk0 (v := ?_) (by kernel_rfl) (by kernel_rfl) (by kernel_rfl) (fun _ _ _ h => h) (Or.inl ⟨by rfl, ?_⟩) hS ?_
          rotate_left
          · (intro w hSw; (try dsimp only at hSw); go_simp; try with_reducible rfl)
          simp only [Act.put, List.setIfInBounds_toArray, List.set_cons_zero, List.set_cons_succ]
          refine tk1 (v := ?_) (by kernel_rfl) (by kernel_rfl) (by kernel_rfl) (fun _ _ _ h => h) (Or.inl ⟨by rfl, ?_⟩) hS ?_
          rotate_left
          · (intro w hSw; (try dsimp only at hSw); go_simp; try with_reducible rfl)
          simp only [Act.put, List.setIfInBounds_toArray, List.set_cons_zero, List.set_cons_succ]
          refine tk2 (v := ?_) (by kernel_rfl) (by kernel_rfl) (by kernel_rfl) (fun _ _ _ h => h) (Or.inl ⟨by rfl, ?_⟩) hS ?_
          rotate_left
          · (intro w hSw; (try dsimp only at hSw); go_simp; try with_reducible rfl)
          simp only [Act.put, List.setIfInBounds_toArray, List.set_cons_zero, List.set_cons_succ]
          refine tk5 (v := ?_) (by kernel_rfl) (by kernel_rfl) (by kernel_rfl) (fun _ _ _ h => h) (Or.inl ⟨by rfl, ?_⟩) hS ?_
          rotate_left
          · (intro w hSw; (try dsimp only at hSw); go_simp; try with_reducible rfl)
          simp only [Act.put, List.setIfInBounds_toArray, List.set_cons_zero, List.set_cons_succ]
          refine tk6 (v := ?_) (by kernel_rfl) (by kernel_rfl) (by kernel_rfl) (fun _ _ _ h => h) (Or.inl ⟨by rfl, ?_⟩) hS ?_
          rotate_left
          · (intro w hSw; (try dsimp only at hSw); go_simp; try with_reducible rfl)
          simp only [Act.put, List.setIfInBounds_toArray, List.set_cons_zero, List.set_cons_succ]
          refine tk7 (v := ?_) (by kernel_rfl) (by kernel_rfl) (by kernel_rfl) (fun _ _ _ h => h) (Or.inl ⟨by rfl, ?_⟩) hS ?_
          rotate_left
          · (intro w hSw; (try dsimp only at hSw); go_simp; try with_reducible rfl)
          simp only [Act.put, List.setIfInBounds_toArray, List.set_cons_zero, List.set_cons_succ]
          refine wpAnyH_ready (rs := [3]) (by kernel_rfl) (by simp) (st3 (fun K hK => ?_) AllReadyH.nil)
          go_simp
          refine (KU.out _ CS.out.be.drew).mono ?_
          rintro e V5 ⟨hG, hb⟩
          replace hb := (Below.refl V4.heap.size V4).drew.trans hb
          replace CS := Lib.hid (CS.out.bel hl hb)
          clear hb hS m0 m3 w0 w1 w2 w3 w4 w5 w6 w7 w8 w9
          cases G with
          | er E q =>
            have he : e = .panicked (failU E q) := hG
            subst he
            have hE : E ≠ 0 := by rcases HNE.out E q rfl with h | h <;> omega
            have HR4 : Hid (R = (q, E)) := HR2.out
            go_wp2_with fail
            exact bodyPost_panic rfl ⟨CkE.er HR4.out hE rfl, CS.out.be⟩
          | ok u =>
            obtain ⟨vf, vm, va, vd⟩ := u
            have he : e = .returned (uV ⟨vf, vm, va, vd⟩) := hG
            simp only [uV, uC] at he
            subst he
            obtain ⟨m0, -⟩ := CS.out.b0 0 _ rfl
            obtain ⟨m3, -⟩ := CS.out.b0 1 _ rfl
            have hwc : ∀ (j : Nat) (v : Value), ([.int .i64 op, .int .i64 wp, .string s, .int .i64 n0, .int .i64 d0, .bool uf, .int .i64 um, .int .i64 ua, .int .i64 ud, .slice q1 ks.length c1])[j]? = some v → V5.cell? ⟨w.heap.size + 1, 7 + j, none⟩ = some v := fun j v hv => (CS.out.b1 (7 + j) v (HWH.out j v hv)).1
            have w0 := hwc 0 _ rfl
            have w1 := hwc 1 _ rfl
            have w2 := hwc 2 _ rfl
            have w3 := hwc 3 _ rfl
            have w4 := hwc 4 _ rfl
            have w5 := hwc 5 _ rfl
            have w6 := hwc 6 _ rfl
            have w7 := hwc 7 _ rfl
            have w8 := hwc 8 _ rfl
            have w9 := hwc 9 _ rfl
            simp only [Nat.add_zero, Nat.reduceAdd] at w0 w1 w2 w3 w4 w5 w6 w7 w8 w9
            clear hwc
            have HR3 : Hid (R = if vf = false then (wp, 12) else gi) := HR2.out
            go_wp2_with fail
            refine hK.out _ _ ?_ (fun hHeld => ?_)
            · exact ⟨m0, m3, w0, w1, w2, w3, w4, w5, w6, w7, w8, w9⟩
            clear hK K
            try simp only [Act.put, List.setIfInBounds_toArray, List.set_cons_zero, List.set_cons_succ]
            refine tk4 (v := .bool vf) (by kernel_rfl) (by kernel_rfl) (by kernel_rfl) (fun _ _ _ h => h) (Or.inl ⟨by rfl, (by intro w hSw; (try dsimp only at hSw); go_simp; rw [fld_u]; rfl)⟩) hHeld ?_
            simp only [Act.put, List.setIfInBounds_toArray, List.set_cons_zero, List.set_cons_succ]
            refine wpAnyH_ready (rs := [8]) (by kernel_rfl) (by simp) (st8 (fun K hK => ?_) AllReadyH.nil)
            cases vf with
            | false =>
              have HR4 : Hid (R = (wp, 12)) := by show _ = _; rw [HR3.out, if_pos rfl]
              go_simp
              refine (uneed_er 12 wp _).mono ?_
              rintro _ v2 ⟨rfl, rfl⟩
              go_wp2_with fail
              exact bodyPost_panic rfl ⟨CkE.er HR4.out (by omega) rfl, CS.out.be⟩
            | true =>
              have HR4 : Hid (R = gi) := by show _ = _; rw [HR3.out, if_neg (by simp)]
              go_simp
              refine (uneed_ok 12 wp _).mono ?_
              rintro _ v2 ⟨rfl, hw2⟩
              rw [hw2]
              clear hw2 v2
              go_wp2_with fail
              refine hK.out _ _ ?_ (fun hHeld => ?_)
              · exact ⟨m0, m3, w0, w1, w2, w3, w4, w5, w6, w7, w8, w9⟩
              clear hK K
              try simp only [Act.put, List.setIfInBounds_toArray, List.set_cons_zero, List.set_cons_succ]
              refine wpAnyH_done (by kernel_rfl) ?_ _
              clear hHeld w0 w1 w2 w3 w4 w5 w6 w7 w8 w9
              have hld := load_rule V5 (w.heap.size + 1) 0 l hl (fun j v hv => by rw [Nat.zero_add]; exact (CS.out.b1 j v hv).1)
              go_wp2_with ((with_reducible show wpList _ _ _ ({ dst := some 40, op := _, type := _, pos := _, after := _, guard := _ } :: _) _ _); refine wl_loadP rfl rfl rfl hld ?_)
              refine (KG.out _ CS.out.be).mono ?_
              rintro e V6 ⟨hC, hb⟩
              have B6 := Lib.hid (CS.out.be.trans (hb.mono CS.out.be.size))
              clear hb hld
              rw [← HR4.out] at hC
              unfold CkE at hC
              by_cases h0 : R.2 = 0
              · rw [if_pos h0] at hC
                subst hC
                have HQ : Hid (CkE R (.returned (.tuple #[]))) := CkE.ok h0 rfl
                clear h0
                go_wp2_with fail
                go_end0
                exact ⟨HQ.out, B6.out⟩
              · rw [if_neg h0] at hC
                subst hC
                have HQ : Hid (CkE R (.panicked (failU R.2 R.1))) := CkE.er (r := R) rfl h0 rfl
                clear h0
                go_wp2_with fail
                exact bodyPost_panic rfl ⟨HQ.out, B6.out⟩
end Go.Proofs.Ytjifiijgghpniaa
/-
  The map of earlier rules: slices of the call's own, by name.
-/
namespace Go.Proofs.Ytjifiijgghpniaa
open Go.RowKit Un MapKept

def named (pre : List Ru) (s : List UInt8) : List Ru := pre.filter fun v => v.nm == s
theorem named_snoc (pre : List Ru) (r : Ru) (s : List UInt8) : named (pre ++ [r]) s = if r.nm = s then named pre s ++ [r] else named pre s := by
  unfold named
  rw [List.filter_append]
  by_cases h : r.nm = s
  · simp [h]
  · have : (r.nm == s) = false := by simpa using h
    simp [h]
theorem before_eq (pre : List Ru) (r : Ru) : before pre r = named pre r.nm := rfl
/-- Rows of a slice of the call's own are a slice of rows. -/
theorem flat_get (n : Nat) : ∀ (rows : List (List Value)) (_ : ∀ l ∈ rows, l.length = n) (i : Nat) (h : i < rows.length) (j : Nat) (v : Value), rows[i][j]? = some v → rows.flatten[i * n + j]? = some v
  | [], _, i, h, _, _, _ => absurd h (Nat.not_lt_zero _)
  | r :: rows, hl, i, h, j, v, hv => by
    have hr := hl r (by simp)
    cases i with
    | zero =>
      have hj := (List.getElem?_eq_some_iff.1 hv).1
      simp only [List.getElem_cons_zero] at hj hv
      rw [List.flatten_cons, List.getElem?_append_left (by omega)]
      simpa using hv
    | succ i =>
      rw [List.flatten_cons, List.getElem?_append_right (by rw [hr, Nat.succ_mul]; omega), hr]
      have := flat_get n rows (fun l hl' => hl l (by simp [hl'])) i (by simpa using h) j v (by simpa using hv)
      rwa [show (i + 1) * n + j - n = i * n + j by rw [Nat.succ_mul]; omega]
theorem own_slr {w : World} {base E n : Nat} {v : Value} {rows : List (List Value)} (h : w.ownsRow base E n v rows.length rows.flatten) (hl : ∀ l ∈ rows, l.length = n) : ∃ p b cap, v = .slice p rows.length cap ∧ SlR w p b 0 rows.length n rows := by
  rcases h.2 with ⟨h1, h2⟩ | ⟨g, cap, cur, h1, h2, h3, h4, h5, h6, h7⟩
  · have : rows = [] := List.length_eq_zero_iff.1 h2
    subst this
    exact ⟨none, 0, 0, h1, SlR.nil _ _ _ _ _⟩
  · refine ⟨some ⟨g, 0, none⟩, g, cap, h1, rfl, fun _ => rfl, fun i r hr => ?_, fun _ => (Array.getElem?_eq_some_iff.1 h3).1, by unfold maxLen at h5; omega⟩
    obtain ⟨hi, rfl⟩ := List.getElem?_eq_some_iff.1 hr
    refine ⟨hl _ (List.getElem_mem hi), fun j u hu => ?_⟩
    have := flat_get n rows hl i hi j u hu
    rw [← h7, List.getElem?_take] at this
    split at this
    · rw [Nat.zero_add]
      simp only [World.cell?, h3]
      simpa using this
    · cases this
/-- The map of earlier rules. -/
structure ErM (w : World) (base mb : Nat) (vd : Value) (pre : List Ru) (f : List UInt8 → Option Value) : Prop where
  mp : MapF kS .string w mb f
  own : ∀ s v, f s = some v → ∃ rows : List (List Value), rows.length = (named pre s).length ∧ w.ownsRow base 58 28 v rows.length rows.flatten ∧ (∀ l ∈ rows, l.length = 28) ∧ ∀ (i : Nat) (h : i < (named pre s).length) (h' : i < rows.length), ∃ x y, RuC (named pre s)[i] x y rows[i]
  no : ∀ s, f s = none → named pre s = []
  dj : ∀ s s' v v' j, s ≠ s' → f s = some v → f s' = some v' → v.ownBlock = some j → v'.ownBlock ≠ some j
  dd : ∀ s v j, f s = some v → v.ownBlock = some j → vd.ownBlock ≠ some j
  mbl : mb < base
theorem ErM.keep {w w' : World} {base mb : Nat} {vd : Value} {pre : List Ru} {f : List UInt8 → Option Value} (h : ErM w base mb vd pre f) (hb : ∀ j, j < w.heap.size → (j = mb ∨ ∃ s v, f s = some v ∧ v.ownBlock = some j) → w'.heap[j]? = w.heap[j]?) : ErM w' base mb vd pre f :=
  ⟨h.mp.of (hb mb h.mp.lt (.inl rfl)), fun s v hv => by
    obtain ⟨rows, h1, h2, h3⟩ := h.own s v hv
    exact ⟨rows, h1, own_heap h2 (fun j hj hj2 => hb j hj2 (.inr ⟨s, v, hv, hj⟩)), h3⟩, h.no, h.dj, h.dd, h.mbl⟩
theorem ErM.bel {w w' : World} {base mb : Nat} {vd : Value} {pre : List Ru} {f : List UInt8 → Option Value} (h : ErM w base mb vd pre f) (hB : RowKit.Below w.heap.size w w') : ErM w' base mb vd pre f := h.keep fun j hj _ => hB.block j hj
/-- An error was appended. -/
theorem ErM.diag {w w' : World} {base mb : Nat} {vd vd' : Value} {pre : List Ru} {f : List UInt8 → Option Value} (h : ErM w base mb vd pre f) (hd : ∀ j, vd.ownBlock = some j → base ≤ j) (hk : ∀ j, j < w.heap.size → vd.ownBlock ≠ some j → w'.heap[j]? = w.heap[j]?) (hn : ∀ j, vd'.ownBlock = some j → vd.ownBlock = some j ∨ w.heap.size ≤ j) : ErM w' base mb vd' pre f := by
  have h2 : ErM w' base mb vd pre f := h.keep fun j hj hj2 => hk j hj (by
    rcases hj2 with rfl | ⟨s, v, hv, hvj⟩
    · intro e; have := hd _ e; have := h.mbl; omega
    · exact h.dd s v j hv hvj)
  refine ⟨h2.mp, h2.own, h2.no, h2.dj, fun s v j hv hvj e => ?_, h2.mbl⟩
  rcases hn j e with h3 | h3
  · exact h.dd s v j hv hvj h3
  · obtain ⟨rows, -, ho, -⟩ := h.own s v hv
    have := (ho.lt j hvj).2
    omega
/-- What there is of a name. -/
theorem ErM.ask {w : World} {base mb : Nat} {vd : Value} {pre : List Ru} {f : List UInt8 → Option Value} (h : ErM w base mb vd pre f) (s : List UInt8) : ∃ p b cap rows, (f s).getD (.slice none 0 0) = .slice p (named pre s).length cap ∧ RsC w p b 0 (named pre s) rows ∧ w.ownsRow base 58 28 (.slice p (named pre s).length cap) (named pre s).length rows.flatten ∧ (∀ l ∈ rows, l.length = 28) := by
  cases hf : f s with
  | none =>
    have := h.no s hf
    rw [this]
    exact ⟨none, 0, 0, [], rfl, ⟨SlR.nil _ _ _ _ _, fun i h => absurd h (Nat.not_lt_zero _)⟩, ⟨rfl, .inl ⟨rfl, rfl⟩⟩, by simp⟩
  | some v =>
    obtain ⟨rows, h1, h2, h3, h4⟩ := h.own s v hf
    obtain ⟨p, b, cap, rfl, hs⟩ := own_slr h2 h3
    rw [h1] at h2 hs
    exact ⟨p, b, cap, rows, by rw [h1]; rfl, ⟨hs, h4⟩, h2, h3⟩
theorem info_R : (Try.prog.info? 58).map (fun i => (i.zero.map (·.cells.size), i.size, decide (i.bytes ≤ 1000))) = some (some 28, 28, true) := by kernel_rfl
theorem und_erl : Try.prog.underlying 97 = some (.map 9 23) := by kernel_rfl
theorem zero_rs (w : World) : (zeroValue 23).run Try.prog w = .ok (.slice none 0 0) w := by kernel_rfl
/-- One rule more of its name: appended, and laid into the map. -/
theorem ErM.add {w : World} {base mb : Nat} {vd : Value} {pre : List Ru} {f : List UInt8 → Option Value} (h : ErM w base mb vd pre f) (hbs : base ≤ w.heap.size) (hd : ∀ j, vd.ownBlock = some j → base ≤ j ∧ j < w.heap.size) (hpre : pre.length ≤ 1000000) (r : Ru) (x y : Kd) (l : List Value) (hr : RuC r x y l) (ty : TypeId) :
    ∃ v' W2 ob, (Builtin.append_ #[23, 23] ty #[(f r.nm).getD (.slice none 0 0), .slice (some ⟨w.heap.size, 0, none⟩) 1 1]).run Try.prog (w.alloc (.cells l.toArray 58)) = .ok v' W2 ∧
      (Instr.mapUpdate 97 (.map (some mb)) (.string (bs r.nm)) v').run Try.prog W2 = .ok () { W2 with heap := W2.heap.setIfInBounds mb ob } ∧ ErM { W2 with heap := W2.heap.setIfInBounds mb ob } base mb vd (pre ++ [r]) (updF f r.nm v') ∧
      w.heap.size ≤ W2.heap.size ∧ W2.os = w.os ∧ W2.tape = w.tape ∧ W2.output = w.output ∧ (∀ j, j < w.heap.size → (j < base ∨ vd.ownBlock = some j) → W2.heap[j]? = w.heap[j]?) ∧ (∀ j, j < w.heap.size → (∀ v, f r.nm = some v → v.ownBlock ≠ some j) → W2.heap[j]? = w.heap[j]?) := by
  have b1 := (Below.refl w.heap.size w).alloc (Nat.le_refl _) (.cells l.toArray 58)
  have x1 := BoxL.new w l 58
  have h1 := h.bel b1
  obtain ⟨p, b, cap, rows, hv, hrs, how, hl28⟩ := h1.ask r.nm
  have hlen : (named pre r.nm).length ≤ pre.length := List.length_filter_le _ _
  obtain ⟨v', W2, hrn, hown, hgr, hob⟩ := run_app1 23 58 28 Try.underlying23 info_R (by decide) _ base ty _ _ _ how w.heap.size l hr.len
    (fun j u hu => (x1 j u hu).1) hr.one (by omega) (by simp; omega)
  rw [← hv] at hrn
  have hvb : ∀ j, (Value.slice p (named pre r.nm).length cap).ownBlock = some j → base ≤ j ∧ j < (w.alloc (.cells l.toArray 58)).heap.size := fun j hj => how.lt j hj
  -- the old value's block is none of another name, nor the errors'
  have hfn : ∀ j, (Value.slice p (named pre r.nm).length cap).ownBlock = some j → ∃ v, f r.nm = some v ∧ v.ownBlock = some j := fun j hj => by
    cases hf : f r.nm with
    | none => rw [hf] at hv; simp only [Option.getD_none] at hv; rw [← hv] at hj; cases hj
    | some v => rw [hf] at hv; simp only [Option.getD_some] at hv; exact ⟨v, rfl, by rw [hv]; exact hj⟩
  have hkeep : ∀ j, j < (w.alloc (.cells l.toArray 58)).heap.size → (Value.slice p (named pre r.nm).length cap).ownBlock ≠ some j → W2.heap[j]? = (w.alloc (.cells l.toArray 58)).heap[j]? := fun j hj hn => hgr.block j hj (fun e => hn e.symm)
  have hmb : (Value.slice p (named pre r.nm).length cap).ownBlock ≠ some mb := fun e => by have := (hvb mb e).1; have := h.mbl; omega
  have hm2 : MapF kS .string W2 mb f := h1.mp.of (hkeep mb h1.mp.lt hmb)
  obtain ⟨ob, hup, hm3⟩ := hm2.update und_erl und_str r.nm (by trivial) (fun x hx => kS_inj _ _ hx) v'
  have hset : ∀ j, j ≠ mb → ({ W2 with heap := W2.heap.setIfInBounds mb ob } : World).heap[j]? = W2.heap[j]? := fun j hj => by simp [Ne.symm hj]
  have hv'b : ∀ j, v'.ownBlock = some j → base ≤ j ∧ j < W2.heap.size := fun j hj => hown.lt j hj
  refine ⟨v', W2, ob, hrn, hup, ⟨hm3, fun s v hs => ?_, fun s hs => ?_, fun s s' u u' j hne hu hu' hj => ?_, fun s v j hs hj => ?_, h.mbl⟩, Nat.le_trans b1.size hgr.size, hgr.os.trans b1.os, hgr.tape.trans b1.tape, hgr.output.trans b1.output, fun j hj hj2 => ?_, fun j hj hj2 => (hkeep j (by simp; omega) (fun e => by obtain ⟨u, hu, hub⟩ := hfn j e; exact hj2 u hu hub)).trans (b1.block j hj)⟩
  · unfold updF at hs
    by_cases hsn : s = r.nm
    · subst hsn
      rw [if_pos rfl] at hs
      cases hs
      have hsn := named_snoc pre r r.nm
      rw [if_pos rfl] at hsn
      have hln := hrs.sl.ln
      refine ⟨rows ++ [l], by rw [hsn]; simp [hln], ?_, fun l' hl' => ?_, fun i hi hi' => ?_⟩
      · have : (rows ++ [l]).flatten = rows.flatten ++ l := by simp
        rw [this, List.length_append, hln]
        exact own_heap hown (fun j hj _ => hset j (by have := (hv'b j hj).1; have := h.mbl; omega))
      · rcases List.mem_append.1 hl' with h' | h'
        · exact hl28 l' h'
        · rw [List.mem_singleton.1 h']; exact hr.len
      · have hi3 : i < (named pre r.nm ++ [r]).length := by rw [← hsn]; exact hi
        have e1 : (named (pre ++ [r]) r.nm)[i] = (named pre r.nm ++ [r])[i]'hi3 := by simp only [hsn]
        rw [e1]
        by_cases hlt : i < (named pre r.nm).length
        · rw [List.getElem_append_left hlt, List.getElem_append_left (by omega)]
          exact hrs.ru i hlt (by omega)
        · have hie : i = (named pre r.nm).length := by simp at hi3; omega
          subst hie
          have e2 : (rows ++ [l])[(named pre r.nm).length] = l := by
            rw [List.getElem_append_right (by omega)]; simp [hln]
          rw [e2]
          simp only [List.getElem_concat_length]
          exact ⟨x, y, hr⟩
    · rw [if_neg hsn] at hs
      have hsn2 := named_snoc pre r s
      rw [if_neg (Ne.symm hsn)] at hsn2
      obtain ⟨rows', h2, h3, h4, h5⟩ := h1.own s v hs
      refine ⟨rows', by rw [hsn2]; exact h2, ?_, h4, by simp only [hsn2]; exact h5⟩
      exact own_heap h3 (fun j hj hj2 => (hset j (by have := (h3.lt j hj).1; have := h.mbl; omega)).trans (hkeep j hj2 (fun e => by
        obtain ⟨u, hu, hub⟩ := hfn j e
        exact h.dj r.nm s u v j (Ne.symm hsn) hu hs hub hj)))
  · unfold updF at hs
    by_cases hsn : s = r.nm
    · rw [if_pos hsn] at hs; cases hs
    · rw [if_neg hsn] at hs
      rw [named_snoc, if_neg (Ne.symm hsn)]
      exact h.no s hs
  · have fresh : ∀ s v j, s ≠ r.nm → f s = some v → v.ownBlock = some j → v'.ownBlock ≠ some j := fun s v j hsn hs hj e => by
      rcases hob with ho | ho
      · rw [ho] at e
        obtain ⟨u, hu, hub⟩ := hfn j e
        exact h.dj r.nm s u v j (Ne.symm hsn) hu hs hub hj
      · rw [ho] at e
        obtain ⟨rows', -, h3, -⟩ := h1.own s v hs
        have := (h3.lt j hj).2
        simp only [Option.some.injEq] at e
        omega
    unfold updF at hu hu'
    by_cases h2 : s = r.nm
    · rw [if_pos h2] at hu
      cases hu
      have h3 : s' ≠ r.nm := fun e => hne (h2.trans e.symm)
      rw [if_neg h3] at hu'
      exact fun e => fresh s' u' j h3 hu' e hj
    · rw [if_neg h2] at hu
      by_cases h3 : s' = r.nm
      · rw [if_pos h3] at hu'
        cases hu'
        exact fresh s u j h2 hu hj
      · rw [if_neg h3] at hu'
        exact h.dj s s' u u' j hne hu hu' hj
  · unfold updF at hs
    by_cases h2 : s = r.nm
    · rw [if_pos h2] at hs
      cases hs
      intro e
      rcases hob with ho | ho
      · rw [ho] at hj
        obtain ⟨u, hu, hub⟩ := hfn j hj
        exact h.dd r.nm u j hu hub e
      · rw [ho] at hj
        simp only [Option.some.injEq] at hj
        have := (hd j e).2
        have : (w.alloc (.cells l.toArray 58)).heap.size = w.heap.size + 1 := by simp
        omega
    · rw [if_neg h2] at hs
      exact h.dd s v j hs hj
  · rw [← b1.block j hj]
    refine hkeep j (by simp; omega) (fun e => ?_)
    rcases hj2 with h2 | h2
    · have := (hvb j e).1; omega
    · obtain ⟨u, hu, hub⟩ := hfn j e
      exact h.dd r.nm u j hu hub h2
end Go.Proofs.Ytjifiijgghpniaa
/-
  Contract of units: the check of one rule within ruleErrors.
-/
namespace Go.Proofs.Ytjifiijgghpniaa
open Go.RowKit Un MapKept

set_option maxRecDepth 100000 in
set_option maxHeartbeats 8000000 in
theorem ure1_any (L : List Dc) (hf : formD L = true) (r : Ru) (g : Nat) (hw : wf vld g r.whn = true) (hw2 : wf vld g r.giv = true) (x y : Kd) (l : List Value) (hr : RuC r x y l) (A : Nat → Prop) (m1 m2 fb p1 p2 : Nat) (base mb : Nat) (vd : Value) (pre : List Ru) (f : List UInt8 → Option Value) (sb ub eb : Nat) (w : World) (hm : RuM w A r x y) (hs : ScR w L m1 m2 fb p1 p2)
    (he : ErM w base mb vd pre f) (h1 : BoxL w sb [.map (some m1), .map (some m2)]) (h2 : BoxL w ub l) (h3 : w.cell? ⟨eb, 0, none⟩ = some (.map (some mb))) :
    Calls Try.prog 63 #[.pointer (some ⟨sb, 0, none⟩), .pointer (some ⟨ub, 0, none⟩), .pointer (some ⟨eb, 0, none⟩)] w fun e w' => CkE (errR (Un.facts L) (before pre r) r) e ∧ RowKit.Below w.heap.size w w' := by
  obtain ⟨p, b, cap, rows, hv, hrs, -, -⟩ := he.ask r.nm
  have KC := Lib.hid (ucheckRule_any L hf r g hw hw2 x y l hr A m1 m2 fb p1 p2 (named pre r.nm) rows p b 0 cap w hm hs hrs)
  have hlk := he.mp.ask und_erl und_str r.nm (by trivial) false (.slice none 0 0) (zero_rs w)
  rw [hv] at hlk
  have hlk : (Instr.lookup 97 (.map (some mb)) (.string (bs r.nm)) false).run Try.prog w = .ok (.slice p (named pre r.nm).length cap) w := hlk
  have hld := load_rule w ub 0 l hr.len (fun j v hv => by rw [Nat.zero_add]; exact (h2 j v hv).1)
  obtain ⟨c0, -⟩ := h2 0 _ hr.f0
  obtain ⟨s0, -⟩ := h1 0 _ rfl
  obtain ⟨s1, -⟩ := h1 1 _ rfl
  rw [before_eq]
  obtain ⟨R, hR⟩ : ∃ R, R = errR (Un.facts L) (named pre r.nm) r := ⟨_, rfl⟩
  rw [← hR] at KC ⊢
  clear hR hv hrs hm hs he h1 h2 hr hw hw2 hf
  generalize (named pre r.nm).length = n at *
  generalize bs r.nm = s at *
  go_enter Try.func63, Try.ntmps63
  go_wp2_with (first | ((with_reducible show wpList _ _ _ ({ dst := some 4, op := _, type := _, pos := _, after := _, guard := _ } :: _) _ _); refine wl_loadP rfl rfl rfl hld ?_) | ((with_reducible show wpList _ _ _ ({ dst := some 8, op := _, type := _, pos := _, after := _, guard := _ } :: _) _ _); refine wl_lookup _ _ _ rfl rfl rfl rfl hlk ?_))
  refine KC.out.mono ?_
  rintro e V ⟨hC, hb⟩
  have HB := Lib.hid hb
  clear hb hlk hld
  unfold CkE at hC
  by_cases h0 : R.2 = 0
  · rw [if_pos h0] at hC
    subst hC
    have HQ : Hid (CkE R (.returned (.tuple #[]))) := CkE.ok h0 rfl
    clear h0
    go_wp2_with fail
    go_end0
    exact ⟨HQ.out, HB.out⟩
  · rw [if_neg h0] at hC
    subst hC
    have HQ : Hid (CkE R (.panicked (failU R.2 R.1))) := CkE.er (r := R) rfl h0 rfl
    clear h0
    go_wp2_with fail
    exact bodyPost_panic rfl ⟨HQ.out, HB.out⟩
theorem enter_re1 (args : Array Value) (w : World) : (callFunc 63 args).run Try.prog w = .ok (.enter 63 args) w := by kernel_rfl
/-- What a check gives up with, caught: zeros if it does not. -/
def caught (r : Int × Int) : Int × Int := if r.2 = 0 then (0, 0) else r
theorem ure1_caught (L : List Dc) (hf : formD L = true) (r : Ru) (g : Nat) (hw : wf vld g r.whn = true) (hw2 : wf vld g r.giv = true) (x y : Kd) (l : List Value) (hr : RuC r x y l) (A : Nat → Prop) (m1 m2 fb p1 p2 : Nat) (base mb : Nat) (vd : Value) (pre : List Ru) (f : List UInt8 → Option Value) (sb ub eb : Nat) (w : World) (hm : RuM w A r x y) (hs : ScR w L m1 m2 fb p1 p2)
    (he : ErM w base mb vd pre f) (h1 : BoxL w sb [.map (some m1), .map (some m2)]) (h2 : BoxL w ub l) (h3 : w.cell? ⟨eb, 0, none⟩ = some (.map (some mb))) :
    Calls Try.prog 35 #[.func (.func 63) #[] #[.pointer (some ⟨sb, 0, none⟩), .pointer (some ⟨ub, 0, none⟩), .pointer (some ⟨eb, 0, none⟩)]] w fun e w' => e = .returned (.agg #[.int .i64 (caught (errR (Un.facts L) (before pre r) r)).1, .int .i64 (caught (errR (Un.facts L) (before pre r) r)).2]) ∧ RowKit.Below w.heap.size w w' := by
  have bd := (Below.refl w.heap.size w).alloc (Nat.le_refl _) (.cells #[.int .i64 0, .int .i64 0] 66)
  have sd : (w.alloc (.cells #[.int .i64 0, .int .i64 0] 66)).heap.size = w.heap.size + 1 := by simp
  have ad := At2.new w (.int .i64 0) (.int .i64 0) 66
  have KQ := ure1_any L hf r g hw hw2 x y l hr A m1 m2 fb p1 p2 base mb vd pre f sb ub eb _ (hm.bel bd) (hs.bel bd) (he.bel bd) (h1.bel (by simp) bd) (h2.bel (by rw [hr.len]; omega) bd) ((bd.cell (p := ⟨eb, 0, none⟩) (World.block_lt_of_cell? _ _ h3)).trans h3)
  generalize errR (Un.facts L) (before pre r) r = R at *
  by_cases h0 : R.2 = 0
  · have e1 : caught R = (0, 0) := if_pos h0
    rw [e1]
    refine (uerrorOf_okB 63 _ enter_re1 (fun w' => RowKit.Below w.heap.size w w') w (KQ.mono ?_)).mono ?_
    · rintro e w' ⟨hc, hb⟩
      unfold CkE at hc
      rw [if_pos h0] at hc
      exact ⟨hc, ad.bel hb, bd.trans (hb.mono (by omega))⟩
    · rintro e w' ⟨rfl, w2, h, h'⟩
      exact ⟨rfl, h.trans (h'.mono h.size)⟩
  · have e1 : caught R = R := if_neg h0
    rw [e1]
    refine (uerrorOf_er 63 _ enter_re1 R.2 R.1 (fun w' => RowKit.Below w.heap.size w w') w (KQ.mono ?_)).mono ?_
    · rintro e w' ⟨hc, hb⟩
      unfold CkE at hc
      rw [if_neg h0] at hc
      exact ⟨hc, ad.bel hb, bd.trans (hb.mono (by omega))⟩
    · rintro e w' ⟨rfl, w2, h, h'⟩
      exact ⟨rfl, h.trans (h'.below (B := w.heap.size) (Nat.le_refl _) h.size)⟩
end Go.Proofs.Ytjifiijgghpniaa
/-
  A slice of one rule; steps of a region of open order that ask a map and change it.
-/
namespace Go.Proofs.Ytjifiijgghpniaa
open Go.RowKit Un MapKept

set_option maxRecDepth 100000 in
set_option maxHeartbeats 2000000 in
theorem slice_ruleL (l : List Value) (hl : l.length = 28) (w : World) : (Instr.buildSlice 23 1 #[(0, .agg l.toArray)]).run Try.prog w = .ok (.slice (some ⟨w.heap.size, 0, none⟩) 1 1) (w.alloc (.cells l.toArray 58)) := by
  obtain ⟨x0, l, rfl⟩ : ∃ x t, l = x :: t := by cases l with | nil => simp at hl | cons a b => exact ⟨a, b, rfl⟩
  obtain ⟨x1, l, rfl⟩ : ∃ x t, l = x :: t := by cases l with | nil => simp at hl | cons a b => exact ⟨a, b, rfl⟩
  obtain ⟨x2, l, rfl⟩ : ∃ x t, l = x :: t := by cases l with | nil => simp at hl | cons a b => exact ⟨a, b, rfl⟩
  obtain ⟨x3, l, rfl⟩ : ∃ x t, l = x :: t := by cases l with | nil => simp at hl | cons a b => exact ⟨a, b, rfl⟩
  obtain ⟨x4, l, rfl⟩ : ∃ x t, l = x :: t := by cases l with | nil => simp at hl | cons a b => exact ⟨a, b, rfl⟩
  obtain ⟨x5, l, rfl⟩ : ∃ x t, l = x :: t := by cases l with | nil => simp at hl | cons a b => exact ⟨a, b, rfl⟩
  obtain ⟨x6, l, rfl⟩ : ∃ x t, l = x :: t := by cases l with | nil => simp at hl | cons a b => exact ⟨a, b, rfl⟩
  obtain ⟨x7, l, rfl⟩ : ∃ x t, l = x :: t := by cases l with | nil => simp at hl | cons a b => exact ⟨a, b, rfl⟩
  obtain ⟨x8, l, rfl⟩ : ∃ x t, l = x :: t := by cases l with | nil => simp at hl | cons a b => exact ⟨a, b, rfl⟩
  obtain ⟨x9, l, rfl⟩ : ∃ x t, l = x :: t := by cases l with | nil => simp at hl | cons a b => exact ⟨a, b, rfl⟩
  obtain ⟨x10, l, rfl⟩ : ∃ x t, l = x :: t := by cases l with | nil => simp at hl | cons a b => exact ⟨a, b, rfl⟩
  obtain ⟨x11, l, rfl⟩ : ∃ x t, l = x :: t := by cases l with | nil => simp at hl | cons a b => exact ⟨a, b, rfl⟩
  obtain ⟨x12, l, rfl⟩ : ∃ x t, l = x :: t := by cases l with | nil => simp at hl | cons a b => exact ⟨a, b, rfl⟩
  obtain ⟨x13, l, rfl⟩ : ∃ x t, l = x :: t := by cases l with | nil => simp at hl | cons a b => exact ⟨a, b, rfl⟩
  obtain ⟨x14, l, rfl⟩ : ∃ x t, l = x :: t := by cases l with | nil => simp at hl | cons a b => exact ⟨a, b, rfl⟩
  obtain ⟨x15, l, rfl⟩ : ∃ x t, l = x :: t := by cases l with | nil => simp at hl | cons a b => exact ⟨a, b, rfl⟩
  obtain ⟨x16, l, rfl⟩ : ∃ x t, l = x :: t := by cases l with | nil => simp at hl | cons a b => exact ⟨a, b, rfl⟩
  obtain ⟨x17, l, rfl⟩ : ∃ x t, l = x :: t := by cases l with | nil => simp at hl | cons a b => exact ⟨a, b, rfl⟩
  obtain ⟨x18, l, rfl⟩ : ∃ x t, l = x :: t := by cases l with | nil => simp at hl | cons a b => exact ⟨a, b, rfl⟩
  obtain ⟨x19, l, rfl⟩ : ∃ x t, l = x :: t := by cases l with | nil => simp at hl | cons a b => exact ⟨a, b, rfl⟩
  obtain ⟨x20, l, rfl⟩ : ∃ x t, l = x :: t := by cases l with | nil => simp at hl | cons a b => exact ⟨a, b, rfl⟩
  obtain ⟨x21, l, rfl⟩ : ∃ x t, l = x :: t := by cases l with | nil => simp at hl | cons a b => exact ⟨a, b, rfl⟩
  obtain ⟨x22, l, rfl⟩ : ∃ x t, l = x :: t := by cases l with | nil => simp at hl | cons a b => exact ⟨a, b, rfl⟩
  obtain ⟨x23, l, rfl⟩ : ∃ x t, l = x :: t := by cases l with | nil => simp at hl | cons a b => exact ⟨a, b, rfl⟩
  obtain ⟨x24, l, rfl⟩ : ∃ x t, l = x :: t := by cases l with | nil => simp at hl | cons a b => exact ⟨a, b, rfl⟩
  obtain ⟨x25, l, rfl⟩ : ∃ x t, l = x :: t := by cases l with | nil => simp at hl | cons a b => exact ⟨a, b, rfl⟩
  obtain ⟨x26, l, rfl⟩ : ∃ x t, l = x :: t := by cases l with | nil => simp at hl | cons a b => exact ⟨a, b, rfl⟩
  obtain ⟨x27, l, rfl⟩ : ∃ x t, l = x :: t := by cases l with | nil => simp at hl | cons a b => exact ⟨a, b, rfl⟩
  have : l = [] := by simpa using hl
  subst this
  clear hl
  show _ = _
  kernel_rfl
section
variable {P : Program} {o : Oper} {a : Act} {w w' : World} {K : Act → World → Prop} {Q : Exit → Act → World → Prop} {T : TypeId} {v vm vk : Value}
theorem wp_lookup (m k : Operand) (ok : Bool) (ho : o.op = .lookup T m k ok) (hm : a.eval m = vm) (hk : a.eval k = vk) (hr : (Instr.lookup T vm vk ok).run P w = .ok v w) (h : K (a.put o.dst v) w) : Oper.wp P o a w K Q := by
  unfold Oper.wp execOp
  simp only [ho, Sem.run_bind, Sem.run_pure, hm, hk, hr]
  exact h
theorem wp_mapset (m k x : Operand) (ho : o.op = .mapUpdate T m k x) (hm : a.eval m = vm) (hk : a.eval k = vk) (hx : a.eval x = v) (hr : (Instr.mapUpdate T vm vk v).run P w = .ok () w') (h : K (a.put o.dst undef) w') : Oper.wp P o a w K Q := by
  unfold Oper.wp execOp
  simp only [ho, Sem.run_bind, Sem.run_pure, hm, hk, hx, hr]
  exact h
end
/-- One error is appended; where the slice lies then. -/
theorem DgO.app2 {w : World} {base : Nat} {q : Option Addr} {cap : Nat} {l : List (Int × Int)} (h : DgO w base (.slice q l.length cap) l) (hl : l.length ≤ 1000000) (pl e : Int) (ty : TypeId) :
    ∃ q' cap' W2, (Builtin.append_ #[41, 41] ty #[.slice q l.length cap, .slice (some ⟨w.heap.size, 0, none⟩) 1 1]).run Try.prog (w.alloc (.cells #[.int .i64 pl, .int .i64 e] 66)) = .ok (.slice q' (l ++ [(pl, e)]).length cap') W2 ∧ DgO W2 base (.slice q' (l ++ [(pl, e)]).length cap') (l ++ [(pl, e)]) ∧ w.heap.size ≤ W2.heap.size ∧ W2.os = w.os ∧ W2.tape = w.tape ∧ W2.output = w.output ∧ (∀ j, j < w.heap.size → (Value.slice q l.length cap).ownBlock ≠ some j → W2.heap[j]? = w.heap[j]?) ∧ ∀ j, (Value.slice q' (l ++ [(pl, e)]).length cap').ownBlock = some j → (Value.slice q l.length cap).ownBlock = some j ∨ w.heap.size ≤ j := by
  have b1 := (Below.refl w.heap.size w).alloc (Nat.le_refl _) (.cells #[.int .i64 pl, .int .i64 e] 66)
  have a1 := At2.new w (.int .i64 pl) (.int .i64 e) 66
  have h1 := h.bel b1
  obtain ⟨v', W2, hr, hown, hgr, hob⟩ := run_app1 41 66 2 Try.underlying41 info_G (by decide) _ base ty _ _ _ h1.own w.heap.size (gC (pl, e)) rfl
    (fun j u hu => by
      match j, hu with
      | 0, hu => simp [gC] at hu; subst hu; exact a1.c0
      | 1, hu => simp [gC] at hu; subst hu; exact a1.c1
      | j + 2, hu => simp [gC] at hu) (by simp [gC, Value.oneCell']) hl h1.bs
  obtain ⟨q', cap', rfl⟩ := own_slice hown
  have hs : w.heap.size ≤ W2.heap.size := Nat.le_trans b1.size hgr.size
  have e1 : (l ++ [(pl, e)]).length = l.length + 1 := by simp
  rw [e1]
  refine ⟨q', cap', W2, hr, ⟨by simpa using hown, Nat.le_trans h.bs hs⟩, hs, hgr.os.trans b1.os, hgr.tape.trans b1.tape, hgr.output.trans b1.output, fun j hj hn => (hgr.block j (by simp; omega) (fun e => hn e.symm)).trans (b1.block j hj), fun j hj => ?_⟩
  rcases hob with ho | ho
  · rw [ho] at hj; exact .inl hj
  · rw [ho] at hj
    simp at hj
    omega
theorem errsR_drop (fs : List (List UInt8 × U)) (rs : List Ru) (i : Nat) (h : i < rs.length) : errsR fs (rs.take i) (rs.drop i) = (if (errR fs (before (rs.take i) rs[i]) rs[i]).2 = 0 then [] else [errR fs (before (rs.take i) rs[i]) rs[i]]) ++ errsR fs (rs.take (i + 1)) (rs.drop (i + 1)) := by
  rw [List.drop_eq_getElem_cons h, List.take_succ_eq_append_getElem h]
  rfl
/-- How things stand within ruleErrors. -/
structure ReS (w wr : World) (L : List Dc) (m1 m2 fb p1 p2 sb : Nat) (vd : Value) (pre : List Ru) (f : List UInt8 → Option Value) (es : List (Int × Int)) : Prop where
  dg : DgO wr (sb + 3) vd es
  er : ErM wr (sb + 3) (sb + 1) vd pre f
  sc : ScR wr L m1 m2 fb p1 p2
  bx : BoxL wr sb [.map (some m1), .map (some m2)]
  ce : wr.cell? ⟨sb + 2, 0, none⟩ = some (.map (some (sb + 1)))
  be : RowKit.Below w.heap.size w wr
  ws : w.heap.size ≤ sb
  mx : m1 < sb ∧ m2 < sb ∧ fb < sb ∧ p1 < sb ∧ p2 < sb
theorem ReS.size {w wr : World} {L : List Dc} {m1 m2 fb p1 p2 sb : Nat} {vd : Value} {pre : List Ru} {f : List UInt8 → Option Value} {es : List (Int × Int)} (h : ReS w wr L m1 m2 fb p1 p2 sb vd pre f es) : sb + 3 ≤ wr.heap.size := h.dg.bs
theorem ScR.keep {w w' : World} {L : List Dc} {m1 m2 fb p1 p2 sb : Nat} (h : ScR w L m1 m2 fb p1 p2) (hm : m1 < sb ∧ m2 < sb ∧ fb < sb ∧ p1 < sb ∧ p2 < sb) (hb : ∀ j, j < sb → w'.heap[j]? = w.heap[j]?) : ScR w' L m1 m2 fb p1 p2 :=
  ⟨h.mp.of (hb _ hm.1), h.op.mp.of (hb _ hm.2.1), h.op.fl.at (hb _ hm.2.2.1), (World.cell?_of_block (w := w) (a := ⟨p1, 0, none⟩) (hb _ hm.2.2.2.1)).trans h.op.c1, (World.cell?_of_block (w := w) (a := ⟨p2, 0, none⟩) (hb _ hm.2.2.2.2)).trans h.op.c2⟩
theorem ReS.bel {w wr w' : World} {L : List Dc} {m1 m2 fb p1 p2 sb : Nat} {vd : Value} {pre : List Ru} {f : List UInt8 → Option Value} {es : List (Int × Int)} (h : ReS w wr L m1 m2 fb p1 p2 sb vd pre f es) (hB : RowKit.Below wr.heap.size wr w') : ReS w w' L m1 m2 fb p1 p2 sb vd pre f es :=
  ⟨h.dg.bel hB, h.er.bel hB, h.sc.bel hB, h.bx.bel (by simp) hB, (hB.cell (p := ⟨sb + 2, 0, none⟩) (World.block_lt_of_cell? _ _ h.ce)).trans h.ce, h.be.trans (hB.mono h.be.size), h.ws, h.mx⟩
/-- An error more. -/
theorem ReS.diag {w wr w' : World} {L : List Dc} {m1 m2 fb p1 p2 sb : Nat} {vd vd' : Value} {pre : List Ru} {f : List UInt8 → Option Value} {es es' : List (Int × Int)} (h : ReS w wr L m1 m2 fb p1 p2 sb vd pre f es) (hd : DgO w' (sb + 3) vd' es') (hs : wr.heap.size ≤ w'.heap.size) (h1 : w'.os = wr.os) (h2 : w'.tape = wr.tape) (h3 : w'.output = wr.output) (hk : ∀ j, j < wr.heap.size → vd.ownBlock ≠ some j → w'.heap[j]? = wr.heap[j]?) (hn : ∀ j, vd'.ownBlock = some j → vd.ownBlock = some j ∨ wr.heap.size ≤ j) : ReS w w' L m1 m2 fb p1 p2 sb vd' pre f es' := by
  have hz := h.size
  have hws := h.ws
  have kb : ∀ j, j < sb + 3 → w'.heap[j]? = wr.heap[j]? := fun j hj => hk j (by omega) (fun e => by have := (h.dg.lt j e).1; omega)
  exact ⟨hd, h.er.diag (fun j hj => (h.dg.lt j hj).1) hk hn, h.sc.keep h.mx (fun j hj => kb j (by omega)), h.bx.of (kb _ (by omega)), (World.cell?_of_block (w := wr) (a := ⟨sb + 2, 0, none⟩) (kb _ (by show sb + 2 < _; omega))).trans h.ce, ⟨h1.trans h.be.os, h2.trans h.be.tape, h3.trans h.be.output, Nat.le_trans h.be.size hs, fun k hk2 => (kb k (by omega)).trans (h.be.block k hk2)⟩, h.ws, h.mx⟩
/-- A rule more in the map. -/
theorem ReS.add {w wr W2 : World} {L : List Dc} {m1 m2 fb p1 p2 sb : Nat} {vd v' : Value} {pre : List Ru} {f : List UInt8 → Option Value} {es : List (Int × Int)} (h : ReS w wr L m1 m2 fb p1 p2 sb vd pre f es) (r : Ru) (ob : Obj) (he : ErM { W2 with heap := W2.heap.setIfInBounds (sb + 1) ob } (sb + 3) (sb + 1) vd (pre ++ [r]) (updF f r.nm v'))
    (hs : wr.heap.size ≤ W2.heap.size) (h1 : W2.os = wr.os) (h2 : W2.tape = wr.tape) (h3 : W2.output = wr.output) (hk : ∀ j, j < wr.heap.size → (j < sb + 3 ∨ vd.ownBlock = some j) → W2.heap[j]? = wr.heap[j]?) : ReS w { W2 with heap := W2.heap.setIfInBounds (sb + 1) ob } L m1 m2 fb p1 p2 sb vd (pre ++ [r]) (updF f r.nm v') es := by
  have hz := h.size
  have hws := h.ws
  have hset : ∀ j, j ≠ sb + 1 → ({ W2 with heap := W2.heap.setIfInBounds (sb + 1) ob } : World).heap[j]? = W2.heap[j]? := fun j hj => by simp [Ne.symm hj]
  have kb : ∀ j, j < sb + 3 → j ≠ sb + 1 → ({ W2 with heap := W2.heap.setIfInBounds (sb + 1) ob } : World).heap[j]? = wr.heap[j]? := fun j hj hn => (hset j hn).trans (hk j (by omega) (.inl hj))
  exact ⟨h.dg.keep (by simpa using hs) (fun j hj hj2 => (hset j (by have := (h.dg.lt j hj).1; omega)).trans (hk j hj2 (.inr hj))), he, h.sc.keep h.mx (fun j hj => kb j (by omega) (by omega)), h.bx.of (kb _ (by omega) (by omega)), (World.cell?_of_block (w := wr) (a := ⟨sb + 2, 0, none⟩) (kb _ (by show sb + 2 < _; omega) (by show sb + 2 ≠ _; omega))).trans h.ce, ⟨h1.trans h.be.os, h2.trans h.be.tape, h3.trans h.be.output, by simpa using Nat.le_trans h.be.size hs, fun k hk2 => (kb k (by omega) (by omega)).trans (h.be.block k hk2)⟩, h.ws, h.mx⟩
end Go.Proofs.Ytjifiijgghpniaa
/-
  Contract of units: ruleErrors.
-/
namespace Go.Proofs.Ytjifiijgghpniaa
open Go.RowKit Un MapKept

theorem MapF.newAt {κ : Type} (key : κ → Value) (d : TypeDesc) (w : World) (n : Nat) (h : w.heap.size = n) : MapF key d (w.alloc (.map #[] 0)) n (fun _ => none) := h ▸ MapF.new key d w
set_option maxRecDepth 100000 in
set_option maxHeartbeats 16000000 in
theorem uruleErrors_any (L : List Dc) (hf : formD L = true) (hle : errsD [] L = []) (rs : List Ru) (hrl : rs.length ≤ 100000) (hfr : rs.all (formR vld) = true) (rows : List (List Value)) (pd pr : Option Addr) (bd od cd br orr cr : Nat) (A : Nat → Prop) (w : World) (hD : SlR w pd bd od L.length 8 (L.map dC)) (hR : RsM w A pr br orr rs rows) :
    Calls Try.prog 44 #[.agg #[.slice pd L.length cd, .slice pr rs.length cr]] w fun e w' => ∃ v, e = .returned v ∧ DgO w' w.heap.size v (errsR (Un.facts L) [] rs) ∧ RowKit.Below w.heap.size w w' := by
  have hmm := @run_makeMap Try.prog
  have hmf : ∀ (fn : Fn) (first cap : Array Value) (w : World), (Instr.makeFunc fn first cap).run Try.prog w = .ok (.func fn first cap) w := fun _ _ _ _ => rfl
  have KN := Lib.hid (fun V h => unewScope_any L hle pd bd od cd V (hD.bel h))
  have hln := hR.sl.ln
  have hmax := hR.sl.max
  have KC : Hid (∀ (i : Nat) (hi : i < rs.length) (h' : i < rows.length) (m1 m2 fb p1 p2 base mb : Nat) (vd : Value) (pre : List Ru) (f : List UInt8 → Option Value) (sb ub eb : Nat) (V : World), RowKit.Below w.heap.size w V → ScR V L m1 m2 fb p1 p2 → ErM V base mb vd pre f → BoxL V sb [.map (some m1), .map (some m2)] → BoxL V ub rows[i] → V.cell? ⟨eb, 0, none⟩ = some (.map (some mb)) →
      Calls Try.prog 35 #[.func (.func 63) #[] #[.pointer (some ⟨sb, 0, none⟩), .pointer (some ⟨ub, 0, none⟩), .pointer (some ⟨eb, 0, none⟩)]] V fun e w' => e = .returned (.agg #[.int .i64 (caught (errR (Un.facts L) (before pre rs[i]) rs[i])).1, .int .i64 (caught (errR (Un.facts L) (before pre rs[i]) rs[i])).2]) ∧ RowKit.Below V.heap.size V w') := fun i hi h' m1 m2 fb p1 p2 base mb vd pre f sb ub eb V hV h1 h2 h3 h4 h5 => by
    obtain ⟨x, y, g1, g2⟩ := hR.ru i hi h'
    have hfi := List.all_eq_true.1 hfr rs[i] (List.getElem_mem hi)
    simp only [formR, Bool.and_eq_true, form] at hfi
    exact ure1_caught L hf rs[i] 20 hfi.1.2.1 hfi.2.1 x y rows[i] g1 A m1 m2 fb p1 p2 base mb vd pre f sb ub eb V (g2.bel hV) h1 h2 h3 h4 h5
  have KO := Lib.hid (fun (i : Nat) (hi : i < rs.length) (h' : i < rows.length) => (hR.ru i hi h' : ∃ x y, RuC rs[i] x y rows[i] ∧ RuM w A rs[i] x y))
  have HS := Lib.hid hR.sl
  have A1 := (Below.refl w.heap.size w).alloc (Nat.le_refl _) (.cells #[.slice pd L.length cd, .slice pr rs.length cr] 25)
  have X1 := Lib.hid (BoxL.new w [.slice pd L.length cd, .slice pr rs.length cr] 25)
  have HB := Lib.hid A1
  have hz0 : (w.alloc (.cells #[.slice pd L.length cd, .slice pr rs.length cr] 25)).heap.size = w.heap.size + 1 := by simp
  obtain ⟨R, hRR⟩ : ∃ R, R = errsR (Un.facts L) [] rs := ⟨_, rfl⟩
  rw [← hRR]
  have HR := Lib.hid hRR
  clear hRR hD hR A1 hfr hle hf
  generalize hW1 : w.alloc (.cells #[.slice pd L.length cd, .slice pr rs.length cr] 25) = W1 at *
  obtain ⟨c0, -⟩ := X1.out 0 _ rfl
  go_enter Try.func44, Try.ntmps44
  go_wp2_with fail
  refine (KN.out _ HB.out).mono ?_
  rintro _ V1 ⟨m1, m2, fb, p1, p2, rfl, hsc, hb⟩
  have HB1 := Lib.hid (HB.out.trans (hb.mono HB.out.size))
  have X2 := X1.out.bel (by simp) hb
  obtain ⟨sb, hsb⟩ : ∃ sb, V1.heap.size = sb := ⟨_, rfl⟩
  have hws : w.heap.size + 1 ≤ sb := by have := hb.size; omega
  have mx : m1 < sb ∧ m2 < sb ∧ fb < sb ∧ p1 < sb ∧ p2 < sb := by
    rw [← hsb]
    exact ⟨hsc.mp.lt, hsc.op.mp.lt, hsc.op.fl.lt, World.block_lt_of_cell? _ _ hsc.op.c1, World.block_lt_of_cell? _ _ hsc.op.c2⟩
  obtain ⟨V2, hV2⟩ : ∃ V2, V1.alloc (.cells #[.map (some m1), .map (some m2)] 72) = V2 := ⟨_, rfl⟩
  have a2 := (Below.refl V1.heap.size V1).alloc (Nat.le_refl _) (.cells #[.map (some m1), .map (some m2)] 72)
  have x2 : BoxL V2 sb [.map (some m1), .map (some m2)] := by rw [← hV2]; exact box_new _ _ hsb
  have s2 : V2.heap.size = sb + 1 := by rw [← hV2]; simp; omega
  rw [hV2] at a2
  obtain ⟨V3, hV3⟩ : ∃ V3, V2.alloc (.map #[] 0) = V3 := ⟨_, rfl⟩
  have a3 := (Below.refl V2.heap.size V2).alloc (Nat.le_refl _) (.map #[] 0)
  have x3 : MapF kS .string V3 (sb + 1) (fun _ => none) := by rw [← hV3]; exact MapF.newAt _ _ _ _ s2
  have s3 : V3.heap.size = sb + 2 := by rw [← hV3]; simp; omega
  rw [hV3] at a3
  obtain ⟨V4, hV4⟩ : ∃ V4, V3.alloc (.cells #[.map (some (sb + 1))] 97) = V4 := ⟨_, rfl⟩
  have a4 := (Below.refl V3.heap.size V3).alloc (Nat.le_refl _) (.cells #[.map (some (sb + 1))] 97)
  have x4 : BoxL V4 (sb + 2) [.map (some (sb + 1))] := by rw [← hV4]; exact box_new _ _ s3
  have s4 : V4.heap.size = sb + 3 := by rw [← hV4]; simp; omega
  rw [hV4] at a4
  have a34 := a3.trans (a4.mono a3.size)
  have a24 := a2.trans (a34.mono a2.size)
  have H0 : Hid (ReS w V4 L m1 m2 fb p1 p2 sb (.slice none 0 0) [] (fun _ => none) []) :=
    ⟨DgO.nil _ _ (by omega), ⟨x3.bel a4, (fun s v h => by cases h), (fun _ _ => rfl), (fun s s' v v' j _ h => by cases h), (fun s v j h => by cases h), by omega⟩, hsc.bel a24, x2.bel (by simp) a34, (x4 0 _ rfl).1, HB1.out.trans (a24.mono HB1.out.size), by omega, mx⟩
  have X3 := Lib.hid (X2.bel (by simp) a24)
  clear a2 a3 a4 a34 a24 x2 x3 x4 hsc hb X2 HB HB1 X1 KN c0
  obtain ⟨c1, -⟩ := X3.out 1 _ rfl
  have hm4 : V3.heap.size = sb + 2 := s3
  go_wp2_with fail
  clear hV2 hV3 hV4 hW1 c1
  go_loopg [3, 16] rs.length (fun g v3 v16 wr => ∃ (i : Nat) (q : Option Addr) (cap : Nat) (es : List (Int × Int)) (f : List UInt8 → Option Value), i ≤ rs.length ∧ rs.length - i ≤ g ∧ v16 = .int .i64 i ∧ v3 = .slice q es.length cap ∧ es.length ≤ i ∧ Hid (errsR (Un.facts L) [] rs = es ++ errsR (Un.facts L) (rs.take i) (rs.drop i)) ∧ Hid (ReS w wr L m1 m2 fb p1 p2 sb (.slice q es.length cap) (rs.take i) f es))
  case atStart => exact ⟨0, none, 0, [], fun _ => none, Nat.zero_le _, by omega, by simp, rfl, Nat.le_refl _, by show _ = _; simp, H0⟩
  case round =>
    obtain ⟨i, q, cap, es, f, hi, hg, rfl, rfl, hes, HM, HF⟩ := hrel
    by_cases hlt : i < rs.length
    · have hz : (i : Int) < (rs.length : Int) := by omega
      have hq := HS.out.ptr (by omega)
      subst hq
      have hr := (HS.out.bel HF.out.be).at_ i rows[i] (List.getElem?_eq_getElem (by omega))
      have hld := load_rule wr br (orr + i * 28) rows[i] hr.1 hr.2
      obtain ⟨x, y, hru, -⟩ := KO.out i hlt (by omega)
      have KQ := Lib.hid (KC.out i hlt (by omega))
      have E3 := Lib.hid (HM.out.trans (by rw [errsR_drop _ _ _ hlt]))
      have htk : rs.take (i + 1) = rs.take i ++ [rs[i]] := List.take_succ_eq_append_getElem hlt
      have hpl : (rs.take i).length ≤ 1000000 := by rw [List.length_take]; omega
      rw [htk] at E3
      have HTK := Lib.hid htk
      clear hr HM KC htk
      generalize rs[i] = r at *
      generalize rows[i] = l at *
      generalize hpre : rs.take i = pre at *
      have E4 : Hid (caught (errR (Un.facts L) (before pre r) r) = if (errR (Un.facts L) (before pre r) r).2 = 0 then (0, 0) else errR (Un.facts L) (before pre r) r) := rfl
      have e2 : IntKind.i64.wrap ((i : Int) + 1) = ((i + 1 : Nat) : Int) := by rw [IntWalk.i64_in _ (by omega)]; rfl
      have hl := hru.len
      have hone := hru.one
      go_wp2_with (first | ((with_reducible show wpList _ _ _ ({ dst := some 19, op := _, type := _, pos := _, after := _, guard := _ } :: _) _ _); refine wl_loadP rfl rfl rfl hld ?_) | ((with_reducible show wpList _ _ _ ({ dst := some 7, op := _, type := _, pos := _, after := _, guard := _ } :: _) _ _); refine wl_rbox rfl rfl rfl rfl hl hone rfl rfl ?_; intro V hb hsz hx; have F1 := Lib.hid (HF.out.bel hb); have B1 := Lib.hid hx; clear hb hx hld))
      have hzz := HF.out.size
      have HNU : Hid (∀ s v, f s = some v → v.ownBlock ≠ some wr.heap.size) := fun s v hv e => by
        obtain ⟨rows', -, ho, -⟩ := HF.out.er.own s v hv
        have := (ho.lt _ e).2
        omega
      have HNV : Hid ((Value.slice q es.length cap).ownBlock ≠ some wr.heap.size) := fun e => by have := (HF.out.dg.lt _ e).2; omega
      generalize wr.heap.size = ub at *
      refine (KQ.out m1 m2 fb p1 p2 _ _ _ _ _ sb ub (sb + 2) V F1.out.be F1.out.sc F1.out.er F1.out.bx B1.out F1.out.ce).mono ?_
      rintro _ V2 ⟨rfl, hb⟩
      generalize caught (errR (Un.facts L) (before pre r) r) = D at E4 ⊢
      generalize errR (Un.facts L) (before pre r) r = G at E3 E4
      obtain ⟨pl, E⟩ := D
      dsimp only
      have F2 := Lib.hid (F1.out.bel hb)
      have B2 := Lib.hid (B1.out.bel (by omega) hb)
      have NUD := HNV
      have NUB : Hid (∀ s v, f s = some v → v.ownBlock ≠ some ub) := HNU
      have HS0 : Hid (bs r.nm = bs r.nm) := rfl
      obtain ⟨s, hs0⟩ : ∃ s, bs r.nm = s := ⟨_, rfl⟩
      replace HS0 := Lib.hid hs0
      clear hb F1 B1 KQ hs0
      have a7 := (Below.refl V2.heap.size V2).alloc (Nat.le_refl _) (.cells #[.int .i64 pl, .int .i64 E] 66)
      have D7 := Lib.hid (box_new (w := V2) [.int .i64 pl, .int .i64 E] 66 rfl)
      have F3 := Lib.hid (F2.out.bel a7)
      have B3 := Lib.hid (B2.out.bel (by omega) a7)
      clear a7 F2 B2
      by_cases h0 : G.2 = 0
      · have e5 : (pl, E) = (0, 0) := by rw [E4.out, if_pos h0]
        obtain ⟨rfl, rfl⟩ : pl = 0 ∧ E = 0 := by simpa using e5
        have E5 : Hid (errsR (Un.facts L) [] rs = es ++ errsR (Un.facts L) (rs.take (i + 1)) (rs.drop (i + 1))) := by show _ = _; rw [E3.out, if_pos h0, HTK.out]; rfl
        clear E3 E4 e5 h0
        obtain ⟨d1, -⟩ := D7.out 1 _ rfl
        go_wp2_with fail
        generalize V2.alloc (.cells #[.int .i64 0, .int .i64 0] 66) = V8 at *
        have F9 := Lib.hid (F3.out.bel (Below.refl V8.heap.size V8).drew)
        have B9 := Lib.hid (B3.out.bel (by omega) (Below.refl V8.heap.size V8).drew)
        obtain ⟨w0, -⟩ := B9.out 0 _ hru.f0
        have cce := F9.out.ce
        have hlk8 : ∀ U : World, ErM U (sb + 3) (sb + 1) (.slice q es.length cap) pre f → (Instr.lookup 97 (.map (some (sb + 1))) (.string (bs r.nm)) false).run Try.prog U = .ok ((f r.nm).getD (.slice none 0 0)) U := fun U h => h.mp.ask und_erl und_str r.nm (by trivial) false (.slice none 0 0) (zero_rs U)
        obtain ⟨v9, W9, ob9, hra, hup, hE9, g0, g1, g2, g3, g4, g5⟩ := F9.out.er.add F9.out.size (fun j hj => F9.out.dg.lt j hj) hpl r x y l hru 23
        have hF10 := F9.out.add r ob9 hE9 g0 g1 g2 g3 g4
        rw [← HTK.out] at hF10
        have F10 := Lib.hid hF10
        have a9 := (Below.refl V8.drew.heap.size V8.drew).alloc (Nat.le_refl _) (.cells l.toArray 58)
        have hlkA := hlk8 _ F9.out.er
        have hlkB := hlk8 _ (F9.out.bel a9).er
        have hubl : ub < V8.drew.heap.size := B9.out.lt (by omega)
        have hzd := F9.out.size
        have kub := g5 ub hubl (fun v hv => NUB.out r.nm v hv)
        have kce := g4 (sb + 2) (by omega) (.inl (by omega))
        have BW := B9.out.of kub
        have cW := (World.cell?_of_block (w := V8.drew) (a := ⟨sb + 2, 0, none⟩) kce).trans cce
        have BX := Lib.hid (BW.of (show ({ W9 with heap := W9.heap.setIfInBounds (sb + 1) ob9 } : World).heap[ub]? = W9.heap[ub]? by simp [show sb + 1 ≠ ub by omega]))
        have S1 := Lib.hid (show V8.drew.cell? ⟨sb + 2, 0, none⟩ = some (.map (some (sb + 1))) ∧ V8.drew.cell? ⟨ub, 0, none⟩ = some (.string s) ∧ Hid (BoxL V8.drew ub l) from ⟨cce, by rw [← HS0.out]; exact w0, B9.out⟩)
        have S2 := Lib.hid (show (V8.drew.alloc (.cells l.toArray 58)).cell? ⟨sb + 2, 0, none⟩ = some (.map (some (sb + 1))) ∧ (V8.drew.alloc (.cells l.toArray 58)).cell? ⟨ub, 0, none⟩ = some (.string s) ∧ Hid (BoxL (V8.drew.alloc (.cells l.toArray 58)) ub l) from ⟨(F9.out.bel a9).ce, by rw [← HS0.out]; exact (B9.out.bel (by omega) a9 0 _ hru.f0).1, B9.out.bel (by omega) a9⟩)
        have S3 := Lib.hid (show W9.cell? ⟨sb + 2, 0, none⟩ = some (.map (some (sb + 1))) ∧ W9.cell? ⟨ub, 0, none⟩ = some (.string s) ∧ Hid (BoxL W9 ub l) from ⟨cW, by rw [← HS0.out]; exact (BW 0 _ hru.f0).1, BW⟩)
        have S4 := Lib.hid (show ({ W9 with heap := W9.heap.setIfInBounds (sb + 1) ob9 } : World).cell? ⟨sb + 2, 0, none⟩ = some (.map (some (sb + 1))) ∧ ({ W9 with heap := W9.heap.setIfInBounds (sb + 1) ob9 } : World).cell? ⟨ub, 0, none⟩ = some (.string s) ∧ Hid (BoxL ({ W9 with heap := W9.heap.setIfInBounds (sb + 1) ob9 } : World) ub l) from ⟨F10.out.ce, by rw [← HS0.out]; exact (BX.out 0 _ hru.f0).1, BX.out⟩)
        rw [HS0.out] at hlkA hlkB hup
        clear hF10 hE9 hlk8 a9 g0 g1 g2 g3 g4 g5 kub kce BW cW BX F9 B9 w0 cce
        generalize (f r.nm).getD (.slice none 0 0) = vo at *
        have w0 := S1.out.2.1
        have cce := S1.out.1
        have hS := S1.out
        refine wp_region_held (S := fun w' : World => w'.cell? ⟨sb + 2, 0, none⟩ = some (.map (some (sb + 1))) ∧ w'.cell? ⟨ub, 0, none⟩ = some (.string s) ∧ Hid (BoxL w' ub l)) mixed ?_
        change wpAnyH _ _ _ _ _ _ _ _ V8.drew
        refine tk0 (v := ?_) (by kernel_rfl) (by kernel_rfl) (by kernel_rfl) (fun _ _ _ h => h) (Or.inl ⟨by rfl, ?_⟩) hS ?_
        rotate_left
        · (intro w hSw; (try dsimp only at hSw); go_simp; try with_reducible rfl)
        simp only [Act.put, List.setIfInBounds_toArray, List.set_cons_zero, List.set_cons_succ]
        refine tk1 (v := ?_) (by kernel_rfl) (by kernel_rfl) (by kernel_rfl) (fun _ _ _ h => h) (Or.inl ⟨by rfl, ?_⟩) hS ?_
        rotate_left
        · (intro w hSw; (try dsimp only at hSw); go_simp; try with_reducible rfl)
        simp only [Act.put, List.setIfInBounds_toArray, List.set_cons_zero, List.set_cons_succ]
        refine tk2 (v := ?_) (by kernel_rfl) (by kernel_rfl) (by kernel_rfl) (fun _ _ _ h => h) (Or.inl ⟨by rfl, ?_⟩) hS ?_
        rotate_left
        · (intro w hSw; (try dsimp only at hSw); go_simp; try with_reducible rfl)
        simp only [Act.put, List.setIfInBounds_toArray, List.set_cons_zero, List.set_cons_succ]
        refine tk3 (v := ?_) (by kernel_rfl) (by kernel_rfl) (by kernel_rfl) (fun _ _ _ h => h) (Or.inl ⟨by rfl, ?_⟩) hS ?_
        rotate_left
        · (intro w hSw; (try dsimp only at hSw); go_simp; try with_reducible rfl)
        simp only [Act.put, List.setIfInBounds_toArray, List.set_cons_zero, List.set_cons_succ]
        refine tk4 (v := ?_) (by kernel_rfl) (by kernel_rfl) (by kernel_rfl) (fun _ _ _ h => h) (Or.inl ⟨by rfl, ?_⟩) hS ?_
        rotate_left
        · (intro w hSw; (try dsimp only at hSw); go_simp; try with_reducible rfl)
        simp only [Act.put, List.setIfInBounds_toArray, List.set_cons_zero, List.set_cons_succ]
        refine tk5 (v := ?_) (by kernel_rfl) (by kernel_rfl) (by kernel_rfl) (fun _ _ _ h => h) (Or.inl ⟨by rfl, ?_⟩) hS ?_
        rotate_left
        · (intro w hSw; (try dsimp only at hSw); go_simp; try with_reducible rfl)
        simp only [Act.put, List.setIfInBounds_toArray, List.set_cons_zero, List.set_cons_succ]
        refine tk7 (v := .agg l.toArray) (by kernel_rfl) (by kernel_rfl) (by kernel_rfl) (fun _ _ _ h => h) (Or.inl ⟨by rfl, (by intro w hSw; have h1 := hSw.2.2; exact ex_load rfl rfl (load_rule w _ 0 l hl (fun j v hv => by rw [Nat.zero_add]; exact (h1.out j v hv).1)))⟩) hS ?_
        simp only [Act.put, List.setIfInBounds_toArray, List.set_cons_zero, List.set_cons_succ]
        clear hS w0 cce
        refine wpAnyH_ready (rs := [6, 8]) (by kernel_rfl) (by simp) (st6 (fun K hK => ?_) (st8 (fun K hK => ?_) AllReadyH.nil))
        · refine (if_pos (by kernel_rfl)).mpr ?_
          refine wp_lookup _ _ _ rfl rfl rfl hlkA ?_
          refine hK.out _ _ ?_ (fun hHeld => ?_)
          · exact S1.out
          clear hK K
          try simp only [Act.put, List.setIfInBounds_toArray, List.set_cons_zero, List.set_cons_succ]
          refine wpAnyH_ready (rs := [8]) (by kernel_rfl) (by simp) (st8 (fun K hK => ?_) AllReadyH.nil)
          refine (if_pos (by kernel_rfl)).mpr ?_
          refine wp_slice1 rfl rfl (slice_ruleL l hl _) ?_
          refine hK.out _ _ ?_ (fun hHeld => ?_)
          · exact S2.out
          clear hK K
          try simp only [Act.put, List.setIfInBounds_toArray, List.set_cons_zero, List.set_cons_succ]
          refine wpAnyH_ready (rs := [9]) (by kernel_rfl) (by simp) (st9 (fun K hK => ?_) AllReadyH.nil)
          refine (if_pos (by kernel_rfl)).mpr ?_
          refine wp_app (.tmp 35) (.tmp 37) (by rfl) (by rfl) (by rfl) hra ?_
          refine hK.out _ _ ?_ (fun hHeld => ?_)
          · exact S3.out
          clear hK K
          try simp only [Act.put, List.setIfInBounds_toArray, List.set_cons_zero, List.set_cons_succ]
          refine wpAnyH_ready (rs := [10]) (by kernel_rfl) (by simp) (st10 (fun K hK => ?_) AllReadyH.nil)
          refine (if_pos (by kernel_rfl)).mpr ?_
          refine wp_mapset _ _ _ rfl rfl rfl rfl hup ?_
          refine hK.out _ _ ?_ (fun hHeld => ?_)
          · exact S4.out
          clear hK K
          try simp only [Act.put]
          refine wpAnyH_done (by kernel_rfl) ?_ _
          go_wp2_with fail
          go_roundg (rs.length - (i + 1))
          case measure => omega
          case rel => exact ⟨i + 1, q, cap, es, _, by omega, Nat.le_refl _, by simp, by simp, by first | omega | (simp; omega), E5, F10⟩
        · refine (if_pos (by kernel_rfl)).mpr ?_
          refine wp_slice1 rfl rfl (slice_ruleL l hl _) ?_
          refine hK.out _ _ ?_ (fun hHeld => ?_)
          · exact S2.out
          clear hK K
          try simp only [Act.put, List.setIfInBounds_toArray, List.set_cons_zero, List.set_cons_succ]
          refine wpAnyH_ready (rs := [6]) (by kernel_rfl) (by simp) (st6 (fun K hK => ?_) AllReadyH.nil)
          refine (if_pos (by kernel_rfl)).mpr ?_
          refine wp_lookup _ _ _ rfl rfl rfl hlkB ?_
          refine hK.out _ _ ?_ (fun hHeld => ?_)
          · exact S2.out
          clear hK K
          try simp only [Act.put, List.setIfInBounds_toArray, List.set_cons_zero, List.set_cons_succ]
          refine wpAnyH_ready (rs := [9]) (by kernel_rfl) (by simp) (st9 (fun K hK => ?_) AllReadyH.nil)
          refine (if_pos (by kernel_rfl)).mpr ?_
          refine wp_app (.tmp 35) (.tmp 37) (by rfl) (by rfl) (by rfl) hra ?_
          refine hK.out _ _ ?_ (fun hHeld => ?_)
          · exact S3.out
          clear hK K
          try simp only [Act.put, List.setIfInBounds_toArray, List.set_cons_zero, List.set_cons_succ]
          refine wpAnyH_ready (rs := [10]) (by kernel_rfl) (by simp) (st10 (fun K hK => ?_) AllReadyH.nil)
          refine (if_pos (by kernel_rfl)).mpr ?_
          refine wp_mapset _ _ _ rfl rfl rfl rfl hup ?_
          refine hK.out _ _ ?_ (fun hHeld => ?_)
          · exact S4.out
          clear hK K
          try simp only [Act.put]
          refine wpAnyH_done (by kernel_rfl) ?_ _
          go_wp2_with fail
          go_roundg (rs.length - (i + 1))
          case measure => omega
          case rel => exact ⟨i + 1, q, cap, es, _, by omega, Nat.le_refl _, by simp, by simp, by first | omega | (simp; omega), E5, F10⟩
      · have e5 : (pl, E) = G := by rw [E4.out, if_neg h0]
        have hE0 : (E == 0) = false := by have : E = G.2 := by rw [← e5]
                                          simpa [this] using h0
        have E5 : Hid (errsR (Un.facts L) [] rs = (es ++ [(pl, E)]) ++ errsR (Un.facts L) (rs.take (i + 1)) (rs.drop (i + 1))) := by show _ = _; rw [E3.out, if_neg h0, HTK.out, e5, List.append_assoc]
        clear E3 E4 e5 h0
        obtain ⟨d0, -⟩ := D7.out 0 _ rfl
        obtain ⟨d1, -⟩ := D7.out 1 _ rfl
        generalize hV3 : V2.alloc (.cells #[.int .i64 pl, .int .i64 E] 66) = V3 at *
        obtain ⟨q', cap', V8, hra0, hd, hs, g1, g2, g3, hk, hn8⟩ := F3.out.dg.app2 (by omega) pl E 41
        have F4 := Lib.hid (F3.out.diag hd hs g1 g2 g3 hk hn8)
        have B4 := Lib.hid (B3.out.of (hk ub (B3.out.lt (by omega)) (fun e => by have := NUD.out; exact this e)))
        go_wp2_with ((with_reducible show wpList _ _ _ ({ dst := some 28, op := _, type := _, pos := _, after := _, guard := _ } :: _) _ _); refine wl_app (.tmp 25) (.tmp 27) rfl rfl rfl rfl hra0 ?_)
        clear hra0 hd hs g1 g2 g3 hk hn8 hV3 d0 d1 F3 B3 D7
        have F9 := Lib.hid (F4.out.bel (Below.refl V8.heap.size V8).drew)
        have B9 := Lib.hid (B4.out.bel (by omega) (Below.refl V8.heap.size V8).drew)
        obtain ⟨w0, -⟩ := B9.out 0 _ hru.f0
        have cce := F9.out.ce
        have hlk8 : ∀ U : World, ErM U (sb + 3) (sb + 1) ((Value.slice q' (es ++ [(pl, E)]).length cap')) pre f → (Instr.lookup 97 (.map (some (sb + 1))) (.string (bs r.nm)) false).run Try.prog U = .ok ((f r.nm).getD (.slice none 0 0)) U := fun U h => h.mp.ask und_erl und_str r.nm (by trivial) false (.slice none 0 0) (zero_rs U)
        obtain ⟨v9, W9, ob9, hra, hup, hE9, g0, g1, g2, g3, g4, g5⟩ := F9.out.er.add F9.out.size (fun j hj => F9.out.dg.lt j hj) hpl r x y l hru 23
        have hF10 := F9.out.add r ob9 hE9 g0 g1 g2 g3 g4
        rw [← HTK.out] at hF10
        have F10 := Lib.hid hF10
        have a9 := (Below.refl V8.drew.heap.size V8.drew).alloc (Nat.le_refl _) (.cells l.toArray 58)
        have hlkA := hlk8 _ F9.out.er
        have hlkB := hlk8 _ (F9.out.bel a9).er
        have hubl : ub < V8.drew.heap.size := B9.out.lt (by omega)
        have hzd := F9.out.size
        have kub := g5 ub hubl (fun v hv => NUB.out r.nm v hv)
        have kce := g4 (sb + 2) (by omega) (.inl (by omega))
        have BW := B9.out.of kub
        have cW := (World.cell?_of_block (w := V8.drew) (a := ⟨sb + 2, 0, none⟩) kce).trans cce
        have BX := Lib.hid (BW.of (show ({ W9 with heap := W9.heap.setIfInBounds (sb + 1) ob9 } : World).heap[ub]? = W9.heap[ub]? by simp [show sb + 1 ≠ ub by omega]))
        have S1 := Lib.hid (show V8.drew.cell? ⟨sb + 2, 0, none⟩ = some (.map (some (sb + 1))) ∧ V8.drew.cell? ⟨ub, 0, none⟩ = some (.string s) ∧ Hid (BoxL V8.drew ub l) from ⟨cce, by rw [← HS0.out]; exact w0, B9.out⟩)
        have S2 := Lib.hid (show (V8.drew.alloc (.cells l.toArray 58)).cell? ⟨sb + 2, 0, none⟩ = some (.map (some (sb + 1))) ∧ (V8.drew.alloc (.cells l.toArray 58)).cell? ⟨ub, 0, none⟩ = some (.string s) ∧ Hid (BoxL (V8.drew.alloc (.cells l.toArray 58)) ub l) from ⟨(F9.out.bel a9).ce, by rw [← HS0.out]; exact (B9.out.bel (by omega) a9 0 _ hru.f0).1, B9.out.bel (by omega) a9⟩)
        have S3 := Lib.hid (show W9.cell? ⟨sb + 2, 0, none⟩ = some (.map (some (sb + 1))) ∧ W9.cell? ⟨ub, 0, none⟩ = some (.string s) ∧ Hid (BoxL W9 ub l) from ⟨cW, by rw [← HS0.out]; exact (BW 0 _ hru.f0).1, BW⟩)
        have S4 := Lib.hid (show ({ W9 with heap := W9.heap.setIfInBounds (sb + 1) ob9 } : World).cell? ⟨sb + 2, 0, none⟩ = some (.map (some (sb + 1))) ∧ ({ W9 with heap := W9.heap.setIfInBounds (sb + 1) ob9 } : World).cell? ⟨ub, 0, none⟩ = some (.string s) ∧ Hid (BoxL ({ W9 with heap := W9.heap.setIfInBounds (sb + 1) ob9 } : World) ub l) from ⟨F10.out.ce, by rw [← HS0.out]; exact (BX.out 0 _ hru.f0).1, BX.out⟩)
        rw [HS0.out] at hlkA hlkB hup
        clear hF10 hE9 hlk8 a9 g0 g1 g2 g3 g4 g5 kub kce BW cW BX F9 B9 w0 cce
        generalize (f r.nm).getD (.slice none 0 0) = vo at *
        have w0 := S1.out.2.1
        have cce := S1.out.1
        have hS := S1.out
        refine wp_region_held (S := fun w' : World => w'.cell? ⟨sb + 2, 0, none⟩ = some (.map (some (sb + 1))) ∧ w'.cell? ⟨ub, 0, none⟩ = some (.string s) ∧ Hid (BoxL w' ub l)) mixed ?_
        change wpAnyH _ _ _ _ _ _ _ _ V8.drew
        refine tk0 (v := ?_) (by kernel_rfl) (by kernel_rfl) (by kernel_rfl) (fun _ _ _ h => h) (Or.inl ⟨by rfl, ?_⟩) hS ?_
        rotate_left
        · (intro w hSw; (try dsimp only at hSw); go_simp; try with_reducible rfl)
        simp only [Act.put, List.setIfInBounds_toArray, List.set_cons_zero, List.set_cons_succ]
        refine tk1 (v := ?_) (by kernel_rfl) (by kernel_rfl) (by kernel_rfl) (fun _ _ _ h => h) (Or.inl ⟨by rfl, ?_⟩) hS ?_
        rotate_left
        · (intro w hSw; (try dsimp only at hSw); go_simp; try with_reducible rfl)
        simp only [Act.put, List.setIfInBounds_toArray, List.set_cons_zero, List.set_cons_succ]
        refine tk2 (v := ?_) (by kernel_rfl) (by kernel_rfl) (by kernel_rfl) (fun _ _ _ h => h) (Or.inl ⟨by rfl, ?_⟩) hS ?_
        rotate_left
        · (intro w hSw; (try dsimp only at hSw); go_simp; try with_reducible rfl)
        simp only [Act.put, List.setIfInBounds_toArray, List.set_cons_zero, List.set_cons_succ]
        refine tk3 (v := ?_) (by kernel_rfl) (by kernel_rfl) (by kernel_rfl) (fun _ _ _ h => h) (Or.inl ⟨by rfl, ?_⟩) hS ?_
        rotate_left
        · (intro w hSw; (try dsimp only at hSw); go_simp; try with_reducible rfl)
        simp only [Act.put, List.setIfInBounds_toArray, List.set_cons_zero, List.set_cons_succ]
        refine tk4 (v := ?_) (by kernel_rfl) (by kernel_rfl) (by kernel_rfl) (fun _ _ _ h => h) (Or.inl ⟨by rfl, ?_⟩) hS ?_
        rotate_left
        · (intro w hSw; (try dsimp only at hSw); go_simp; try with_reducible rfl)
        simp only [Act.put, List.setIfInBounds_toArray, List.set_cons_zero, List.set_cons_succ]
        refine tk5 (v := ?_) (by kernel_rfl) (by kernel_rfl) (by kernel_rfl) (fun _ _ _ h => h) (Or.inl ⟨by rfl, ?_⟩) hS ?_
        rotate_left
        · (intro w hSw; (try dsimp only at hSw); go_simp; try with_reducible rfl)
        simp only [Act.put, List.setIfInBounds_toArray, List.set_cons_zero, List.set_cons_succ]
        refine tk7 (v := .agg l.toArray) (by kernel_rfl) (by kernel_rfl) (by kernel_rfl) (fun _ _ _ h => h) (Or.inl ⟨by rfl, (by intro w hSw; have h1 := hSw.2.2; exact ex_load rfl rfl (load_rule w _ 0 l hl (fun j v hv => by rw [Nat.zero_add]; exact (h1.out j v hv).1)))⟩) hS ?_
        simp only [Act.put, List.setIfInBounds_toArray, List.set_cons_zero, List.set_cons_succ]
        clear hS w0 cce
        refine wpAnyH_ready (rs := [6, 8]) (by kernel_rfl) (by simp) (st6 (fun K hK => ?_) (st8 (fun K hK => ?_) AllReadyH.nil))
        · refine (if_pos (by kernel_rfl)).mpr ?_
          refine wp_lookup _ _ _ rfl rfl rfl hlkA ?_
          refine hK.out _ _ ?_ (fun hHeld => ?_)
          · exact S1.out
          clear hK K
          try simp only [Act.put, List.setIfInBounds_toArray, List.set_cons_zero, List.set_cons_succ]
          refine wpAnyH_ready (rs := [8]) (by kernel_rfl) (by simp) (st8 (fun K hK => ?_) AllReadyH.nil)
          refine (if_pos (by kernel_rfl)).mpr ?_
          refine wp_slice1 rfl rfl (slice_ruleL l hl _) ?_
          refine hK.out _ _ ?_ (fun hHeld => ?_)
          · exact S2.out
          clear hK K
          try simp only [Act.put, List.setIfInBounds_toArray, List.set_cons_zero, List.set_cons_succ]
          refine wpAnyH_ready (rs := [9]) (by kernel_rfl) (by simp) (st9 (fun K hK => ?_) AllReadyH.nil)
          refine (if_pos (by kernel_rfl)).mpr ?_
          refine wp_app (.tmp 35) (.tmp 37) (by rfl) (by rfl) (by rfl) hra ?_
          refine hK.out _ _ ?_ (fun hHeld => ?_)
          · exact S3.out
          clear hK K
          try simp only [Act.put, List.setIfInBounds_toArray, List.set_cons_zero, List.set_cons_succ]
          refine wpAnyH_ready (rs := [10]) (by kernel_rfl) (by simp) (st10 (fun K hK => ?_) AllReadyH.nil)
          refine (if_pos (by kernel_rfl)).mpr ?_
          refine wp_mapset _ _ _ rfl rfl rfl rfl hup ?_
          refine hK.out _ _ ?_ (fun hHeld => ?_)
          · exact S4.out
          clear hK K
          try simp only [Act.put]
          refine wpAnyH_done (by kernel_rfl) ?_ _
          go_wp2_with fail
          go_roundg (rs.length - (i + 1))
          case measure => omega
          case rel => exact ⟨i + 1, q', cap', es ++ [(pl, E)], _, by omega, Nat.le_refl _, by simp, by simp, by first | omega | (simp; omega), E5, F10⟩
        · refine (if_pos (by kernel_rfl)).mpr ?_
          refine wp_slice1 rfl rfl (slice_ruleL l hl _) ?_
          refine hK.out _ _ ?_ (fun hHeld => ?_)
          · exact S2.out
          clear hK K
          try simp only [Act.put, List.setIfInBounds_toArray, List.set_cons_zero, List.set_cons_succ]
          refine wpAnyH_ready (rs := [6]) (by kernel_rfl) (by simp) (st6 (fun K hK => ?_) AllReadyH.nil)
          refine (if_pos (by kernel_rfl)).mpr ?_
          refine wp_lookup _ _ _ rfl rfl rfl hlkB ?_
          refine hK.out _ _ ?_ (fun hHeld => ?_)
          · exact S2.out
          clear hK K
          try simp only [Act.put, List.setIfInBounds_toArray, List.set_cons_zero, List.set_cons_succ]
          refine wpAnyH_ready (rs := [9]) (by kernel_rfl) (by simp) (st9 (fun K hK => ?_) AllReadyH.nil)
          refine (if_pos (by kernel_rfl)).mpr ?_
          refine wp_app (.tmp 35) (.tmp 37) (by rfl) (by rfl) (by rfl) hra ?_
          refine hK.out _ _ ?_ (fun hHeld => ?_)
          · exact S3.out
          clear hK K
          try simp only [Act.put, List.setIfInBounds_toArray, List.set_cons_zero, List.set_cons_succ]
          refine wpAnyH_ready (rs := [10]) (by kernel_rfl) (by simp) (st10 (fun K hK => ?_) AllReadyH.nil)
          refine (if_pos (by kernel_rfl)).mpr ?_
          refine wp_mapset _ _ _ rfl rfl rfl rfl hup ?_
          refine hK.out _ _ ?_ (fun hHeld => ?_)
          · exact S4.out
          clear hK K
          try simp only [Act.put]
          refine wpAnyH_done (by kernel_rfl) ?_ _
          go_wp2_with fail
          go_roundg (rs.length - (i + 1))
          case measure => omega
          case rel => exact ⟨i + 1, q', cap', es ++ [(pl, E)], _, by omega, Nat.le_refl _, by simp, by simp, by first | omega | (simp; omega), E5, F10⟩
    · have hz : ¬ (i : Int) < (rs.length : Int) := by omega
      have hie : i = rs.length := by omega
      subst hie
      have hmm2 := HM.out
      rw [List.drop_length] at hmm2
      simp only [errsR, List.append_nil] at hmm2
      go_wp2_with fail
      go_ret
      refine ⟨_, rfl, ?_, HF.out.be⟩
      rw [HR.out, hmm2]
      exact ⟨HF.out.dg.own.mono (by have := HF.out.ws; omega), HF.out.be.size⟩
end Go.Proofs.Ytjifiijgghpniaa
