/-
  ZE: several texts in one.
-/
import Derived.Test.YtjifiijgghpniaaZD
/-
  Contract of units: the unit of a fact.
-/
namespace Go.Proofs.Ytjifiijgghpniaa
open Go.RowKit Un MapKept

set_option maxRecDepth 100000 in
set_option maxHeartbeats 8000000 in
theorem uunit_fact (L : List Dc) (pl : Int) (nm : List UInt8) (n0 d0 : Int) (u : U) (xq : Option Addr) (kl xc : Nat) (m1 m2 : Nat) (w : World) (hm : MapF kS .string w m1 (ftF L)) :
    Calls Try.prog 38 #[.agg #[.map (some m1), .map (some m2)], .agg #[.int .i64 2, .int .i64 pl, .string (bs nm), .int .i64 n0, .int .i64 d0, .bool u.f, .int .i64 u.m, .int .i64 u.a, .int .i64 u.d, .slice xq kl xc]] w fun e w' => GotE (match Un.look (Un.facts L) nm with | some u => .ok u | none => .er 11 pl) e ∧ RowKit.Below w.heap.size w w' := by
  obtain ⟨uf, um, ua, ud⟩ := u
  have HA := Lib.hid (fun (V : World) (h : MapF kS .string V m1 (ftF L)) => MapF.ask (w := V) h und_fts und_str nm (by trivial) true (uV uNum) (zero_unit V))
  simp only [kS, ftF] at HA
  generalize bs nm = s at *
  obtain ⟨W1, hW1⟩ : ∃ W1, W1 = w.alloc (.cells #[.map (some m1), .map (some m2)] 72) := ⟨_, rfl⟩
  have a1 := (Below.refl w.heap.size w).alloc (Nat.le_refl _) (.cells #[.map (some m1), .map (some m2)] 72)
  rw [← hW1] at a1
  have s1 : W1.heap.size = w.heap.size + 1 := by rw [hW1]; simp
  obtain ⟨W2, hW2⟩ : ∃ W2, W2 = W1.alloc (.cells #[.int .i64 2, .int .i64 pl, .string s, .int .i64 n0, .int .i64 d0, .bool uf, .int .i64 um, .int .i64 ua, .int .i64 ud, .slice xq kl xc] 32) := ⟨_, rfl⟩
  have a2 := (Below.refl W1.heap.size W1).alloc (Nat.le_refl _) (.cells #[.int .i64 2, .int .i64 pl, .string s, .int .i64 n0, .int .i64 d0, .bool uf, .int .i64 um, .int .i64 ua, .int .i64 ud, .slice xq kl xc] 32)
  rw [← hW2] at a2
  have x2 : BoxL W2 (w.heap.size + 1) [.int .i64 2, .int .i64 pl, .string s, .int .i64 n0, .int .i64 d0, .bool uf, .int .i64 um, .int .i64 ua, .int .i64 ud, .slice xq kl xc] := by rw [hW2]; exact box_new _ _ s1
  have s2 : W2.heap.size = w.heap.size + 2 := by rw [hW2]; simp; omega
  obtain ⟨W3, hW3⟩ : ∃ W3, W3 = W2.alloc (.cells #[.bool false, .int .i64 0, .int .i64 0, .int .i64 0] 29) := ⟨_, rfl⟩
  have a3 := (Below.refl W2.heap.size W2).alloc (Nat.le_refl _) (.cells #[.bool false, .int .i64 0, .int .i64 0, .int .i64 0] 29)
  rw [← hW3] at a3
  have x3 : BoxL W3 (w.heap.size + 2) [.bool false, .int .i64 0, .int .i64 0, .int .i64 0] := by rw [hW3]; exact box_new _ _ s2
  have X2 := Lib.hid (x2.bel (by simp) a3)
  have X3 := Lib.hid x3
  have B3 := Lib.hid ((a1.trans (a2.mono (by omega))).trans (a3.mono (by omega)))
  clear x2 x3 a1 a2 a3 s1 s2
  obtain ⟨c0, c1, c2, c3, c4, c5, c6, c7, c8, c9⟩ := box10 X2.out
  have M3 := Lib.hid (hm.bel (B3.out.mono (Nat.le_refl _)))
  have hlk := HA.out W3 M3.out
  clear hm HA
  go_enter Try.func38, Try.ntmps38
  cases hl : Un.look (Un.facts L) nm with
  | none =>
    rw [hl] at hlk
    simp only [Option.map_none, Option.getD_none, Option.isSome_none, if_true, uV, uC, uNum] at hlk
    have a4 := (Below.refl W3.heap.size W3).alloc (Nat.le_refl _) (.cells #[.bool false, .int .i64 0, .int .i64 0, .int .i64 0] 29)
    have c1' := (a4.cell (p := ⟨w.heap.size + 1, 1, none⟩) (World.block_lt_of_cell? _ _ c1)).trans c1
    have Y4 := Lib.hid (X3.out.bel (by simp) a4)
    have Z4 := Lib.hid (BoxL.new W3 [.bool false, .int .i64 0, .int .i64 0, .int .i64 0] 29)
    have hzz := X3.out.lt (by simp)
    have nz : w.heap.size + 2 ≠ W3.heap.size := by omega
    have B4 := Lib.hid (B3.out.trans (a4.mono B3.out.size))
    clear a4 X2 X3 B3 M3 c0 c3 c4 c5 c6 c7 c8 c9 c1
    go_wp2_with ((with_reducible show wpList _ _ _ ({ dst := some 30, op := _, type := _, pos := _, after := _, guard := _ } :: _) _ _); rw [← hW1, ← hW2, ← hW3]; clear hW1 hW2 hW3; refine wl_lookup _ _ _ rfl rfl rfl rfl hlk ?_)
    refine (uneed_er 11 pl _).mono ?_
    rintro _ v2 ⟨rfl, rfl⟩
    go_wp2_with fail
    exact bodyPost_panic rfl ⟨rfl, B4.out⟩
  | some v =>
    obtain ⟨vf, vm, va, vd⟩ := v
    rw [hl] at hlk
    simp only [Option.map_some, Option.getD_some, Option.isSome_some, if_true, uV, uC] at hlk
    have a4 := (Below.refl W3.heap.size W3).alloc (Nat.le_refl _) (.cells #[.bool vf, .int .i64 vm, .int .i64 va, .int .i64 vd] 29)
    have c1' := (a4.cell (p := ⟨w.heap.size + 1, 1, none⟩) (World.block_lt_of_cell? _ _ c1)).trans c1
    have Y4 := Lib.hid (X3.out.bel (by simp) a4)
    have Z4 := Lib.hid (BoxL.new W3 [.bool vf, .int .i64 vm, .int .i64 va, .int .i64 vd] 29)
    have hzz := X3.out.lt (by simp)
    have nz : w.heap.size + 2 ≠ W3.heap.size := by omega
    have B4 := Lib.hid (B3.out.trans (a4.mono B3.out.size))
    clear a4 X2 X3 B3 M3 c0 c3 c4 c5 c6 c7 c8 c9 c1
    go_wp2_with ((with_reducible show wpList _ _ _ ({ dst := some 30, op := _, type := _, pos := _, after := _, guard := _ } :: _) _ _); rw [← hW1, ← hW2, ← hW3]; clear hW1 hW2 hW3; refine wl_lookup _ _ _ rfl rfl rfl rfl hlk ?_)
    refine (uneed_ok 11 pl _).mono ?_
    rintro _ v2 ⟨rfl, rfl⟩
    obtain ⟨r0, r1, r2, r3, g0, g1, g2, g3⟩ := box4 Y4.out
    obtain ⟨z0, z1, z2, z3, -⟩ := box4 Z4.out
    generalize W3.alloc (.cells #[.bool vf, .int .i64 vm, .int .i64 va, .int .i64 vd] 29) = W4 at *
    go_wp2_with fail
    exact bodyPost_ret (v := .agg #[.bool vf, .int .i64 vm, .int .i64 va, .int .i64 vd]) (by simp [results, Try.results38, go_sem, r0, r1, r2, r3]) rfl ⟨rfl, (by repeat' (first | (with_reducible exact B4.out) | (with_reducible refine Below.setCell ?_ ?_ _) | (with_reducible refine Below.alloc ?_ ?_ _) | (with_reducible refine Below.drew ?_) | (with_reducible refine below_drewN ?_ _) | (with_reducible exact Below.refl _ _) | omega | (simp; done) | (simp; omega)))⟩
end Go.Proofs.Ytjifiijgghpniaa
/-
  Contract of units: the unit of an expression.
-/
namespace Go.Proofs.Ytjifiijgghpniaa
open Go.RowKit Un MapKept

/-- How things stand within unit, over operands. -/
structure UnS (w wr : World) (m1 m2 : Nat) (C R : List Value) : Prop where
  b0 : BoxL wr w.heap.size [.map (some m1), .map (some m2)]
  b1 : BoxL wr (w.heap.size + 1) C
  b2 : BoxL wr (w.heap.size + 2) [.bool false, .int .i64 0, .int .i64 0, .int .i64 0]
  bo : BoxL wr (w.heap.size + 3) R
  be : RowKit.Below w.heap.size w wr
  sz : w.heap.size + 4 ≤ wr.heap.size
theorem UnS.bel {w wr wr' : World} {m1 m2 : Nat} {C R : List Value} (h : UnS w wr m1 m2 C R) (hB : RowKit.Below wr.heap.size wr wr') : UnS w wr' m1 m2 C R := by
  have hs := h.sz
  exact ⟨h.b0.of (hB.block _ (by omega)), h.b1.of (hB.block _ (by omega)), h.b2.of (hB.block _ (by omega)), h.bo.of (hB.block _ (by omega)), h.be.trans (hB.mono h.be.size), Nat.le_trans hs hB.size⟩
theorem UnS.put {w wr : World} {m1 m2 : Nat} {C A R : List Value} {x0 x1 x2 x3 : Value} (h : UnS w wr m1 m2 C (A ++ x0 :: x1 :: x2 :: x3 :: R)) (a : Nat) (ha : A.length = a) (y0 y1 y2 y3 : Value) :
    UnS w ((((wr.setCell ⟨w.heap.size + 3, a, none⟩ y0).setCell ⟨w.heap.size + 3, a + 1, none⟩ y1).setCell ⟨w.heap.size + 3, a + 2, none⟩ y2).setCell ⟨w.heap.size + 3, a + 3, none⟩ y3) m1 m2 C (A ++ y0 :: y1 :: y2 :: y3 :: R) := by
  have hs := h.sz
  refine ⟨?_, ?_, ?_, ?_, (by repeat' (first | (with_reducible exact h.be) | (with_reducible refine Below.setCell ?_ ?_ _) | (with_reducible refine Below.alloc ?_ ?_ _) | (with_reducible refine Below.drew ?_) | (with_reducible refine below_drewN ?_ _) | (with_reducible exact Below.refl _ _) | omega | (simp; done) | (simp; omega))), by simpa [World.setCell] using hs⟩
  · exact (((h.b0.other (r := w.heap.size + 3) (by omega) a y0).other (r := w.heap.size + 3) (by omega) (a + 1) y1).other (r := w.heap.size + 3) (by omega) (a + 2) y2).other (r := w.heap.size + 3) (by omega) (a + 3) y3
  · exact (((h.b1.other (r := w.heap.size + 3) (by omega) a y0).other (r := w.heap.size + 3) (by omega) (a + 1) y1).other (r := w.heap.size + 3) (by omega) (a + 2) y2).other (r := w.heap.size + 3) (by omega) (a + 3) y3
  · exact (((h.b2.other (r := w.heap.size + 3) (by omega) a y0).other (r := w.heap.size + 3) (by omega) (a + 1) y1).other (r := w.heap.size + 3) (by omega) (a + 2) y2).other (r := w.heap.size + 3) (by omega) (a + 3) y3
  · rw [← set4 A R x0 x1 x2 x3 y0 y1 y2 y3 a ha]
    exact (((h.bo.set a y0).set (a + 1) y1).set (a + 2) y2).set (a + 3) y3
theorem UnS.get {w wr : World} {m1 m2 : Nat} {C A R : List Value} {x0 x1 x2 x3 : Value} (h : UnS w wr m1 m2 C (A ++ x0 :: x1 :: x2 :: x3 :: R)) (a : Nat) (ha : A.length = a) :
    wr.cell? ⟨w.heap.size + 3, a, none⟩ = some x0 ∧ wr.cell? ⟨w.heap.size + 3, a + 1, none⟩ = some x1 ∧ wr.cell? ⟨w.heap.size + 3, a + 2, none⟩ = some x2 ∧ wr.cell? ⟨w.heap.size + 3, a + 3, none⟩ = some x3 ∧ wr.frozen? ⟨w.heap.size + 3, a, none⟩ = false ∧ wr.frozen? ⟨w.heap.size + 3, a + 1, none⟩ = false ∧ wr.frozen? ⟨w.heap.size + 3, a + 2, none⟩ = false ∧ wr.frozen? ⟨w.heap.size + 3, a + 3, none⟩ = false := by
  subst ha
  have g : ∀ j v, (x0 :: x1 :: x2 :: x3 :: R)[j]? = some v → wr.cell? ⟨w.heap.size + 3, A.length + j, none⟩ = some v ∧ wr.frozen? ⟨w.heap.size + 3, A.length + j, none⟩ = false := fun j v hv => h.bo _ v (by rw [List.getElem?_append_right (by omega)]; simpa using hv)
  exact ⟨(g 0 _ rfl).1, (g 1 _ rfl).1, (g 2 _ rfl).1, (g 3 _ rfl).1, (g 0 _ rfl).2, (g 1 _ rfl).2, (g 2 _ rfl).2, (g 3 _ rfl).2⟩
theorem fnds_drop (fs : List (List UInt8 × U)) (ks : List Nd) (i : Nat) (h : i < ks.length) : fnds fs (ks.drop i) = match fnd fs ks[i] with | .er e p => .inl (e, p) | .ok u => match fnds fs (ks.drop (i + 1)) with | .inl x => .inl x | .inr us => .inr (u :: us) := by
  rw [List.drop_eq_getElem_cons h]
  rfl
theorem good_sU {u : U} (h : good u = true) : sU u := good_expo h
theorem ar3 {op : Int} {n : Nat} (h : (n : Int) = arity op) : n ≤ 3 := by
  unfold arity at h
  split at h
  · omega
  · split at h
    · omega
    · split at h
      · omega
      · split at h <;> omega
set_option maxRecDepth 100000 in
set_option maxHeartbeats 16000000 in
theorem uunit_any (L : List Dc) (hfs : ∀ e ∈ Un.facts L, good e.2 = true) (N : Nat) : ∀ (t : Nd), size t ≤ N → ∀ (g : Nat), wf vld g t = true → ∀ (A : Nat → Prop) (x : Kd) (m1 m2 fb p1 p2 : Nat) (w : World), NdM w A t x → ScR w L m1 m2 fb p1 p2 →
    Calls Try.prog 38 #[.agg #[.map (some m1), .map (some m2)], nV t x] w fun e w' => GotE (fnd (Un.facts L) t) e ∧ RowKit.Below w.heap.size w w' := by
  induction N with
  | zero => intro t h; cases t; simp [size] at h
  | succ N ih =>
    intro t hN g hwf A x m1 m2 fb p1 p2 w hx hsc
    obtain ⟨op, pl, nm, n0, d0, u, ks⟩ := t
    obtain ⟨xq, xc⟩ := x
    by_cases h1 : op = 1
    · subst h1
      exact uunit_num pl (bs nm) n0 d0 u xq ks.length xc m1 m2 w
    by_cases h2 : op = 2
    · subst h2
      exact uunit_fact L pl nm n0 d0 u xq ks.length xc m1 m2 w hsc.mp
    obtain ⟨-, hok, hwk⟩ := wf_ks hwf
    simp only [size] at hN
    simp only [Nd.ks] at hwk
    simp only [NdM] at hx
    obtain ⟨bq, off, hp, hkl, hK⟩ := hx
    have har : (ks.length : Int) = arity op := by simp only [okNode, Bool.and_eq_true, decide_eq_true_eq] at hok; exact hok.1
    have hk3 := ar3 har
    have KM := Lib.hid (fun (i : Nat) (hi : i < ks.length) (V : World) (x : Kd) (hn : NdM V A ks[i] x) (hs : ScR V L m1 m2 fb p1 p2) => ih ks[i] (by have := size_get ks i hi; omega) (g - 1) (wfs_get hwk _ (List.getElem_mem hi)) A x m1 m2 fb p1 p2 V hn hs)
    have KG := Lib.hid (fun (i : Nat) (hi : i < ks.length) (u : U) (h : fnd (Un.facts L) ks[i] = .ok u) => fnd_good hfs ks[i] (g - 1) u (wfs_get hwk _ (List.getElem_mem hi)) h)
    have KO := Lib.hid (fun (V : World) (us : List U) (hs : ScR V L m1 m2 fb p1 p2) (hS : SlR V (some ⟨w.heap.size + 3, 0, none⟩) (w.heap.size + 3) 0 us.length 4 (us.map uC)) (hl : us.length = ks.length) (hg : ∀ u ∈ us, sU u) => op_any hs.op op us _ _ 0 ks.length hS (by rw [hl]; exact har) h1 h2 hg)
    clear ih hwf hok hwk hfs har
    obtain ⟨R, hR⟩ : ∃ R, R = fnd (Un.facts L) (.mk op pl nm n0 d0 u ks) := ⟨_, rfl⟩
    rw [← hR]
    have HR : Hid (R = match fnds (Un.facts L) ks with | .inl (e, p) => .er e p | .inr us => match opU op us with | some u => .ok u | none => .er 12 pl) := by
      show _ = _
      rw [hR]
      simp only [fnd, if_neg h1, if_neg h2]
      cases fnds (Un.facts L) ks <;> rfl
    clear hR
    obtain ⟨uf, um, ua, ud⟩ := u
    simp only [nV, nC]
    generalize bs nm = s at *
    obtain ⟨W1, hW1⟩ : ∃ W1, W1 = w.alloc (.cells #[.map (some m1), .map (some m2)] 72) := ⟨_, rfl⟩
    have a1 := (Below.refl w.heap.size w).alloc (Nat.le_refl _) (.cells #[.map (some m1), .map (some m2)] 72)
    rw [← hW1] at a1
    have x1 : BoxL W1 w.heap.size [.map (some m1), .map (some m2)] := by rw [hW1]; exact box_new _ _ rfl
    have s1 : W1.heap.size = w.heap.size + 1 := by rw [hW1]; simp
    obtain ⟨W2, hW2⟩ : ∃ W2, W2 = W1.alloc (.cells #[.int .i64 op, .int .i64 pl, .string s, .int .i64 n0, .int .i64 d0, .bool uf, .int .i64 um, .int .i64 ua, .int .i64 ud, .slice xq ks.length xc] 32) := ⟨_, rfl⟩
    have a2 := (Below.refl W1.heap.size W1).alloc (Nat.le_refl _) (.cells #[.int .i64 op, .int .i64 pl, .string s, .int .i64 n0, .int .i64 d0, .bool uf, .int .i64 um, .int .i64 ua, .int .i64 ud, .slice xq ks.length xc] 32)
    rw [← hW2] at a2
    have x2 : BoxL W2 (w.heap.size + 1) [.int .i64 op, .int .i64 pl, .string s, .int .i64 n0, .int .i64 d0, .bool uf, .int .i64 um, .int .i64 ua, .int .i64 ud, .slice xq ks.length xc] := by rw [hW2]; exact box_new _ _ s1
    have s2 : W2.heap.size = w.heap.size + 2 := by rw [hW2]; simp; omega
    obtain ⟨W3, hW3⟩ : ∃ W3, W3 = W2.alloc (.cells #[.bool false, .int .i64 0, .int .i64 0, .int .i64 0] 29) := ⟨_, rfl⟩
    have a3 := (Below.refl W2.heap.size W2).alloc (Nat.le_refl _) (.cells #[.bool false, .int .i64 0, .int .i64 0, .int .i64 0] 29)
    rw [← hW3] at a3
    have x3 : BoxL W3 (w.heap.size + 2) [.bool false, .int .i64 0, .int .i64 0, .int .i64 0] := by rw [hW3]; exact box_new _ _ s2
    have X1 := Lib.hid ((x1.bel (by simp) a2).bel (by simp) a3)
    have X2 := Lib.hid (x2.bel (by simp) a3)
    have s3 : W3.heap.size = w.heap.size + 3 := by rw [hW3]; simp; omega
    have X3 := Lib.hid x3
    have B3 := Lib.hid ((a1.trans (a2.mono (by omega))).trans (a3.mono (by omega)))
    clear x1 x2 x3 a1 a2 a3 s1 s2
    have A4 := (Below.refl W3.heap.size W3).alloc (Nat.le_refl _) (.cells (zs ks.length).toArray 29)
    have hmk := run_mkU ks.length hk3 W3
    have hs4 : (W3.alloc (.cells (zs ks.length).toArray 29)).heap.size = w.heap.size + 4 := by simp; omega
    have HU : Hid (UnS w (W3.alloc (.cells (zs ks.length).toArray 29)) m1 m2 [.int .i64 op, .int .i64 pl, .string s, .int .i64 n0, .int .i64 d0, .bool uf, .int .i64 um, .int .i64 ua, .int .i64 ud, .slice xq ks.length xc] (zs ks.length)) :=
      ⟨X1.out.bel (by simp) A4, X2.out.bel (by simp) A4, X3.out.bel (by simp) A4, box_new _ _ s3, B3.out.trans (A4.mono B3.out.size), by omega⟩
    clear A4 hs4
    have HK := Lib.hid hK
    have HP := Lib.hid hp
    have HSC := Lib.hid hsc
    clear hK hp hsc
    have e1 : (op == 1) = false := by simpa using h1
    have e2 : (op == 2) = false := by simpa using h2
    obtain ⟨c0, c1, c2, c3, c4, c5, c6, c7, c8, c9⟩ := box10 X2.out
    have h3s : W3.heap.size = w.heap.size + 3 := s3
    go_enter Try.func38, Try.ntmps38
    go_wp2_with ((with_reducible show wpList _ _ _ ({ dst := some 41, op := _, type := _, pos := _, after := _, guard := _ } :: _) _ _); rw [← hW1, ← hW2, ← hW3]; clear hW1 hW2 hW3; refine wl_mk _ _ rfl rfl rfl rfl hmk ?_; generalize W3.alloc (.cells (zs ks.length).toArray 29) = W4 at *; clear hmk c0 c1 c2 c3 c4 c5 c6 c7 c8 c9; obtain ⟨c0, c1, c2, c3, c4, c5, c6, c7, c8, c9⟩ := box10 HU.out.b1)
    go_loopg [45] ks.length (fun g v45 wr => ∃ (i : Nat) (us : List U), i ≤ ks.length ∧ ks.length - i ≤ g ∧ v45 = .int .i64 i ∧ us.length = i ∧ Hid (fnds (Un.facts L) ks = match fnds (Un.facts L) (ks.drop i) with | .inl x => .inl x | .inr vs => .inr (us ++ vs)) ∧ Hid (∀ u ∈ us, good u = true) ∧ Hid (UnS w wr m1 m2 [.int .i64 op, .int .i64 pl, .string s, .int .i64 n0, .int .i64 d0, .bool uf, .int .i64 um, .int .i64 ua, .int .i64 ud, .slice xq ks.length xc] (flat4 us ++ zs (ks.length - i))))
    case atStart => exact ⟨0, [], Nat.zero_le _, by omega, by simp, rfl, by show _ = _; simp only [List.drop_zero]; cases fnds (Un.facts L) ks <;> rfl, (fun u hu => absurd hu List.not_mem_nil : ∀ u ∈ ([] : List U), good u = true), HU⟩
    case round =>
      obtain ⟨i, us, hi, hg, rfl, hul, HM, HG, HS⟩ := hrel
      clear HU c0 c1 c2 c3 c4 c5 c6 c7 c8 c9
      obtain ⟨c0, c1, c2, c3, c4, c5, c6, c7, c8, c9⟩ := box10 HS.out.b1
      by_cases hlt : i < ks.length
      · have hz : (i : Int) < (ks.length : Int) := by omega
        have hq := (HP.out (by omega)).1
        have hbq := (HP.out (by omega)).2.2
        have hAb := (HP.out (by omega)).2.1
        subst hq
        have HW := Lib.hid HS.out.be
        obtain ⟨⟨yq, yc⟩, hc, hn⟩ := KdM.get (KdM.keep HW.out.size (fun j _ hj => HW.out.block j hj) (fun _ h _ => h) bq hAb hbq off ks HK.out) i hlt
        have KQ : Hid (∀ V, RowKit.Below wr.heap.size wr V → Calls Try.prog 38 #[.agg #[.map (some m1), .map (some m2)], nV ks[i] ⟨yq, yc⟩] V fun e w' => GotE (fnd (Un.facts L) ks[i]) e ∧ RowKit.Below V.heap.size V w') := fun V hV => KM.out i hlt V _ (NdM.bel hV hn) ((HSC.out.bel HW.out).bel hV)
        have E3 := Lib.hid (HM.out.trans (by rw [fnds_drop _ ks i hlt]))
        have E4 := Lib.hid (fun u h => KG.out i hlt u h)
        obtain ⟨o0, o1, o2, o3, q0, q1, q2, q3⟩ : wr.cell? ⟨w.heap.size + 3, i * 4, none⟩ = some (.bool false) ∧ wr.cell? ⟨w.heap.size + 3, i * 4 + 1, none⟩ = some (.int .i64 0) ∧ wr.cell? ⟨w.heap.size + 3, i * 4 + 2, none⟩ = some (.int .i64 0) ∧ wr.cell? ⟨w.heap.size + 3, i * 4 + 3, none⟩ = some (.int .i64 0) ∧ wr.frozen? ⟨w.heap.size + 3, i * 4, none⟩ = false ∧ wr.frozen? ⟨w.heap.size + 3, i * 4 + 1, none⟩ = false ∧ wr.frozen? ⟨w.heap.size + 3, i * 4 + 2, none⟩ = false ∧ wr.frozen? ⟨w.heap.size + 3, i * 4 + 3, none⟩ = false := by
          have h := HS.out
          rw [show ks.length - i = (ks.length - (i + 1)) + 1 by omega, zs_succ] at h
          exact h.get (i * 4) (by rw [flat4_len, hul])
        clear o0 o1 o2 o3 q0 q1 q2 q3 hn HM
        generalize ks[i] = k at *
        generalize fnd (Un.facts L) k = G at *
        obtain ⟨op', pl', nm', n', d', ⟨uf', um', ua', ud'⟩, ks'⟩ := k
        simp only [nC] at hc
        simp only [nV, nC] at KQ
        have z0 := hc 0 _ rfl
        have z1 := hc 1 _ rfl
        have z2 := hc 2 _ rfl
        have z3 := hc 3 _ rfl
        have z4 := hc 4 _ rfl
        have z5 := hc 5 _ rfl
        have z6 := hc 6 _ rfl
        have z7 := hc 7 _ rfl
        have z8 := hc 8 _ rfl
        have z9 := hc 9 _ rfl
        rw [Nat.add_zero] at z0
        have e3 : IntKind.i64.wrap ((i : Int) + 1) = ((i + 1 : Nat) : Int) := by rw [IntWalk.i64_in _ (by omega)]; rfl
        clear hc
        have A5 := (Below.refl wr.heap.size wr).alloc (Nat.le_refl _) (.cells #[.int .i64 op', .int .i64 pl', .string (bs nm'), .int .i64 n', .int .i64 d', .bool uf', .int .i64 um', .int .i64 ua', .int .i64 ud', .slice yq ks'.length yc] 32)
        have HS5 := Lib.hid (HS.out.bel A5)
        have H5 := Lib.hid A5
        have X5 := Lib.hid (BoxL.new wr [.int .i64 op', .int .i64 pl', .string (bs nm'), .int .i64 n', .int .i64 d', .bool uf', .int .i64 um', .int .i64 ua', .int .i64 ud', .slice yq ks'.length yc] 32)
        have nw : wr.heap.size ≠ w.heap.size := by have := HS.out.sz; omega
        obtain ⟨y0, -⟩ := HS5.out.b0 0 _ rfl
        obtain ⟨y1, -⟩ := HS5.out.b0 1 _ rfl
        clear A5 c0 c1 c2 c3 c4 c5 c6 c7 c8 c9
        go_wp2_with fail
        refine (KQ.out _ H5.out).mono ?_
        rintro e v ⟨hG, hb⟩
        have HS6 := Lib.hid (HS5.out.bel hb)
        clear hb KQ y0 y1 HS5 H5 X5
        cases G with
        | er E p =>
          have he : e = .panicked (failU E p) := hG
          subst he
          have HR2 : Hid (R = .er E p) := by show _ = _; rw [HR.out, E3.out]
          go_wp2_with fail
          exact bodyPost_panic rfl ⟨by rw [HR2.out]; rfl, HS6.out.be⟩
        | ok v0 =>
          have hgd := E4.out v0 rfl
          obtain ⟨vf, vm, va, vd⟩ := v0
          have he : e = .returned (uV ⟨vf, vm, va, vd⟩) := hG
          simp only [uV, uC] at he
          subst he
          have h6 := HS6.out
          rw [show ks.length - i = (ks.length - (i + 1)) + 1 by omega, zs_succ] at h6
          obtain ⟨o0, o1, o2, o3, q0, q1, q2, q3⟩ := h6.get (i * 4) (by rw [flat4_len, hul])
          have HU7 := Lib.hid (h6.put (i * 4) (by rw [flat4_len, hul]) (.bool vf) (.int .i64 vm) (.int .i64 va) (.int .i64 vd))
          have HG7 : Hid (∀ u ∈ us ++ [(⟨vf, vm, va, vd⟩ : U)], good u = true) := fun u hu => by
            rcases List.mem_append.1 hu with h | h
            · exact HG.out u h
            · rw [List.mem_singleton.1 h]; exact hgd
          clear h6 HS6 hgd
          go_wp2_with fail
          go_roundg (ks.length - (i + 1))
          case measure => omega
          case rel => exact ⟨i + 1, us ++ [⟨vf, vm, va, vd⟩], by omega, Nat.le_refl _, by simp, by rw [List.length_append, hul]; rfl, by show _ = _; rw [E3.out]; cases fnds (Un.facts L) (ks.drop (i + 1)) <;> simp, HG7, by rw [flat4_snoc, List.append_assoc]; exact HU7⟩
      · have hz : ¬ (i : Int) < (ks.length : Int) := by omega
        have hie : i = ks.length := by omega
        subst hie
        have hf : fnds (Un.facts L) ks = .inr us := by
          have := HM.out
          rw [List.drop_length] at this
          simpa [fnds] using this
        have hbo := HS.out.bo
        rw [Nat.sub_self] at hbo
        have hbo : BoxL wr (w.heap.size + 3) (flat4 us) := by have e : zs 0 = [] := rfl; rw [e, List.append_nil] at hbo; exact hbo
        have hsc := HSC.out.bel HS.out.be
        obtain ⟨F, caps, hF, hE, hC⟩ := KO.out wr us hsc (flat_slr hbo hul hk3 (by have := HS.out.sz; omega)) hul (fun u hu => good_sU (HG.out u hu))
        have hlk : (Instr.lookup 70 (.map (some m2)) (.int .i64 op) false).run Try.prog wr = .ok (.func (.func F) #[] caps) wr := by
          have := hsc.op.mp.ask und_ops und_int op (by rfl) false .nilFunc (zero_fn wr)
          rw [hF] at this
          exact this
        have HR2 : Hid (R = match opU op us with | some u => .ok u | none => .er 12 pl) := by show _ = _; rw [HR.out, hf]
        have KC := Lib.hid hC
        rw [hul] at KC
        clear hf hbo hsc hF hC HM
        obtain ⟨y0, -⟩ := HS.out.b0 0 _ rfl
        obtain ⟨y1, -⟩ := HS.out.b0 1 _ rfl
        go_wp2_with ((with_reducible show wpList _ _ _ ({ dst := some 62, op := _, type := _, pos := _, after := _, guard := _ } :: _) _ _); refine wl_lookup _ _ _ rfl rfl rfl rfl hlk ?_)
        clear c0 c1 c2 c3 c4 c5 c6 c7 c8 c9 y0 y1
        refine KC.out.mono ?_
        rintro e v ⟨⟨val, ok, rfl, hv⟩, hb⟩
        have HS8 := Lib.hid (HS.out.bel hb)
        clear hb KC HS KO KM KG
        cases ho : opU op us with
        | none =>
          rw [ho] at hv HR2
          obtain ⟨rfl, ⟨xf, xm, xa, xd⟩, rfl⟩ := hv
          clear ho
          simp only [uV, uC]
          have A9 := (Below.refl v.heap.size v).alloc (Nat.le_refl _) (.cells #[.bool xf, .int .i64 xm, .int .i64 xa, .int .i64 xd] 29)
          have HS9 := Lib.hid (HS8.out.bel A9)
          have X9 := Lib.hid (BoxL.new v [.bool xf, .int .i64 xm, .int .i64 xa, .int .i64 xd] 29)
          have nx : w.heap.size + 2 ≠ v.heap.size := by have := HS8.out.sz; omega
          obtain ⟨y1, -⟩ := HS9.out.b1 1 _ rfl
          clear A9 HS8
          go_wp2_with fail
          refine (uneed_er 12 pl _).mono ?_
          rintro _ v2 ⟨rfl, rfl⟩
          go_wp2_with fail
          exact bodyPost_panic rfl ⟨by rw [HR2.out]; rfl, HS9.out.be⟩
        | some x =>
          rw [ho] at hv HR2
          obtain ⟨rfl, rfl⟩ := hv
          obtain ⟨xf, xm, xa, xd⟩ := x
          clear ho
          simp only [uV, uC]
          have A9 := (Below.refl v.heap.size v).alloc (Nat.le_refl _) (.cells #[.bool xf, .int .i64 xm, .int .i64 xa, .int .i64 xd] 29)
          have HS9 := Lib.hid (HS8.out.bel A9)
          have X9 := Lib.hid (BoxL.new v [.bool xf, .int .i64 xm, .int .i64 xa, .int .i64 xd] 29)
          have nx : w.heap.size + 2 ≠ v.heap.size := by have := HS8.out.sz; omega
          obtain ⟨y1, -⟩ := HS9.out.b1 1 _ rfl
          clear A9 HS8
          go_wp2_with fail
          refine (uneed_ok 12 pl _).mono ?_
          rintro _ v2 ⟨rfl, rfl⟩
          obtain ⟨r0, r1, r2, r3, g0, g1, g2, g3⟩ := box4 HS9.out.b2
          obtain ⟨z0, z1, z2, z3, -⟩ := box4 X9.out
          generalize v.alloc (.cells #[.bool xf, .int .i64 xm, .int .i64 xa, .int .i64 xd] 29) = V9 at *
          go_wp2_with fail
          exact bodyPost_ret (v := .agg #[.bool xf, .int .i64 xm, .int .i64 xa, .int .i64 xd]) (by simp [results, Try.results38, go_sem, r0, r1, r2, r3]) rfl ⟨by rw [HR2.out]; rfl, (by repeat' (first | (with_reducible exact HS9.out.be) | (with_reducible refine Below.setCell ?_ ?_ _) | (with_reducible refine Below.alloc ?_ ?_ _) | (with_reducible refine Below.drew ?_) | (with_reducible refine below_drewN ?_ _) | (with_reducible exact Below.refl _ _) | omega | (simp; done) | (simp; omega)))⟩
end Go.Proofs.Ytjifiijgghpniaa
/-
  Contracts of units: Valid, and the check within Of.
-/
namespace Go.Proofs.Ytjifiijgghpniaa
open Go.RowKit Un MapKept

theorem facts_good {L : List Dc} (h : formD L = true) : ∀ e ∈ Un.facts L, good e.2 = true := fun e he => by
  simp only [formD, Bool.and_eq_true, List.all_eq_true] at h
  obtain ⟨d, hd, rfl⟩ := List.mem_map.1 he
  exact basic_good (h.2 d hd).2
set_option maxRecDepth 100000 in
set_option maxHeartbeats 8000000 in
theorem uValid_any (L : List Dc) (t : Nd) (hn : nin t) (p : Option Addr) (b off c : Nat) (A : Nat → Prop) (x : Kd) (w : World) (hS : SlR w p b off L.length 8 (L.map dC)) (hx : NdM w A t x) :
    Calls Try.prog 15 #[.slice p L.length c, nV t x] w fun e w' => e = .returned (.bool (rightD L && form vld t)) ∧ RowKit.Below w.heap.size w w' := by
  have KA := Lib.hid (fun V h => uareFacts_any L p b off c V h)
  have KF := Lib.hid (fun (hl : L.length ≤ 1000000) V h => ufactErrors_any L hl p b off c V h)
  have KX := Lib.hid (fun V h => uisExpr_any t hn A x V h)
  have HS := Lib.hid hS
  have HX := Lib.hid hx
  have HR : Hid (rightD L = (formD L && (errsD [] L).isEmpty)) := rfl
  have HL : Hid (formD L = true → L.length ≤ 12) := fun h => by simp only [formD, Bool.and_eq_true, decide_eq_true_eq] at h; exact h.1
  have HRD : Hid ((rightD L && form vld t) = ((formD L && (errsD [] L).isEmpty) && form vld t)) := rfl
  clear hS hx hn
  rw [HRD.out]
  generalize form vld t = ex at *
  obtain ⟨op, pl, nm, n0, d0, ⟨uf, um, ua, ud⟩, ks⟩ := t
  obtain ⟨xq, xc⟩ := x
  simp only [nV, nC] at KX ⊢
  have A1 := (Below.refl w.heap.size w).alloc (Nat.le_refl _) (.cells #[.int .i64 op, .int .i64 pl, .string (bs nm), .int .i64 n0, .int .i64 d0, .bool uf, .int .i64 um, .int .i64 ua, .int .i64 ud, .slice xq ks.length xc] 32)
  have X1 := Lib.hid (BoxL.new w [.int .i64 op, .int .i64 pl, .string (bs nm), .int .i64 n0, .int .i64 d0, .bool uf, .int .i64 um, .int .i64 ua, .int .i64 ud, .slice xq ks.length xc] 32)
  have B1 := Lib.hid A1
  have S1 := Lib.hid (HS.out.bel A1)
  have N1 := Lib.hid (HX.out.bel A1)
  clear A1 HS HX HR HRD
  generalize bs nm = s at *
  go_enter Try.func15, Try.ntmps15
  go_wp2_with fail
  generalize w.alloc (.cells #[.int .i64 op, .int .i64 pl, .string s, .int .i64 n0, .int .i64 d0, .bool uf, .int .i64 um, .int .i64 ua, .int .i64 ud, .slice xq ks.length xc] 32) = W1 at *
  refine (KA.out _ S1.out).mono ?_
  rintro _ V1 ⟨rfl, hb⟩
  have B2 := Lib.hid (B1.out.trans (hb.mono B1.out.size))
  have S2 := Lib.hid (S1.out.bel hb)
  have N2 := Lib.hid (N1.out.bel hb)
  have X2 := Lib.hid (X1.out.bel (by simp) hb)
  clear hb B1 S1 N1 X1 KA
  cases hf : formD L with
  | false =>
    have HF0 := Lib.hid hf
    clear hf HL
    go_wp2_with fail
    go_ret
    exact ⟨ret_bool (by rw [HF0.out]; rfl), B2.out⟩
  | true =>
    have KF2 := Lib.hid (KF.out (by have := HL.out hf; omega) V1 S2.out)
    have HF0 := Lib.hid hf
    clear KF HL hf
    go_wp2_with fail
    refine KF2.out.mono ?_
    rintro _ V2 ⟨v, rfl, hd, hb⟩
    obtain ⟨q, cap, rfl⟩ := hd.slice
    have B3 := Lib.hid (B2.out.trans (hb.mono B2.out.size))
    have N3 := Lib.hid (N2.out.bel hb)
    obtain ⟨c0, c1, c2, c3, c4, c5, c6, c7, c8, c9⟩ := box10 (X2.out.bel (by simp) hb)
    clear hb B2 S2 N2 X2 KF2 hd
    cases he : errsD [] L with
    | cons a l =>
      have hz : (((a :: l).length : Nat) : Int) ≠ 0 := by simp; omega
      have hzb : ((((a :: l).length : Nat) : Int) == 0) = false := by simpa using hz
      have HE0 := Lib.hid he
      clear he
      generalize (a :: l).length = n at *
      go_wp2_with fail
      go_ret
      exact ⟨ret_bool (by rw [HF0.out, HE0.out]; rfl), B3.out⟩
    | nil =>
      have HE0 := Lib.hid he
      clear he
      go_wp2_with fail
      refine (KX.out _ N3.out).mono ?_
      rintro _ V3 ⟨rfl, hb⟩
      have B4 := Lib.hid (B3.out.trans (hb.mono B3.out.size))
      clear hb
      go_wp2_with fail
      go_ret
      exact ⟨ret_bool (by rw [HF0.out, HE0.out]; simp), B4.out⟩
/-- What the check of an expression leaves. -/
def Of1 (w : World) (ub : Nat) (g : Got) (e : Ending) (w' : World) : Prop := match g with
  | .ok u => e = .returned (.tuple #[]) ∧ BoxL w' ub (uC u) ∧ Kept ub w w'
  | .er E p => e = .panicked (failU E p) ∧ RowKit.Below w.heap.size w w'
set_option maxRecDepth 100000 in
set_option maxHeartbeats 8000000 in
theorem uOf1_any (L : List Dc) (t : Nd) (hf : formD L = true) (he : errsD [] L = []) (g : Nat) (hw : wf vld g t = true) (p : Option Addr) (b off c : Nat) (A : Nat → Prop) (x : Kd) (sb nb ub : Nat) (w : World) (hS : SlR w p b off L.length 8 (L.map dC)) (hx : NdM w A t x)
    (h1 : w.cell? ⟨sb, 0, none⟩ = some (.slice p L.length c)) (h2 : BoxL w nb (nC t x)) (h3 : BoxL w ub [.bool false, .int .i64 0, .int .i64 0, .int .i64 0]) :
    Calls Try.prog 36 #[.pointer (some ⟨sb, 0, none⟩), .pointer (some ⟨nb, 0, none⟩), .pointer (some ⟨ub, 0, none⟩)] w fun e w' => Of1 w ub (fnd (Un.facts L) t) e w' := by
  have KN := Lib.hid (fun V h => unewScope_any L he p b off c V h)
  have KU := Lib.hid (fun V m1 m2 fb p1 p2 h hs => uunit_any L (facts_good hf) (size t) t (Nat.le_refl _) g hw A x m1 m2 fb p1 p2 V h hs)
  have HS := Lib.hid hS
  have HX := Lib.hid hx
  have HC := Lib.hid h1
  have HN := Lib.hid h2
  have HUB := Lib.hid h3
  have hub := h3.lt (by simp)
  have hnb := h2.lt (by rw [nC_len]; omega)
  have hsb := World.block_lt_of_cell? _ _ h1
  simp only at hsb
  clear hS hx h1 h2 h3 hf he hw
  generalize fnd (Un.facts L) t = G at *
  obtain ⟨op, pl, nm, n0, d0, ⟨uf, um, ua, ud⟩, ks⟩ := t
  obtain ⟨xq, xc⟩ := x
  simp only [nV, nC] at KU HN
  generalize bs nm = s at *
  have NS : sb ≠ ub := fun e => by
    have h1 := HC.out
    have h2 := (HUB.out 0 _ rfl).1
    rw [e, h2] at h1
    cases h1
  have NN : nb ≠ ub := fun e => by
    have h1 := (HN.out 0 _ rfl).1
    have h2 := (HUB.out 0 _ rfl).1
    rw [e, h2] at h1
    cases h1
  obtain ⟨c0, c1, c2, c3, c4, c5, c6, c7, c8, c9⟩ := box10 HN.out
  have cs := HC.out
  go_enter Try.func36, Try.ntmps36
  go_wp2_with fail
  have hS : w.drew.cell? ⟨sb, 0, none⟩ = some (.slice p L.length c) ∧ w.drew.cell? ⟨nb, 0, none⟩ = some (.int .i64 op) ∧ w.drew.cell? ⟨nb, 1, none⟩ = some (.int .i64 pl) ∧ w.drew.cell? ⟨nb, 2, none⟩ = some (.string s) ∧ w.drew.cell? ⟨nb, 3, none⟩ = some (.int .i64 n0) ∧ w.drew.cell? ⟨nb, 4, none⟩ = some (.int .i64 d0) ∧ w.drew.cell? ⟨nb, 5, none⟩ = some (.bool uf) ∧ w.drew.cell? ⟨nb, 6, none⟩ = some (.int .i64 um) ∧ w.drew.cell? ⟨nb, 7, none⟩ = some (.int .i64 ua) ∧ w.drew.cell? ⟨nb, 8, none⟩ = some (.int .i64 ud) ∧ w.drew.cell? ⟨nb, 9, none⟩ = some (.slice xq ks.length xc) := ⟨cs, c0, c1, c2, c3, c4, c5, c6, c7, c8, c9⟩
  refine wp_region_held (S := fun w' : World => w'.cell? ⟨sb, 0, none⟩ = some (.slice p L.length c) ∧ w'.cell? ⟨nb, 0, none⟩ = some (.int .i64 op) ∧ w'.cell? ⟨nb, 1, none⟩ = some (.int .i64 pl) ∧ w'.cell? ⟨nb, 2, none⟩ = some (.string s) ∧ w'.cell? ⟨nb, 3, none⟩ = some (.int .i64 n0) ∧ w'.cell? ⟨nb, 4, none⟩ = some (.int .i64 d0) ∧ w'.cell? ⟨nb, 5, none⟩ = some (.bool uf) ∧ w'.cell? ⟨nb, 6, none⟩ = some (.int .i64 um) ∧ w'.cell? ⟨nb, 7, none⟩ = some (.int .i64 ua) ∧ w'.cell? ⟨nb, 8, none⟩ = some (.int .i64 ud) ∧ w'.cell? ⟨nb, 9, none⟩ = some (.slice xq ks.length xc)) mixed ?_
  change wpAnyH _ _ _ _ _ _ _ _ w.drew
  refine tk0 (v := ?_) (by kernel_rfl) (by kernel_rfl) (by kernel_rfl) (fun _ _ _ h => h) (Or.inl ⟨by rfl, ?_⟩) hS ?_
  rotate_left
  · (intro w hSw; (try dsimp only at hSw); go_simp; try with_reducible rfl)
  simp only [Act.put, List.setIfInBounds_toArray, List.set_cons_zero, List.set_cons_succ]
  refine tk2 (v := ?_) (by kernel_rfl) (by kernel_rfl) (by kernel_rfl) (fun _ _ _ h => h) (Or.inl ⟨by rfl, ?_⟩) hS ?_
  rotate_left
  · (intro w hSw; (try dsimp only at hSw); go_simp; try with_reducible rfl)
  simp only [Act.put, List.setIfInBounds_toArray, List.set_cons_zero, List.set_cons_succ]
  refine wpAnyH_ready (rs := [1]) (by kernel_rfl) (by simp) (st1 (fun K hK => ?_) AllReadyH.nil)
  go_simp
  have D1 := (Below.refl w.heap.size w).drew
  refine (KN.out _ (HS.out.bel D1)).mono ?_
  rintro _ V1 ⟨m1, m2, fb, p1, p2, rfl, hsc, hb⟩
  have B1 := Lib.hid (D1.trans hb)
  have SC := Lib.hid hsc
  have X1 := Lib.hid (HX.out.bel B1.out)
  have C1 : Hid (V1.cell? ⟨sb, 0, none⟩ = some (.slice p L.length c)) := (B1.out.cell (p := ⟨sb, 0, none⟩) hsb).trans HC.out
  have N1 := Lib.hid (HN.out.bel (by simp) B1.out)
  have U1 := Lib.hid (HUB.out.bel (by simp) B1.out)
  clear D1 hb hsc HX HC HN HUB HS hS KN c0 c1 c2 c3 c4 c5 c6 c7 c8 c9 cs
  obtain ⟨c0, c1, c2, c3, c4, c5, c6, c7, c8, c9⟩ := box10 N1.out
  go_wp2_with fail
  refine hK.out _ _ ?_ (fun hHeld => ?_)
  · exact ⟨C1.out, c0, c1, c2, c3, c4, c5, c6, c7, c8, c9⟩
  clear hK K
  try simp only [Act.put, List.setIfInBounds_toArray, List.set_cons_zero, List.set_cons_succ]
  refine wpAnyH_ready (rs := [3]) (by kernel_rfl) (by simp) (st3 (fun K hK => ?_) AllReadyH.nil)
  go_simp
  refine (KU.out V1 m1 m2 fb p1 p2 X1.out SC.out).mono ?_
  rintro e V2 ⟨hG, hb⟩
  have B2 := Lib.hid (B1.out.trans (hb.mono B1.out.size))
  have C2 : Hid (V2.cell? ⟨sb, 0, none⟩ = some (.slice p L.length c)) := (hb.cell (p := ⟨sb, 0, none⟩) (Nat.lt_of_lt_of_le hsb B1.out.size)).trans C1.out
  have N2 := Lib.hid (N1.out.bel (by simp) hb)
  have U2' := Lib.hid (U1.out.bel (by simp) hb)
  clear hb B1 X1 C1 N1 U1 SC KU c0 c1 c2 c3 c4 c5 c6 c7 c8 c9
  cases G with
  | er E q =>
    have he : e = .panicked (failU E q) := hG
    subst he
    go_wp2_with fail
    exact bodyPost_panic rfl ⟨rfl, B2.out⟩
  | ok u =>
    obtain ⟨vf, vm, va, vd⟩ := u
    have he : e = .returned (uV ⟨vf, vm, va, vd⟩) := hG
    simp only [uV, uC] at he
    subst he
    obtain ⟨c0, c1, c2, c3, c4, c5, c6, c7, c8, c9⟩ := box10 N2.out
    go_wp2_with fail
    refine hK.out _ _ ?_ (fun hHeld => ?_)
    · exact ⟨C2.out, c0, c1, c2, c3, c4, c5, c6, c7, c8, c9⟩
    clear hK K
    try simp only [Act.put, List.setIfInBounds_toArray, List.set_cons_zero, List.set_cons_succ]
    refine wpAnyH_ready (rs := [4]) (by kernel_rfl) (by simp) (st4 (fun K hK => ?_) AllReadyH.nil)
    obtain ⟨x0, x1, x2, x3, g0, g1, g2, g3⟩ := box4 U2'.out
    have o4 : ∀ {j : Nat} {bb : Nat} {v : Value}, V2.cell? ⟨bb, j, none⟩ = some v → bb ≠ ub → ((((V2.setCell ⟨ub, 0, none⟩ (.bool vf)).setCell ⟨ub, 1, none⟩ (.int .i64 vm)).setCell ⟨ub, 2, none⟩ (.int .i64 va)).setCell ⟨ub, 3, none⟩ (.int .i64 vd)).cell? ⟨bb, j, none⟩ = some v := fun h hn => cell_otn (cell_otn (cell_otn (cell_otn h hn 0 _) hn 1 _) hn 2 _) hn 3 _
    have U3 := Lib.hid ((((U2'.out.set 0 (.bool vf)).set 1 (.int .i64 vm)).set 2 (.int .i64 va)).set 3 (.int .i64 vd))
    have K3 : Hid (Kept ub w ((((V2.setCell ⟨ub, 0, none⟩ (.bool vf)).setCell ⟨ub, 1, none⟩ (.int .i64 vm)).setCell ⟨ub, 2, none⟩ (.int .i64 va)).setCell ⟨ub, 3, none⟩ (.int .i64 vd))) := (((((Kept.of B2.out).setCell 0 none _).setCell 1 none _).setCell 2 none _).setCell 3 none _)
    have HH := Lib.hid (show ((((V2.setCell ⟨ub, 0, none⟩ (.bool vf)).setCell ⟨ub, 1, none⟩ (.int .i64 vm)).setCell ⟨ub, 2, none⟩ (.int .i64 va)).setCell ⟨ub, 3, none⟩ (.int .i64 vd)).cell? ⟨sb, 0, none⟩ = some (.slice p L.length c) ∧ ((((V2.setCell ⟨ub, 0, none⟩ (.bool vf)).setCell ⟨ub, 1, none⟩ (.int .i64 vm)).setCell ⟨ub, 2, none⟩ (.int .i64 va)).setCell ⟨ub, 3, none⟩ (.int .i64 vd)).cell? ⟨nb, 0, none⟩ = some (.int .i64 op) ∧ ((((V2.setCell ⟨ub, 0, none⟩ (.bool vf)).setCell ⟨ub, 1, none⟩ (.int .i64 vm)).setCell ⟨ub, 2, none⟩ (.int .i64 va)).setCell ⟨ub, 3, none⟩ (.int .i64 vd)).cell? ⟨nb, 1, none⟩ = some (.int .i64 pl) ∧ ((((V2.setCell ⟨ub, 0, none⟩ (.bool vf)).setCell ⟨ub, 1, none⟩ (.int .i64 vm)).setCell ⟨ub, 2, none⟩ (.int .i64 va)).setCell ⟨ub, 3, none⟩ (.int .i64 vd)).cell? ⟨nb, 2, none⟩ = some (.string s) ∧ ((((V2.setCell ⟨ub, 0, none⟩ (.bool vf)).setCell ⟨ub, 1, none⟩ (.int .i64 vm)).setCell ⟨ub, 2, none⟩ (.int .i64 va)).setCell ⟨ub, 3, none⟩ (.int .i64 vd)).cell? ⟨nb, 3, none⟩ = some (.int .i64 n0) ∧ ((((V2.setCell ⟨ub, 0, none⟩ (.bool vf)).setCell ⟨ub, 1, none⟩ (.int .i64 vm)).setCell ⟨ub, 2, none⟩ (.int .i64 va)).setCell ⟨ub, 3, none⟩ (.int .i64 vd)).cell? ⟨nb, 4, none⟩ = some (.int .i64 d0) ∧ ((((V2.setCell ⟨ub, 0, none⟩ (.bool vf)).setCell ⟨ub, 1, none⟩ (.int .i64 vm)).setCell ⟨ub, 2, none⟩ (.int .i64 va)).setCell ⟨ub, 3, none⟩ (.int .i64 vd)).cell? ⟨nb, 5, none⟩ = some (.bool uf) ∧ ((((V2.setCell ⟨ub, 0, none⟩ (.bool vf)).setCell ⟨ub, 1, none⟩ (.int .i64 vm)).setCell ⟨ub, 2, none⟩ (.int .i64 va)).setCell ⟨ub, 3, none⟩ (.int .i64 vd)).cell? ⟨nb, 6, none⟩ = some (.int .i64 um) ∧ ((((V2.setCell ⟨ub, 0, none⟩ (.bool vf)).setCell ⟨ub, 1, none⟩ (.int .i64 vm)).setCell ⟨ub, 2, none⟩ (.int .i64 va)).setCell ⟨ub, 3, none⟩ (.int .i64 vd)).cell? ⟨nb, 7, none⟩ = some (.int .i64 ua) ∧ ((((V2.setCell ⟨ub, 0, none⟩ (.bool vf)).setCell ⟨ub, 1, none⟩ (.int .i64 vm)).setCell ⟨ub, 2, none⟩ (.int .i64 va)).setCell ⟨ub, 3, none⟩ (.int .i64 vd)).cell? ⟨nb, 8, none⟩ = some (.int .i64 ud) ∧ ((((V2.setCell ⟨ub, 0, none⟩ (.bool vf)).setCell ⟨ub, 1, none⟩ (.int .i64 vm)).setCell ⟨ub, 2, none⟩ (.int .i64 va)).setCell ⟨ub, 3, none⟩ (.int .i64 vd)).cell? ⟨nb, 9, none⟩ = some (.slice xq ks.length xc) from ⟨o4 C2.out NS, o4 c0 NN, o4 c1 NN, o4 c2 NN, o4 c3 NN, o4 c4 NN, o4 c5 NN, o4 c6 NN, o4 c7 NN, o4 c8 NN, o4 c9 NN⟩)
    clear o4 C2 N2 B2 U2'
    go_simp
    refine hK.out _ _ ?_ (fun hHeld => ?_)
    · exact HH.out
    clear hK K
    try simp only [Act.put, List.setIfInBounds_toArray, List.set_cons_zero, List.set_cons_succ]
    refine wpAnyH_done (by kernel_rfl) ?_ _
    go_wp2_with fail
    go_end0
    exact ⟨rfl, U3.out, K3.out⟩
end Go.Proofs.Ytjifiijgghpniaa
/-
  Contract of units: Of.
-/
namespace Go.Proofs.Ytjifiijgghpniaa
open Go.RowKit Un MapKept

/-- What Of answers. -/
def OfV : Got → Value
  | .ok u => .tuple #[uV u, .int .i64 0, .int .i64 0]
  | .er E p => .tuple #[uV uNum, .int .i64 E, .int .i64 p]
theorem enter_of1 (args : Array Value) (w : World) : (callFunc 36 args).run Try.prog w = .ok (.enter 36 args) w := by kernel_rfl
theorem At2.heap {w w' : World} {r : Nat} {x y : Value} (h : At2 w r x y) (hb : w'.heap[r]? = w.heap[r]?) : At2 w' r x y :=
  ⟨(World.cell?_of_block (w := w) (a := ⟨r, 0, none⟩) hb).trans h.c0, (World.cell?_of_block (w := w) (a := ⟨r, 1, none⟩) hb).trans h.c1, (World.frozen?_of_block (w := w) (a := ⟨r, 0, none⟩) hb).trans h.f0, (World.frozen?_of_block (w := w) (a := ⟨r, 1, none⟩) hb).trans h.f1⟩
theorem Kept.at {b r : Nat} {w w1 : World} {l : List Value} (h : Kept b w w1) (hl : 0 < l.length) (hr : r ≠ b) (hx : BoxL w r l) : BoxL w1 r l := hx.of (h.block r (hx.lt hl) hr)
set_option maxRecDepth 100000 in
set_option maxHeartbeats 12000000 in
theorem uOf_any (L : List Dc) (t : Nd) (hn : nin t) (p : Option Addr) (b off c : Nat) (A : Nat → Prop) (x : Kd) (w : World) (hS : SlR w p b off L.length 8 (L.map dC)) (hx : NdM w A t x) :
    Calls Try.prog 13 #[.slice p L.length c, nV t x] w fun e w' => e = .returned (OfV (ofV vld L t)) ∧ RowKit.Below w.heap.size w w' := by
  have KV := Lib.hid (fun V h1 h2 => uValid_any L t hn p b off c A x V h1 h2)
  have KO : Hid (rightD L = true → form vld t = true → ∀ V sb nb ub, SlR V p b off L.length 8 (L.map dC) → NdM V A t x → V.cell? ⟨sb, 0, none⟩ = some (.slice p L.length c) → BoxL V nb (nC t x) → BoxL V ub [.bool false, .int .i64 0, .int .i64 0, .int .i64 0] → Calls Try.prog 36 #[.pointer (some ⟨sb, 0, none⟩), .pointer (some ⟨nb, 0, none⟩), .pointer (some ⟨ub, 0, none⟩)] V fun e w' => Of1 V ub (fnd (Un.facts L) t) e w') := fun h1 h2 V sb nb ub g1 g2 g3 g4 g5 => by
    simp only [rightD, Bool.and_eq_true, List.isEmpty_iff] at h1
    simp only [form, Bool.and_eq_true] at h2
    exact uOf1_any L t h1.1 h1.2 20 h2.1 p b off c A x sb nb ub V g1 g2 g3 g4 g5
  have HS := Lib.hid hS
  have HX := Lib.hid hx
  obtain ⟨R, hR⟩ : ∃ R, R = ofV vld L t := ⟨_, rfl⟩
  rw [← hR]
  have HR : Hid (R = if (rightD L && form vld t) = true then fnd (Un.facts L) t else .er 1 0) := hR
  clear hS hx hn hR
  generalize fnd (Un.facts L) t = G at *
  generalize form vld t = ex at *
  generalize rightD L = rd at *
  obtain ⟨op, pl, nm, n0, d0, ⟨uf, um, ua, ud⟩, ks⟩ := t
  obtain ⟨xq, xc⟩ := x
  simp only [nV, nC] at KV KO ⊢
  generalize bs nm = s at *
  obtain ⟨W1, hW1⟩ : ∃ W1, W1 = w.alloc (.cells #[.slice p L.length c] 22) := ⟨_, rfl⟩
  have a1 := (Below.refl w.heap.size w).alloc (Nat.le_refl _) (.cells #[.slice p L.length c] 22)
  have x1 : BoxL W1 w.heap.size [.slice p L.length c] := by rw [hW1]; exact box_new _ _ rfl
  rw [← hW1] at a1
  have s1 : W1.heap.size = w.heap.size + 1 := by rw [hW1]; simp
  obtain ⟨W2, hW2⟩ : ∃ W2, W2 = W1.alloc (.cells #[.int .i64 op, .int .i64 pl, .string s, .int .i64 n0, .int .i64 d0, .bool uf, .int .i64 um, .int .i64 ua, .int .i64 ud, .slice xq ks.length xc] 32) := ⟨_, rfl⟩
  have a2 := (Below.refl W1.heap.size W1).alloc (Nat.le_refl _) (.cells #[.int .i64 op, .int .i64 pl, .string s, .int .i64 n0, .int .i64 d0, .bool uf, .int .i64 um, .int .i64 ua, .int .i64 ud, .slice xq ks.length xc] 32)
  have x2 : BoxL W2 (w.heap.size + 1) [.int .i64 op, .int .i64 pl, .string s, .int .i64 n0, .int .i64 d0, .bool uf, .int .i64 um, .int .i64 ua, .int .i64 ud, .slice xq ks.length xc] := by rw [hW2]; exact box_new _ _ s1
  rw [← hW2] at a2
  have s2 : W2.heap.size = w.heap.size + 2 := by rw [hW2]; simp; omega
  obtain ⟨W3, hW3⟩ : ∃ W3, W3 = W2.alloc (.cells #[.bool false, .int .i64 0, .int .i64 0, .int .i64 0] 29) := ⟨_, rfl⟩
  have a3 := (Below.refl W2.heap.size W2).alloc (Nat.le_refl _) (.cells #[.bool false, .int .i64 0, .int .i64 0, .int .i64 0] 29)
  have x3 : BoxL W3 (w.heap.size + 2) [.bool false, .int .i64 0, .int .i64 0, .int .i64 0] := by rw [hW3]; exact box_new _ _ s2
  rw [← hW3] at a3
  have X1 := Lib.hid ((x1.bel (by simp) a2).bel (by simp) a3)
  have X2 := Lib.hid (x2.bel (by simp) a3)
  have X3 := Lib.hid x3
  have s3 : W3.heap.size = w.heap.size + 3 := by rw [hW3]; simp; omega
  have B3 := Lib.hid ((a1.trans (a2.mono (by omega))).trans (a3.mono (by omega)))
  have S3 := Lib.hid (HS.out.bel B3.out)
  have N3 := Lib.hid (HX.out.bel B3.out)
  clear x1 x2 x3 a1 a2 a3 s1 s2 HS HX
  obtain ⟨c0, c1, c2, c3, c4, c5, c6, c7, c8, c9⟩ := box10 X2.out
  obtain ⟨cs, -⟩ := X1.out 0 _ rfl
  go_enter Try.func13, Try.ntmps13
  go_wp2_with fail
  rw [← hW1, ← hW2, ← hW3]
  clear hW1 hW2 hW3
  refine (KV.out _ S3.out N3.out).mono ?_
  rintro _ V1 ⟨rfl, hb⟩
  have hsz := hb.size
  have B4 := Lib.hid (B3.out.trans (hb.mono B3.out.size))
  have S4 := Lib.hid (S3.out.bel hb)
  have N4 := Lib.hid (N3.out.bel hb)
  have Y1 := Lib.hid (X1.out.bel (by simp) hb)
  have Y2 := Lib.hid (X2.out.bel (by simp) hb)
  have Y3 := Lib.hid (X3.out.bel (by simp) hb)
  clear hb B3 S3 N3 X1 X2 X3 KV c0 c1 c2 c3 c4 c5 c6 c7 c8 c9 cs
  cases hv : (rd && ex) with
  | false =>
    have HR2 : Hid (R = .er 1 0) := by show _ = _; rw [HR.out, hv]; rfl
    clear hv
    obtain ⟨r0, r1, r2, r3, g0, g1, g2, g3⟩ := box4 Y3.out
    go_wp2_with fail
    exact bodyPost_ret (v := .tuple #[.agg #[.bool false, .int .i64 0, .int .i64 0, .int .i64 0], .int .i64 1, .int .i64 0]) (by simp [results, Try.results13, go_sem, r0, r1, r2, r3]) rfl ⟨by rw [HR2.out]; rfl, (by repeat' (first | (with_reducible exact B4.out) | (with_reducible refine Below.setCell ?_ ?_ _) | (with_reducible refine Below.alloc ?_ ?_ _) | (with_reducible refine Below.drew ?_) | (with_reducible refine below_drewN ?_ _) | (with_reducible exact Below.refl _ _) | omega | (simp; done) | (simp; omega)))⟩
  | true =>
    have HR2 : Hid (R = G) := by show _ = _; rw [HR.out, hv]; rfl
    simp only [Bool.and_eq_true] at hv
    have KO2 := Lib.hid (KO.out hv.1 hv.2)
    clear hv KO HR
    -- the unit's box
    have a5 := (Below.refl V1.heap.size V1).alloc (Nat.le_refl _) (.cells #[.bool false, .int .i64 0, .int .i64 0, .int .i64 0] 29)
    obtain ⟨ub, hub⟩ : ∃ ub, ub = V1.heap.size := ⟨_, rfl⟩
    have U5 : Hid (BoxL (V1.alloc (.cells #[.bool false, .int .i64 0, .int .i64 0, .int .i64 0] 29)) ub [.bool false, .int .i64 0, .int .i64 0, .int .i64 0]) := box_new _ _ hub.symm
    have B5 := Lib.hid (B4.out.trans (a5.mono B4.out.size))
    have S5 := Lib.hid (S4.out.bel a5)
    have N5 := Lib.hid (N4.out.bel a5)
    have Z1 := Lib.hid (Y1.out.bel (by simp) a5)
    have Z2 := Lib.hid (Y2.out.bel (by simp) a5)
    have Z3 := Lib.hid (Y3.out.bel (by simp) a5)
    have s5 : (V1.alloc (.cells #[.bool false, .int .i64 0, .int .i64 0, .int .i64 0] 29)).heap.size = ub + 1 := by simp [hub]
    clear a5 B4 S4 N4 Y1 Y2 Y3
    have hmf : ∀ (fn : Fn) (first cap : Array Value) (w : World), (Instr.makeFunc fn first cap).run Try.prog w = .ok (.func fn first cap) w := fun _ _ _ _ => rfl
    have KE : Hid (∀ V, Hid (BoxL V ub [.bool false, .int .i64 0, .int .i64 0, .int .i64 0]) → Hid (RowKit.Below w.heap.size w V) → SlR V p b off L.length 8 (L.map dC) → NdM V A (.mk op pl nm n0 d0 ⟨uf, um, ua, ud⟩ ks) ⟨xq, xc⟩ → BoxL V w.heap.size [.slice p L.length c] → BoxL V (w.heap.size + 1) [.int .i64 op, .int .i64 pl, .string s, .int .i64 n0, .int .i64 d0, .bool uf, .int .i64 um, .int .i64 ua, .int .i64 ud, .slice xq ks.length xc] → BoxL V (w.heap.size + 2) [.bool false, .int .i64 0, .int .i64 0, .int .i64 0] → V.heap.size = ub + 1 → w.heap.size + 3 ≤ ub →
      Calls Try.prog 35 #[.func (.func 36) #[] #[.pointer (some ⟨w.heap.size, 0, none⟩), .pointer (some ⟨w.heap.size + 1, 0, none⟩), .pointer (some ⟨ub, 0, none⟩)]] V fun e w' => (∃ E q, e = .returned (.agg #[.int .i64 q, .int .i64 E]) ∧ (match G with | .ok u => E = 0 ∧ q = 0 ∧ BoxL w' ub (uC u) | .er E' q' => E = E' ∧ q = q' ∧ BoxL w' ub [.bool false, .int .i64 0, .int .i64 0, .int .i64 0])) ∧ BoxL w' (w.heap.size + 2) [.bool false, .int .i64 0, .int .i64 0, .int .i64 0] ∧ RowKit.Below w.heap.size w w') := by
      intro V hU hB hS hN h1 h2 h3 hs hub3
      have bd := (Below.refl V.heap.size V).alloc (Nat.le_refl _) (.cells #[.int .i64 0, .int .i64 0] 66)
      have sd : (V.alloc (.cells #[.int .i64 0, .int .i64 0] 66)).heap.size = V.heap.size + 1 := by simp
      have ad := At2.new V (.int .i64 0) (.int .i64 0) 66
      obtain ⟨g1, -⟩ := h1 0 _ rfl
      have KQ := KO2.out (V.alloc (.cells #[.int .i64 0, .int .i64 0] 66)) w.heap.size (w.heap.size + 1) ub (hS.bel bd) (hN.bel bd) ((bd.cell (p := ⟨w.heap.size, 0, none⟩) (World.block_lt_of_cell? _ _ g1)).trans g1) (h2.bel (by simp) bd) (hU.out.bel (by simp) bd)
      have l2 := h3.lt (by simp)
      cases G with
      | ok u =>
        refine (uerrorOf_ok 36 _ enter_of1 (fun w' => BoxL w' ub (uC u) ∧ Kept ub V w') V (KQ.mono ?_)).mono ?_
        · rintro e w' ⟨he, hx, hk⟩
          exact ⟨he, ad.heap (hk.block _ (by omega) (by omega)), hx, (Kept.of bd).trans hk⟩
        · rintro e w' ⟨rfl, w2, ⟨hx, hk⟩, hk2⟩
          refine ⟨⟨0, 0, rfl, rfl, rfl, hk2.at (by simp [uC]) (by omega) hx⟩, hk2.at (by simp) (by omega) (hk.at (by simp) (by omega) h3), (hB.out.trans (hk.below (B := w.heap.size) (by omega) (by omega))).trans (hk2.below (B := w.heap.size) (by omega) (by have := hk.size; omega))⟩
      | er E q =>
        refine (uerrorOf_er 36 _ enter_of1 E q (fun w' => RowKit.Below V.heap.size V w') V (KQ.mono ?_)).mono ?_
        · rintro e w' ⟨he, hk⟩
          exact ⟨he, ad.bel hk, bd.trans (hk.mono (by omega))⟩
        · rintro e w' ⟨rfl, w2, hk, hk2⟩
          exact ⟨⟨E, q, rfl, rfl, rfl, hk2.at (by simp) (by omega) (hU.out.bel (by simp) hk)⟩, hk2.at (by simp) (by omega) (h3.bel (by simp) hk), (hB.out.trans (hk.mono (by omega))).trans (hk2.below (B := w.heap.size) (by omega) (by have := hk.size; omega))⟩
    go_wp2_with fail
    generalize V1.alloc (.cells #[.bool false, .int .i64 0, .int .i64 0, .int .i64 0] 29) = V5 at *
    subst hub
    generalize V1.heap.size = ub at *
    refine (KE.out V5 U5 B5 S5.out N5.out Z1.out Z2.out Z3.out s5 (by omega)).mono ?_
    rintro _ V6 ⟨⟨E, q, rfl, hG⟩, hz, hb⟩
    -- in both cases a unit lies in the box
    obtain ⟨⟨vf, vm, va, vd⟩, hu, hRv⟩ : ∃ u, BoxL V6 ub (uC u) ∧ OfV R = .tuple #[uV u, .int .i64 E, .int .i64 q] := by
      rw [HR2.out]
      cases G with
      | ok u => obtain ⟨rfl, rfl, hx⟩ := hG; exact ⟨u, hx, rfl⟩
      | er E' q' => obtain ⟨rfl, rfl, hx⟩ := hG; exact ⟨uNum, hx, rfl⟩
    have HRV := Lib.hid hRv
    simp only [uC] at hu
    have a7 := (Below.refl V6.heap.size V6).alloc (Nat.le_refl _) (.cells #[.int .i64 q, .int .i64 E] 66)
    have D7 := Lib.hid (box_new (w := V6) [.int .i64 q, .int .i64 E] 66 rfl)
    have U7 := Lib.hid (hu.bel (by simp) a7)
    have Z7 := Lib.hid (hz.bel (by simp) a7)
    have B7 := Lib.hid (hb.trans (a7.mono hb.size))
    have nd : V6.heap.size ≠ w.heap.size + 2 := by have := hz.lt (by simp); omega
    have nu : ub ≠ w.heap.size + 2 := by omega
    clear a7 hu hz hG hRv KE KO2 HR2 U5 B5 S5 N5 Z1 Z2 Z3
    obtain ⟨u0, u1, u2, u3, -⟩ := box4 U7.out
    obtain ⟨d0', -⟩ := D7.out 0 _ rfl
    obtain ⟨d1', -⟩ := D7.out 1 _ rfl
    obtain ⟨r0, r1, r2, r3, g0, g1, g2, g3⟩ := box4 Z7.out
    go_wp2_with fail
    generalize V6.alloc (.cells #[.int .i64 q, .int .i64 E] 66) = V7 at *
    generalize V6.heap.size = db at *
    have hS : V7.drew.cell? ⟨ub, 0, none⟩ = some (.bool vf) ∧ V7.drew.cell? ⟨ub, 1, none⟩ = some (.int .i64 vm) ∧ V7.drew.cell? ⟨ub, 2, none⟩ = some (.int .i64 va) ∧ V7.drew.cell? ⟨ub, 3, none⟩ = some (.int .i64 vd) ∧ V7.drew.cell? ⟨db, 0, none⟩ = some (.int .i64 q) ∧ V7.drew.cell? ⟨db, 1, none⟩ = some (.int .i64 E) := ⟨u0, u1, u2, u3, d0', d1'⟩
    refine wp_region_held (S := fun w' : World => w'.cell? ⟨ub, 0, none⟩ = some (.bool vf) ∧ w'.cell? ⟨ub, 1, none⟩ = some (.int .i64 vm) ∧ w'.cell? ⟨ub, 2, none⟩ = some (.int .i64 va) ∧ w'.cell? ⟨ub, 3, none⟩ = some (.int .i64 vd) ∧ w'.cell? ⟨db, 0, none⟩ = some (.int .i64 q) ∧ w'.cell? ⟨db, 1, none⟩ = some (.int .i64 E)) mixed ?_
    change wpAnyH _ _ _ _ _ _ _ _ V7.drew
    refine tk0 (v := ?_) (by kernel_rfl) (by kernel_rfl) (by kernel_rfl) (fun _ _ _ h => h) (Or.inl ⟨by rfl, ?_⟩) hS ?_
    rotate_left
    · (intro w hSw; (try dsimp only at hSw); go_simp; try with_reducible rfl)
    simp only [Act.put, List.setIfInBounds_toArray, List.set_cons_zero, List.set_cons_succ]
    refine tk1 (v := ?_) (by kernel_rfl) (by kernel_rfl) (by kernel_rfl) (fun _ _ _ h => h) (Or.inl ⟨by rfl, ?_⟩) hS ?_
    rotate_left
    · (intro w hSw; (try dsimp only at hSw); go_simp; try with_reducible rfl)
    simp only [Act.put, List.setIfInBounds_toArray, List.set_cons_zero, List.set_cons_succ]
    refine tk2 (v := ?_) (by kernel_rfl) (by kernel_rfl) (by kernel_rfl) (fun _ _ _ h => h) (Or.inl ⟨by rfl, ?_⟩) hS ?_
    rotate_left
    · (intro w hSw; (try dsimp only at hSw); go_simp; try with_reducible rfl)
    simp only [Act.put, List.setIfInBounds_toArray, List.set_cons_zero, List.set_cons_succ]
    refine tk3 (v := ?_) (by kernel_rfl) (by kernel_rfl) (by kernel_rfl) (fun _ _ _ h => h) (Or.inl ⟨by rfl, ?_⟩) hS ?_
    rotate_left
    · (intro w hSw; (try dsimp only at hSw); go_simp; try with_reducible rfl)
    simp only [Act.put, List.setIfInBounds_toArray, List.set_cons_zero, List.set_cons_succ]
    refine tk4 (v := ?_) (by kernel_rfl) (by kernel_rfl) (by kernel_rfl) (fun _ _ _ h => h) (Or.inl ⟨by rfl, ?_⟩) hS ?_
    rotate_left
    · (intro w hSw; (try dsimp only at hSw); go_simp; try with_reducible rfl)
    simp only [Act.put, List.setIfInBounds_toArray, List.set_cons_zero, List.set_cons_succ]
    refine wpAnyH_ready (rs := [5]) (by kernel_rfl) (by simp) (st5 (fun K hK => ?_) AllReadyH.nil)
    have o4 : ∀ {j bb : Nat} {v : Value}, V7.cell? ⟨bb, j, none⟩ = some v → bb ≠ w.heap.size + 2 → ((((V7.setCell ⟨w.heap.size + 2, 0, none⟩ (.bool vf)).setCell ⟨w.heap.size + 2, 1, none⟩ (.int .i64 vm)).setCell ⟨w.heap.size + 2, 2, none⟩ (.int .i64 va)).setCell ⟨w.heap.size + 2, 3, none⟩ (.int .i64 vd)).cell? ⟨bb, j, none⟩ = some v := fun h hn => cell_otn (cell_otn (cell_otn (cell_otn h hn 0 _) hn 1 _) hn 2 _) hn 3 _
    have HH := Lib.hid (show ((((V7.setCell ⟨w.heap.size + 2, 0, none⟩ (.bool vf)).setCell ⟨w.heap.size + 2, 1, none⟩ (.int .i64 vm)).setCell ⟨w.heap.size + 2, 2, none⟩ (.int .i64 va)).setCell ⟨w.heap.size + 2, 3, none⟩ (.int .i64 vd)).cell? ⟨ub, 0, none⟩ = some (.bool vf) ∧ ((((V7.setCell ⟨w.heap.size + 2, 0, none⟩ (.bool vf)).setCell ⟨w.heap.size + 2, 1, none⟩ (.int .i64 vm)).setCell ⟨w.heap.size + 2, 2, none⟩ (.int .i64 va)).setCell ⟨w.heap.size + 2, 3, none⟩ (.int .i64 vd)).cell? ⟨ub, 1, none⟩ = some (.int .i64 vm) ∧ ((((V7.setCell ⟨w.heap.size + 2, 0, none⟩ (.bool vf)).setCell ⟨w.heap.size + 2, 1, none⟩ (.int .i64 vm)).setCell ⟨w.heap.size + 2, 2, none⟩ (.int .i64 va)).setCell ⟨w.heap.size + 2, 3, none⟩ (.int .i64 vd)).cell? ⟨ub, 2, none⟩ = some (.int .i64 va) ∧ ((((V7.setCell ⟨w.heap.size + 2, 0, none⟩ (.bool vf)).setCell ⟨w.heap.size + 2, 1, none⟩ (.int .i64 vm)).setCell ⟨w.heap.size + 2, 2, none⟩ (.int .i64 va)).setCell ⟨w.heap.size + 2, 3, none⟩ (.int .i64 vd)).cell? ⟨ub, 3, none⟩ = some (.int .i64 vd) ∧ ((((V7.setCell ⟨w.heap.size + 2, 0, none⟩ (.bool vf)).setCell ⟨w.heap.size + 2, 1, none⟩ (.int .i64 vm)).setCell ⟨w.heap.size + 2, 2, none⟩ (.int .i64 va)).setCell ⟨w.heap.size + 2, 3, none⟩ (.int .i64 vd)).cell? ⟨db, 0, none⟩ = some (.int .i64 q) ∧ ((((V7.setCell ⟨w.heap.size + 2, 0, none⟩ (.bool vf)).setCell ⟨w.heap.size + 2, 1, none⟩ (.int .i64 vm)).setCell ⟨w.heap.size + 2, 2, none⟩ (.int .i64 va)).setCell ⟨w.heap.size + 2, 3, none⟩ (.int .i64 vd)).cell? ⟨db, 1, none⟩ = some (.int .i64 E) from ⟨o4 u0 nu, o4 u1 nu, o4 u2 nu, o4 u3 nu, o4 d0' nd, o4 d1' nd⟩)
    clear o4
    go_simp
    refine hK.out _ _ ?_ (fun hHeld => ?_)
    · exact HH.out
    clear hK K
    try simp only [Act.put, List.setIfInBounds_toArray, List.set_cons_zero, List.set_cons_succ]
    refine tk6 (v := ?_) (by kernel_rfl) (by kernel_rfl) (by kernel_rfl) (fun _ _ _ h => h) (Or.inl ⟨by rfl, ?_⟩) hHeld ?_
    rotate_left
    · (intro w hSw; (try dsimp only at hSw); go_simp; try with_reducible rfl)
    simp only [Act.put, List.setIfInBounds_toArray, List.set_cons_zero, List.set_cons_succ]
    refine tk7 (v := ?_) (by kernel_rfl) (by kernel_rfl) (by kernel_rfl) (fun _ _ _ h => h) (Or.inl ⟨by rfl, ?_⟩) hHeld ?_
    rotate_left
    · (intro w hSw; (try dsimp only at hSw); go_simp; try with_reducible rfl)
    simp only [Act.put, List.setIfInBounds_toArray, List.set_cons_zero, List.set_cons_succ]
    refine wpAnyH_done (by kernel_rfl) ?_ _
    go_wp2_with fail
    exact bodyPost_ret (v := .tuple #[.agg #[.bool vf, .int .i64 vm, .int .i64 va, .int .i64 vd], .int .i64 E, .int .i64 q]) (by simp [results, Try.results13, go_sem, r0, r1, r2, r3]) rfl ⟨by rw [HRV.out]; rfl, (by repeat' (first | (with_reducible exact B7.out) | (with_reducible refine Below.setCell ?_ ?_ _) | (with_reducible refine Below.alloc ?_ ?_ _) | (with_reducible refine Below.drew ?_) | (with_reducible refine below_drewN ?_ _) | (with_reducible exact Below.refl _ _) | omega | (simp; done) | (simp; omega)))⟩
end Go.Proofs.Ytjifiijgghpniaa
/-
  Rules in memory, their cells as one list; what is said about a rule alone.
-/
namespace Go.Proofs.Ytjifiijgghpniaa
open Go.RowKit Un MapKept

/-- A rule's cells. -/
def rC (r : Ru) (x y : Kd) : List Value := [.string (bs r.nm), .int .i64 r.ver, .int .i64 r.kind, .string (bs r.act), .int .i64 r.fr, .int .i64 r.un, .int .i64 r.known] ++ nC r.whn x ++ nC r.giv y ++ [.int .i64 r.pl]
/-- A list is a rule's cells. -/
structure RuC (r : Ru) (x y : Kd) (l : List Value) : Prop where
  len : l.length = 28
  f0 : l[0]? = some (.string (bs r.nm))
  f1 : l[1]? = some (.int .i64 r.ver)
  f2 : l[2]? = some (.int .i64 r.kind)
  f3 : l[3]? = some (.string (bs r.act))
  f4 : l[4]? = some (.int .i64 r.fr)
  f5 : l[5]? = some (.int .i64 r.un)
  f6 : l[6]? = some (.int .i64 r.known)
  wh : ∀ (j : Nat) (v : Value), (nC r.whn x)[j]? = some v → l[7 + j]? = some v
  gi : ∀ (j : Nat) (v : Value), (nC r.giv y)[j]? = some v → l[17 + j]? = some v
  f27 : l[27]? = some (.int .i64 r.pl)
  one : ∀ u ∈ l, u.oneCell' = true
theorem nC_one (t : Nd) (x : Kd) : ∀ u ∈ nC t x, u.oneCell' = true := by cases t; simp [nC, Value.oneCell']
theorem RuC.of (r : Ru) (x y : Kd) : RuC r x y (rC r x y) := by
  have h1 := nC_len r.whn x
  have h2 := nC_len r.giv y
  refine ⟨by simp [rC, h1, h2], rfl, rfl, rfl, rfl, rfl, rfl, rfl, fun j v hv => ?_, fun j v hv => ?_, ?_, fun u hu => ?_⟩
  · have hj := (List.getElem?_eq_some_iff.1 hv).1
    unfold rC
    rw [List.append_assoc, List.append_assoc, List.getElem?_append_right (by simp), List.getElem?_append_left (by simpa using hj)]
    simpa using hv
  · have hj := (List.getElem?_eq_some_iff.1 hv).1
    unfold rC
    rw [List.append_assoc, List.append_assoc, List.getElem?_append_right (by simp; omega), List.getElem?_append_right (by simp [h1]; omega), List.getElem?_append_left (by simp [h1]; omega)]
    simp only [List.length_cons, List.length_nil, h1]
    rw [show 17 + j - (0 + 1 + 1 + 1 + 1 + 1 + 1 + 1) - 10 = j by omega]
    exact hv
  · unfold rC
    rw [List.getElem?_append_right (by simp [h1, h2])]
    simp [h1, h2]
  · unfold rC at hu
    simp only [List.mem_append] at hu
    rcases hu with ((hu | hu) | hu) | hu
    · simp at hu
      rcases hu with rfl | rfl | rfl | rfl | rfl | rfl | rfl <;> rfl
    · exact nC_one _ _ u hu
    · exact nC_one _ _ u hu
    · simp at hu; subst hu; rfl
theorem gete {l : List Value} {i : Nat} {v : Value} (h : l[i]? = some v) : ∃ hi : i < l.length, l[i] = v := List.getElem?_eq_some_iff.1 h
/-- A rule's operands lie in memory. -/
def RuM (w : World) (A : Nat → Prop) (r : Ru) (x y : Kd) : Prop := NdM w A r.whn x ∧ NdM w A r.giv y
theorem RuM.bel {w w1 : World} {A : Nat → Prop} {r : Ru} {x y : Kd} (h : RuM w A r x y) (hB : RowKit.Below w.heap.size w w1) : RuM w1 A r x y := ⟨h.1.bel hB, h.2.bel hB⟩
set_option maxRecDepth 100000 in
set_option maxHeartbeats 4000000 in
theorem uisTimed_any (r : Ru) (x y : Kd) (l : List Value) (hr : RuC r x y l) (w : World) : Calls Try.prog 84 #[.agg l.toArray] w fun e w' => e = .returned (.bool (timed r)) ∧ RowKit.Below w.heap.size w w' := by
  have HB := Lib.hid (Below.refl w.heap.size w)
  obtain ⟨R, hR⟩ : ∃ R, R = timed r := ⟨_, rfl⟩
  rw [← hR]
  have HR : Hid (R = (decide (1 ≤ r.ver) && decide (r.ver ≤ 999) && decide (0 ≤ r.fr) && decide (r.fr < r.un) && decide (r.un ≤ 36525) && decide (0 ≤ r.known) && decide (r.known ≤ 36524))) := hR
  obtain ⟨i1, e1⟩ := gete hr.f1
  obtain ⟨i4, e4⟩ := gete hr.f4
  obtain ⟨i5, e5⟩ := gete hr.f5
  obtain ⟨i6, e6⟩ := gete hr.f6
  have hl := hr.len
  obtain ⟨nm, ver, kind, act, fr, un, known, wh, gi, pl⟩ := r
  simp only at e1 e4 e5 e6 HR
  clear hr hR
  go_enter Try.func84, Try.ntmps84
  go_wp2_with fail
  all_goals
    go_ret
    refine ⟨ret_bool ?_, (by repeat' (first | (with_reducible exact HB.out) | (with_reducible refine Below.setCell ?_ ?_ _) | (with_reducible refine Below.alloc ?_ ?_ _) | (with_reducible refine Below.drew ?_) | (with_reducible refine below_drewN ?_ _) | (with_reducible exact Below.refl _ _) | omega | (simp; done) | (simp; omega)))⟩
    rw [HR.out, Bool.eq_iff_iff]
    simp only [Bool.and_eq_true, decide_eq_true_eq] at *
    first | omega | (simp_all; done) | (simp_all; omega)
theorem uhasAct_any (k : Int) (w : World) : Calls Try.prog 97 #[.int .i64 k] w fun e w' => e = .returned (.bool (hasAct k)) ∧ w' = w := by
  obtain ⟨R, hR⟩ : ∃ R, R = hasAct k := ⟨_, rfl⟩
  rw [← hR]
  have HR := Lib.hid hR
  clear hR
  go_enter Try.func97, Try.ntmps97
  go_wp2_with fail
  all_goals
    go_ret
    refine ⟨ret_bool ?_, rfl⟩
    rw [HR.out]
    simp_all [hasAct]
set_option maxRecDepth 100000 in
set_option maxHeartbeats 4000000 in
theorem uisNothing_any (t : Nd) (x : Kd) (w : World) : Calls Try.prog 98 #[nV t x] w fun e w' => e = .returned (.bool (isNothing t)) ∧ RowKit.Below w.heap.size w w' := by
  have HB := Lib.hid (Below.refl w.heap.size w)
  obtain ⟨R, hR⟩ : ∃ R, R = isNothing t := ⟨_, rfl⟩
  rw [← hR]
  obtain ⟨op, pl, nm, n0, d0, ⟨uf, um, ua, ud⟩, ks⟩ := t
  obtain ⟨xq, xc⟩ := x
  have HR : Hid (R = (decide (op = 1) && decide (n0 = 0) && ((⟨uf, um, ua, ud⟩ : U) == uNum))) := hR
  clear hR
  simp only [nV, nC]
  cases uf with
  | true =>
    go_enter Try.func98, Try.ntmps98
    go_wp2_with fail
    all_goals
      go_ret
      refine ⟨ret_bool ?_, (by repeat' (first | (with_reducible exact HB.out) | (with_reducible refine Below.setCell ?_ ?_ _) | (with_reducible refine Below.alloc ?_ ?_ _) | (with_reducible refine Below.drew ?_) | (with_reducible refine below_drewN ?_ _) | (with_reducible exact Below.refl _ _) | omega | (simp; done) | (simp; omega)))⟩
      rw [HR.out]
      simp_all [uNum]
  | false =>
    go_enter Try.func98, Try.ntmps98
    go_wp2_with fail
    all_goals
      go_ret
      refine ⟨ret_bool ?_, (by repeat' (first | (with_reducible exact HB.out) | (with_reducible refine Below.setCell ?_ ?_ _) | (with_reducible refine Below.alloc ?_ ?_ _) | (with_reducible refine Below.drew ?_) | (with_reducible refine below_drewN ?_ _) | (with_reducible exact Below.refl _ _) | omega | (simp; done) | (simp; omega)))⟩
      rw [HR.out]
      simp_all [uNum]
end Go.Proofs.Ytjifiijgghpniaa
/-
  Contracts of slices.IndexFunc and slices.ContainsFunc over rules, and of the closures that are handed to them.
-/
namespace Go.Proofs.Ytjifiijgghpniaa
open Go.RowKit Un MapKept

theorem load_rowAt (T n : Nat) (hu : (Try.prog.underlying T).map (fun d => match d with | .struct _ | .array _ _ => true | _ => false) = some true) (hi : (Try.prog.info? T).map (·.size) = some n) (w : World) (b o : Nat) (l : List Value) (hl : l.length = n) (h : ∀ j v, l[j]? = some v → w.cell? ⟨b, o + j, none⟩ = some v) : (Instr.loadAt T (.pointer (some ⟨b, o, none⟩))).run Try.prog w = .ok (.agg l.toArray) w := by
  have hc : (loadCells ⟨b, o, none⟩ l.length).run Try.prog w = .ok l.toArray w := run_loadCells_list (P := Try.prog) w ⟨b, o, none⟩ l (fun j v hv => by
      have hadd : (⟨b, o, none⟩ : Addr).add j = ⟨b, o + j, none⟩ := by unfold Addr.add; split <;> simp_all
      rw [hadd]; exact h j v hv)
  obtain ⟨d, hd, hd2⟩ := Option.map_eq_some_iff.1 hu
  obtain ⟨i, hi1, hi2⟩ := Option.map_eq_some_iff.1 hi
  subst hl
  have hagg : (isAgg T).run Try.prog w = .ok true w := by
    unfold isAgg
    rw [Sem.run_bind, run_underlying hd w]
    cases d <;> simp_all
  simp [Instr.loadAt, Instr.sureAddr, loadVar, Sem.run_bind, hagg, sizeOf, typeInfo, hi1, hi2, hc]
theorem load_rule (w : World) (b o : Nat) (l : List Value) (hl : l.length = 28) (h : ∀ j v, l[j]? = some v → w.cell? ⟨b, o + j, none⟩ = some v) : (Instr.loadAt 58 (.pointer (some ⟨b, o, none⟩))).run Try.prog w = .ok (.agg l.toArray) w :=
  load_rowAt 58 28 (by kernel_rfl) (by kernel_rfl) w b o l hl h
set_option maxRecDepth 100000 in
set_option maxHeartbeats 4000000 in
theorem indexF (F : FuncId) (hE : ∀ (args : Array Value) (w : World), (callFunc F args).run Try.prog w = .ok (.enter F args) w) (fv : Value) (rows : List (List Value)) (pr : List Bool) (hpr : pr.length = rows.length) (p : Option Addr) (b off c : Nat) (w : World) (hS : SlR w p b off rows.length 28 rows)
    (KF : ∀ (i : Nat) (h : i < rows.length) (h' : i < pr.length) (V : World), RowKit.Below w.heap.size w V → Calls Try.prog F #[.agg rows[i].toArray, fv] V fun e w' => e = .returned (.bool pr[i]) ∧ RowKit.Below V.heap.size V w') :
    Calls Try.prog 103 #[.slice p rows.length c, .func (.func F) #[] #[fv]] w fun e w' => ∃ k : Int, e = .returned (.int .i64 k) ∧ (0 ≤ k ↔ pr.any id = true) ∧ RowKit.Below w.heap.size w w' := by
  have HB := Lib.hid (Below.refl w.heap.size w)
  have HS := Lib.hid hS
  have KQ := Lib.hid KF
  have hmax := hS.max
  obtain ⟨R, hR⟩ : ∃ R, R = pr.any id := ⟨_, rfl⟩
  rw [← hR]
  have HR := Lib.hid hR
  clear hS KF hR
  go_enter Try.func103, Try.ntmps103
  go_wp2_with fail
  go_loopg [8] rows.length (fun g v8 wr => ∃ i : Nat, i ≤ rows.length ∧ rows.length - i ≤ g ∧ v8 = .int .i64 i ∧ Hid ((pr.take i).any id = false) ∧ Hid (RowKit.Below w.heap.size w wr))
  case atStart => exact ⟨0, Nat.zero_le _, by omega, by simp, by show _ = _; simp, HB⟩
  case round =>
    obtain ⟨i, hi, hg, rfl, HM, HW⟩ := hrel
    by_cases hlt : i < rows.length
    · have hz : (i : Int) < (rows.length : Int) := by omega
      have hq := HS.out.ptr (by omega)
      subst hq
      have hr := (HS.out.bel HW.out).at_ i rows[i] (List.getElem?_eq_getElem hlt)
      have hld := load_rule wr b (off + i * 28) rows[i] hr.1 hr.2
      have KC := Lib.hid (KQ.out i hlt (by omega) wr HW.out)
      have htk : pr.take (i + 1) = pr.take i ++ [pr[i]'(by omega)] := List.take_succ_eq_append_getElem (by omega)
      have E3 : Hid ((pr.take (i + 1)).any id = pr[i]'(by omega)) := by show _ = _; rw [htk, List.any_append, HM.out]; simp
      have E4 : Hid (pr[i]'(by omega) = true → R = true) := fun h => by rw [HR.out]; exact List.any_eq_true.2 ⟨_, List.getElem_mem (by omega), h⟩
      clear hr htk
      obtain ⟨x, hx⟩ : ∃ x, x = pr[i]'(by omega) := ⟨_, rfl⟩
      rw [← hx] at KC E3 E4
      clear hx
      generalize rows[i] = l at *
      have e2 : IntKind.i64.wrap ((i : Int) + 1) = ((i + 1 : Nat) : Int) := by rw [IntWalk.i64_in _ (by omega)]; rfl
      go_wp2_with ((with_reducible show wpList _ _ _ ({ dst := some 15, op := _, type := _, pos := _, after := _, guard := _ } :: _) _ _); refine wl_loadP rfl rfl rfl hld ?_)
      refine KC.out.mono ?_
      rintro _ v ⟨rfl, hb⟩
      have HW3 := Lib.hid (HW.out.trans (hb.mono HW.out.size))
      clear hb KC hld
      cases x with
      | true =>
        go_wp2_with fail
        go_ret
        exact ⟨i, rfl, ⟨fun _ => E4.out trivial, fun _ => by omega⟩, HW3.out⟩
      | false =>
        go_wp2_with fail
        go_roundg (rows.length - (i + 1))
        case measure => omega
        case rel => exact ⟨i + 1, by omega, Nat.le_refl _, by simp, E3, HW3⟩
    · have hz : ¬ (i : Int) < (rows.length : Int) := by omega
      have hie : i = rows.length := by omega
      subst hie
      go_wp2_with fail
      go_ret
      refine ⟨-1, rfl, ⟨fun h => absurd h (by omega), fun h => ?_⟩, HW.out⟩
      have := HM.out
      rw [← hpr, List.take_length, ← HR.out, h] at this
      cases this
set_option maxRecDepth 100000 in
set_option maxHeartbeats 4000000 in
theorem containsF (F : FuncId) (hE : ∀ (args : Array Value) (w : World), (callFunc F args).run Try.prog w = .ok (.enter F args) w) (fv : Value) (rows : List (List Value)) (pr : List Bool) (hpr : pr.length = rows.length) (p : Option Addr) (b off c : Nat) (w : World) (hS : SlR w p b off rows.length 28 rows)
    (KF : ∀ (i : Nat) (h : i < rows.length) (h' : i < pr.length) (V : World), RowKit.Below w.heap.size w V → Calls Try.prog F #[.agg rows[i].toArray, fv] V fun e w' => e = .returned (.bool pr[i]) ∧ RowKit.Below V.heap.size V w') :
    Calls Try.prog 94 #[.slice p rows.length c, .func (.func F) #[] #[fv]] w fun e w' => e = .returned (.bool (pr.any id)) ∧ RowKit.Below w.heap.size w w' := by
  have KI := Lib.hid (indexF F hE fv rows pr hpr p b off c w hS KF)
  clear hS KF
  generalize pr.any id = R at *
  go_enter Try.func94, Try.ntmps94
  go_wp2_with fail
  refine KI.out.mono ?_
  rintro _ v ⟨k, rfl, hk, hb⟩
  have HB := Lib.hid hb
  clear hb KI
  have HK : Hid (decide (0 ≤ k) = R) := by show _ = _; rw [Bool.eq_iff_iff, decide_eq_true_eq]; exact hk
  clear hk
  by_cases h0 : 0 ≤ k
  · go_wp2_with fail
    go_ret
    exact ⟨ret_bool (by rw [← HK.out, decide_eq_true h0]), HB.out⟩
  · go_wp2_with fail
    go_ret
    exact ⟨ret_bool (by rw [← HK.out, decide_eq_false (by omega)]), HB.out⟩
/-- The closure that asks for a version. -/
theorem twice1 (r v : Ru) (x y xv yv : Kd) (l lv : List Value) (hr : RuC r x y l) (hv : RuC v xv yv lv) (ub : Nat) (w : World) (hb : BoxL w ub l) :
    Calls Try.prog 95 #[.agg lv.toArray, .pointer (some ⟨ub, 0, none⟩)] w fun e w' => e = .returned (.bool (v.ver == r.ver)) ∧ RowKit.Below w.heap.size w w' := by
  obtain ⟨i1, e1⟩ := gete hv.f1
  have A1 := (Below.refl w.heap.size w).alloc (Nat.le_refl _) (.cells lv.toArray 58)
  have c1 := (hb.bel (by rw [hr.len]; omega) A1 1 _ hr.f1).1
  have HB := Lib.hid A1
  have hl := hv.len
  generalize r.ver = a at *
  generalize v.ver = d at *
  clear A1 hb hr hv
  go_enter Try.func95, Try.ntmps95
  go_wp2_with fail
  go_ret
  exact ⟨rfl, HB.out⟩
theorem about1 (r v : Ru) (x y xv yv : Kd) (l lv : List Value) (hr : RuC r x y l) (hv : RuC v xv yv lv) (ub : Nat) (w : World) (hb : BoxL w ub l) :
    Calls Try.prog 96 #[.agg lv.toArray, .pointer (some ⟨ub, 0, none⟩)] w fun e w' => e = .returned (.bool (v.kind != r.kind || !(v.act == r.act))) ∧ RowKit.Below w.heap.size w w' := by
  obtain ⟨i2, e2⟩ := gete hv.f2
  obtain ⟨i3, e3⟩ := gete hv.f3
  have A1 := (Below.refl w.heap.size w).alloc (Nat.le_refl _) (.cells lv.toArray 58)
  have c2 := (hb.bel (by rw [hr.len]; omega) A1 2 _ hr.f2).1
  have c3 := (hb.bel (by rw [hr.len]; omega) A1 3 _ hr.f3).1
  have HB := Lib.hid A1
  have hl := hv.len
  have e0 : ((bs v.act).toList == (bs r.act).toList) = (v.act == r.act) := by rw [bs_list, bs_list]
  generalize (v.act == r.act) = E at *
  generalize bs r.act = s1 at *
  generalize bs v.act = s2 at *
  generalize r.kind = a at *
  generalize v.kind = d at *
  clear A1 hb hr hv
  by_cases hk : d = a
  · subst hk
    go_enter Try.func96, Try.ntmps96
    go_wp2_with fail
    go_ret
    exact ⟨ret_bool (by simp), HB.out⟩
  · have hkb : (d == a) = false := by simpa using hk
    go_enter Try.func96, Try.ntmps96
    go_wp2_with fail
    go_ret
    exact ⟨ret_bool (by simp [hk]), HB.out⟩
end Go.Proofs.Ytjifiijgghpniaa
/-
  Contracts of units: isTwice, isAbout, isNext.
-/
namespace Go.Proofs.Ytjifiijgghpniaa
open Go.RowKit Un MapKept

/-- A slice of rules, by their cells. -/
structure RsC (w : World) (p : Option Addr) (b off : Nat) (vs : List Ru) (rows : List (List Value)) : Prop where
  sl : SlR w p b off vs.length 28 rows
  ru : ∀ (i : Nat) (h : i < vs.length) (h' : i < rows.length), ∃ x y, RuC vs[i] x y rows[i]
theorem RsC.bel {w w1 : World} {p : Option Addr} {b off : Nat} {vs : List Ru} {rows : List (List Value)} (h : RsC w p b off vs rows) (hB : RowKit.Below w.heap.size w w1) : RsC w1 p b off vs rows := ⟨h.sl.bel hB, h.ru⟩
theorem any_map {α : Type} (l : List α) (f : α → Bool) : (l.map f).any id = l.any f := by simp [List.any_map]
set_option maxRecDepth 100000 in
set_option maxHeartbeats 4000000 in
theorem uisTwice_any (r : Ru) (x y : Kd) (l : List Value) (hr : RuC r x y l) (vs : List Ru) (rows : List (List Value)) (p : Option Addr) (b off c : Nat) (w : World) (hv : RsC w p b off vs rows) :
    Calls Try.prog 85 #[.agg l.toArray, .slice p vs.length c] w fun e w' => e = .returned (.bool (vs.any fun v => v.ver == r.ver)) ∧ RowKit.Below w.heap.size w w' := by
  have hmf : ∀ (fn : Fn) (first cap : Array Value) (w : World), (Instr.makeFunc fn first cap).run Try.prog w = .ok (.func fn first cap) w := fun _ _ _ _ => rfl
  have A1 := (Below.refl w.heap.size w).alloc (Nat.le_refl _) (.cells l.toArray 58)
  have X1 := BoxL.new w l 58
  have hl := hr.len
  have hrl : rows.length = vs.length := hv.sl.ln
  have KC := containsF 95 (fun _ _ => by kernel_rfl) (.pointer (some ⟨w.heap.size, 0, none⟩)) rows (vs.map fun v => v.ver == r.ver) (by rw [List.length_map, hrl]) p b off c (w.alloc (.cells l.toArray 58)) (by rw [hrl]; exact hv.sl.bel A1)
    (fun i h h' V hV => by
      obtain ⟨xv, yv, hc⟩ := hv.ru i (by omega) h
      have := twice1 r (vs[i]'(by omega)) x y xv yv l rows[i] hr hc w.heap.size V (X1.bel (by omega) hV)
      simpa using this)
  rw [any_map, hrl] at KC
  have KQ := Lib.hid KC
  have HB := Lib.hid A1
  generalize (vs.any fun v => v.ver == r.ver) = R at *
  clear KC A1 X1 hr hv
  go_enter Try.func85, Try.ntmps85
  go_wp2_with fail
  refine KQ.out.mono ?_
  rintro _ v ⟨rfl, hb⟩
  have HB2 := Lib.hid (HB.out.trans (hb.mono HB.out.size))
  clear hb KQ
  go_wp2_with fail
  go_ret
  exact ⟨rfl, HB2.out⟩
def zRuleL : List Value := [.string ⟨#[]⟩, .int .i64 0, .int .i64 0, .string ⟨#[]⟩, .int .i64 0, .int .i64 0, .int .i64 0, .int .i64 0, .int .i64 0, .string ⟨#[]⟩, .int .i64 0, .int .i64 0, .bool false, .int .i64 0, .int .i64 0, .int .i64 0, .slice none 0 0, .int .i64 0, .int .i64 0, .string ⟨#[]⟩, .int .i64 0, .int .i64 0, .bool false, .int .i64 0, .int .i64 0, .int .i64 0, .slice none 0 0, .int .i64 0]
theorem alloc_rule (w : World) : (Instr.alloc 58 true (.tuple #[])).run Try.prog w = .ok (.pointer (some ⟨w.heap.size, 0, none⟩)) (w.alloc (.cells zRuleL.toArray 58)) := by kernel_rfl
/-- A rule's box is made and filled. -/
theorem wl_rbox {ops : Array Oper} {rest : List Oper} {o1 o2 : Oper} {a : Act} {v : World} {Q : Exit → Act → World → Prop} {L : List Value} (g1 : o1.guard = none) (g2 : o2.guard = none) (h1 : o1.op = .alloc 58) {x2 y2 : Operand} (h2 : o2.op = .store 58 x2 y2) (hL : L.length = 28) (oL : ∀ u ∈ L, u.oneCell' = true)
    (hx : (a.put o1.dst (.pointer (some ⟨v.heap.size, 0, none⟩))).eval x2 = .pointer (some ⟨v.heap.size, 0, none⟩)) (hy : (a.put o1.dst (.pointer (some ⟨v.heap.size, 0, none⟩))).eval y2 = .agg L.toArray)
    (h : ∀ V : World, RowKit.Below v.heap.size v V → V.heap.size = v.heap.size + 1 → BoxL V v.heap.size L → wpList Try.prog ops Q rest ((a.put o1.dst (.pointer (some ⟨v.heap.size, 0, none⟩))).put o2.dst undef) V) :
    wpList Try.prog ops Q (o1 :: o2 :: rest) a v := by
  have b1 := (Below.refl v.heap.size v).alloc (Nat.le_refl _) (.cells zRuleL.toArray 58)
  have D := BoxL.new v zRuleL 58
  have hs : (v.alloc (.cells zRuleL.toArray 58)).heap.size = v.heap.size + 1 := by simp
  refine wl_alloc g1 h1 (alloc_rule v) ?_
  generalize v.alloc (.cells zRuleL.toArray 58) = V0 at *
  refine wl_store g2 h2 hx hy (store_row 58 28 (by kernel_rfl) V0 v.heap.size zRuleL L D rfl hL oL) ?_
  have k1 := kept_setCells (b := v.heap.size) (w := V0) L 0 V0 (Kept.refl _ _)
  refine h _ (b1.trans (k1.below (Nat.le_refl _) (by omega))) (by rw [setCells_size]; exact hs) (D.cells (by rw [hL]; rfl))
/-- A rule is the version that comes next. -/
def nextB (vs : List Ru) (r : Ru) : Bool := match vs.getLast? with
  | none => decide (r.ver = 1)
  | some v => decide (v.ver = r.ver - 1) && decide (v.known ≤ r.known)
set_option maxRecDepth 100000 in
set_option maxHeartbeats 4000000 in
theorem uisNext_any (r : Ru) (x y : Kd) (l : List Value) (hr : RuC r x y l) (hver : 1 ≤ r.ver ∧ r.ver ≤ 999) (vs : List Ru) (rows : List (List Value)) (p : Option Addr) (b off c : Nat) (w : World) (hv : RsC w p b off vs rows) :
    Calls Try.prog 87 #[.agg l.toArray, .slice p vs.length c] w fun e w' => e = .returned (.bool (nextB vs r)) ∧ RowKit.Below w.heap.size w w' := by
  obtain ⟨i1, e1⟩ := gete hr.f1
  obtain ⟨i6, e6⟩ := gete hr.f6
  have A1 := (Below.refl w.heap.size w).alloc (Nat.le_refl _) (.cells l.toArray 58)
  have X1 := BoxL.new w l 58
  have hl := hr.len
  have hmax := hv.sl.max
  have ew : IntKind.i64.wrap (r.ver - 1) = r.ver - 1 := IntWalk.i64_in _ (by omega)
  obtain ⟨R, hR⟩ : ∃ R, R = nextB vs r := ⟨_, rfl⟩
  rw [← hR]
  have HR := Lib.hid hR
  clear hR
  by_cases hn : vs = []
  · subst hn
    have HB := Lib.hid A1
    have c1 := (X1 1 _ hr.f1).1
    obtain ⟨W1, hW1⟩ : ∃ W1, W1 = w.alloc (.cells l.toArray 58) := ⟨_, rfl⟩
    have HR2 : Hid (R = decide (r.ver = 1)) := HR.out
    clear A1 X1 hr hv HR
    generalize r.ver = a at *
    by_cases ha : a = 1
    · subst ha
      go_enter Try.func87, Try.ntmps87
      go_wp2_with fail
      go_ret
      exact ⟨ret_bool (by rw [HR2.out]; rfl), HB.out⟩
    · have hab : (a == 1) = false := by simpa using ha
      go_enter Try.func87, Try.ntmps87
      go_wp2_with fail
      go_ret
      exact ⟨ret_bool (by rw [HR2.out]; simp [ha]), HB.out⟩
  · have hpos : 0 < vs.length := List.length_pos_iff.2 hn
    have hln := hv.sl.ln
    have hgl : vs.getLast? = some (vs[vs.length - 1]'(by omega)) := by rw [List.getLast?_eq_getElem?, List.getElem?_eq_getElem]
    have HR2 : Hid (R = (decide ((vs[vs.length - 1]'(by omega)).ver = r.ver - 1) && decide ((vs[vs.length - 1]'(by omega)).known ≤ r.known))) := by show _ = _; rw [HR.out]; unfold nextB; rw [hgl]
    have hv1 := hv.bel A1
    have hq := hv1.sl.ptr hpos
    subst hq
    have hrow := hv1.sl.at_ (vs.length - 1) (rows[vs.length - 1]'(by omega)) (List.getElem?_eq_getElem _)
    obtain ⟨xv, yv, hc⟩ := hv1.ru (vs.length - 1) (by omega) (by omega)
    have hld := load_rule _ b _ _ hrow.1 hrow.2
    have X1' := Lib.hid X1
    have HB := Lib.hid A1
    clear HR hgl hv hv1 hrow A1 X1
    generalize vs[vs.length - 1]'(by omega) = v at *
    generalize rows[vs.length - 1]'(by omega) = lv at *
    have hz : ((vs.length : Int) == 0) = false := by simp; omega
    have hz2 : IntKind.i64.wrap ((vs.length : Int) - 1) = ((vs.length - 1 : Nat) : Int) := by rw [IntWalk.i64_in _ (by omega)]; omega
    have hz3 : ((vs.length - 1 : Nat) : Int) < (vs.length : Int) := by omega
    generalize hm : vs.length - 1 = m at *
    generalize vs.length = n at *
    have hlc := hc.len
    have hlo := hc.one
    have g1 := hc.f1
    have g6 := hc.f6
    generalize v.ver = va at *
    generalize v.known = vk at *
    generalize r.known = rk at *
    have f1 := hr.f1
    have f6 := hr.f6
    clear hr hc
    generalize hW1 : w.alloc (.cells l.toArray 58) = W1 at *
    go_enter Try.func87, Try.ntmps87
    go_wp2_with (first | ((with_reducible show wpList _ _ _ ({ dst := some 17, op := _, type := _, pos := _, after := _, guard := _ } :: _) _ _); (try rw [hW1]); refine wl_loadP rfl rfl rfl hld ?_) | ((with_reducible show wpList _ _ _ ({ dst := some 5, op := _, type := _, pos := _, after := _, guard := _ } :: _) _ _); refine wl_rbox rfl rfl rfl rfl hlc hlo rfl rfl ?_; intro V hb hsz hx; have HB3 := Lib.hid (HB.out.trans (hb.mono HB.out.size)); have X3 := Lib.hid (X1'.out.bel (by omega) hb); obtain ⟨k1, -⟩ := X3.out 1 _ f1; obtain ⟨k6, -⟩ := X3.out 6 _ f6; obtain ⟨j1, -⟩ := hx 1 _ g1; obtain ⟨j6, -⟩ := hx 6 _ g6; clear hb hx hsz))
    all_goals
      go_ret
      refine ⟨ret_bool ?_, HB3.out⟩
      rw [HR2.out]
      simp_all
set_option maxRecDepth 100000 in
set_option maxHeartbeats 6000000 in
theorem uisAbout_any (r : Ru) (x y : Kd) (l : List Value) (hr : RuC r x y l) (vs : List Ru) (rows : List (List Value)) (p : Option Addr) (b off c : Nat) (w : World) (hv : RsC w p b off vs rows) :
    Calls Try.prog 86 #[.agg l.toArray, .slice p vs.length c] w fun e w' => e = .returned (.bool ((hasAct r.kind != r.act.isEmpty) && !(vs.any fun v => v.kind != r.kind || !(v.act == r.act)))) ∧ RowKit.Below w.heap.size w w' := by
  have hmf : ∀ (fn : Fn) (first cap : Array Value) (w : World), (Instr.makeFunc fn first cap).run Try.prog w = .ok (.func fn first cap) w := fun _ _ _ _ => rfl
  have A1 := (Below.refl w.heap.size w).alloc (Nat.le_refl _) (.cells l.toArray 58)
  have X1 := BoxL.new w l 58
  have hl := hr.len
  have hrl : rows.length = vs.length := hv.sl.ln
  have KC : Hid (∀ V, RowKit.Below (w.alloc (.cells l.toArray 58)).heap.size (w.alloc (.cells l.toArray 58)) V → Calls Try.prog 94 #[.slice p vs.length c, .func (.func 96) #[] #[.pointer (some ⟨w.heap.size, 0, none⟩)]] V fun e w' => e = .returned (.bool (vs.any fun v => v.kind != r.kind || !(v.act == r.act))) ∧ RowKit.Below V.heap.size V w') := fun V hV => by
    have := containsF 96 (fun _ _ => by kernel_rfl) (.pointer (some ⟨w.heap.size, 0, none⟩)) rows (vs.map fun v => v.kind != r.kind || !(v.act == r.act)) (by rw [List.length_map, hrl]) p b off c V (by rw [hrl]; exact (hv.sl.bel A1).bel hV)
      (fun i h h' U hU => by
        obtain ⟨xv, yv, hc⟩ := hv.ru i (by omega) h
        have := about1 r (vs[i]'(by omega)) x y xv yv l rows[i] hr hc w.heap.size U ((X1.bel (by omega) hV).bel (by omega) hU)
        simpa using this)
    rw [any_map, hrl] at this
    exact this
  have KH := Lib.hid (fun w => uhasAct_any r.kind w)
  obtain ⟨c2, -⟩ := X1 2 _ hr.f2
  obtain ⟨c3, -⟩ := X1 3 _ hr.f3
  have HB := Lib.hid A1
  have e1 := nm_test r.act
  clear A1 X1 hv
  generalize r.act.isEmpty = E at *
  generalize bs r.act = s at *
  generalize (vs.any fun v => v.kind != r.kind || !(v.act == r.act)) = T at *
  generalize hasAct r.kind = H at *
  generalize r.kind = k at *
  clear hr
  generalize hW1 : w.alloc (.cells l.toArray 58) = W1 at *
  cases H with
  | true =>
    cases E with
    | true =>
      go_enter Try.func86, Try.ntmps86
      go_wp2_with fail
      have hS : W1.drew.cell? ⟨w.heap.size, 2, none⟩ = some (.int .i64 k) ∧ W1.drew.cell? ⟨w.heap.size, 3, none⟩ = some (.string s) := ⟨c2, c3⟩
      refine wp_region_held (S := fun w' : World => w'.cell? ⟨w.heap.size, 2, none⟩ = some (.int .i64 k) ∧ w'.cell? ⟨w.heap.size, 3, none⟩ = some (.string s)) mixed ?_
      change wpAnyH _ _ _ _ _ _ _ _ W1.drew
      have HHS := Lib.hid hS
      refine tk0 (v := ?_) (by kernel_rfl) (by kernel_rfl) (by kernel_rfl) (fun _ _ _ h => h) (Or.inl ⟨by rfl, ?_⟩) hS ?_
      rotate_left
      · (intro w hSw; (try dsimp only at hSw); go_simp; try with_reducible rfl)
      simp only [Act.put, List.setIfInBounds_toArray, List.set_cons_zero, List.set_cons_succ]
      refine tk1 (v := ?_) (by kernel_rfl) (by kernel_rfl) (by kernel_rfl) (fun _ _ _ h => h) (Or.inl ⟨by rfl, ?_⟩) hS ?_
      rotate_left
      · (intro w hSw; (try dsimp only at hSw); go_simp; try with_reducible rfl)
      simp only [Act.put, List.setIfInBounds_toArray, List.set_cons_zero, List.set_cons_succ]
      refine tk3 (v := ?_) (by kernel_rfl) (by kernel_rfl) (by kernel_rfl) (fun _ _ _ h => h) (Or.inl ⟨by rfl, ?_⟩) hS ?_
      rotate_left
      · (intro w hSw; (try dsimp only at hSw); go_simp; try with_reducible rfl)
      simp only [Act.put, List.setIfInBounds_toArray, List.set_cons_zero, List.set_cons_succ]
      refine tk4 (v := ?_) (by kernel_rfl) (by kernel_rfl) (by kernel_rfl) (fun _ _ _ h => h) (Or.inl ⟨by rfl, ?_⟩) hS ?_
      rotate_left
      · (intro w hSw; (try dsimp only at hSw); go_simp; try with_reducible rfl)
      simp only [Act.put, List.setIfInBounds_toArray, List.set_cons_zero, List.set_cons_succ]
      refine tk5 (v := ?_) (by kernel_rfl) (by kernel_rfl) (by kernel_rfl) (fun _ _ _ h => h) (Or.inl ⟨by rfl, ?_⟩) hS ?_
      rotate_left
      · (intro w hSw; (try dsimp only at hSw); go_simp; try with_reducible rfl)
      simp only [Act.put, List.setIfInBounds_toArray, List.set_cons_zero, List.set_cons_succ]
      refine wpAnyH_ready (rs := [2]) (by kernel_rfl) (by simp) (st2 (fun K hK => ?_) AllReadyH.nil)
      go_simp
      refine (KH.out _).mono ?_
      rintro _ v ⟨rfl, rfl⟩
      go_wp2_with fail
      refine hK.out _ _ ?_ (fun hHeld => ?_)
      · exact HHS.out
      clear hK K
      try simp only [Act.put, List.setIfInBounds_toArray, List.set_cons_zero, List.set_cons_succ]
      refine tk6 (v := ?_) (by kernel_rfl) (by kernel_rfl) (by kernel_rfl) (fun _ _ _ h => h) (Or.inl ⟨by rfl, ?_⟩) hHeld ?_
      rotate_left
      · (intro w hSw; (try dsimp only at hSw); go_simp; try with_reducible rfl)
      simp only [Act.put, List.setIfInBounds_toArray, List.set_cons_zero, List.set_cons_succ]
      refine tk7 (v := ?_) (by kernel_rfl) (by kernel_rfl) (by kernel_rfl) (fun _ _ _ h => h) (Or.inl ⟨by rfl, ?_⟩) hHeld ?_
      rotate_left
      · (intro w hSw; (try dsimp only at hSw); go_simp; try with_reducible rfl)
      simp only [Act.put, List.setIfInBounds_toArray, List.set_cons_zero, List.set_cons_succ]
      refine tk8 (v := undef) (by kernel_rfl) (by kernel_rfl) (by kernel_rfl) (fun _ _ _ h => h) (Or.inr ⟨by rfl, rfl⟩) hHeld ?_
      simp only [Act.put, List.setIfInBounds_toArray, List.set_cons_zero, List.set_cons_succ]
      refine tk9 (v := undef) (by kernel_rfl) (by kernel_rfl) (by kernel_rfl) (fun _ _ _ h => h) (Or.inr ⟨by rfl, rfl⟩) hHeld ?_
      simp only [Act.put, List.setIfInBounds_toArray, List.set_cons_zero, List.set_cons_succ]
      refine wpAnyH_ready (rs := [10]) (by kernel_rfl) (by simp) (st10 (fun K hK => ?_) AllReadyH.nil)
      go_simp
      refine hK.out _ _ ?_ (fun hHeld => ?_)
      · exact HHS.out
      clear hK K
      try simp only [Act.put, List.setIfInBounds_toArray, List.set_cons_zero, List.set_cons_succ]
      refine tk11 (v := undef) (by kernel_rfl) (by kernel_rfl) (by kernel_rfl) (fun _ _ _ h => h) (Or.inr ⟨by rfl, rfl⟩) hHeld ?_
      simp only [Act.put, List.setIfInBounds_toArray, List.set_cons_zero, List.set_cons_succ]
      refine tk12 (v := ?_) (by kernel_rfl) (by kernel_rfl) (by kernel_rfl) (fun _ _ _ h => h) (Or.inl ⟨by rfl, ?_⟩) hHeld ?_
      rotate_left
      · (intro w hSw; (try dsimp only at hSw); go_simp; try with_reducible rfl)
      simp only [Act.put, List.setIfInBounds_toArray, List.set_cons_zero, List.set_cons_succ]
      refine tk13 (v := ?_) (by kernel_rfl) (by kernel_rfl) (by kernel_rfl) (fun _ _ _ h => h) (Or.inl ⟨by rfl, ?_⟩) hHeld ?_
      rotate_left
      · (intro w hSw; (try dsimp only at hSw); go_simp; try with_reducible rfl)
      simp only [Act.put, List.setIfInBounds_toArray, List.set_cons_zero, List.set_cons_succ]
      refine wpAnyH_done (by kernel_rfl) ?_ _
      go_wp2_with fail
      go_ret
      exact ⟨rfl, (by repeat' (first | (with_reducible exact HB.out) | (with_reducible refine Below.setCell ?_ ?_ _) | (with_reducible refine Below.alloc ?_ ?_ _) | (with_reducible refine Below.drew ?_) | (with_reducible refine below_drewN ?_ _) | (with_reducible exact Below.refl _ _) | omega | (simp; done) | (simp; omega)))⟩
    | false =>
      go_enter Try.func86, Try.ntmps86
      go_wp2_with fail
      have hS : W1.drew.cell? ⟨w.heap.size, 2, none⟩ = some (.int .i64 k) ∧ W1.drew.cell? ⟨w.heap.size, 3, none⟩ = some (.string s) := ⟨c2, c3⟩
      refine wp_region_held (S := fun w' : World => w'.cell? ⟨w.heap.size, 2, none⟩ = some (.int .i64 k) ∧ w'.cell? ⟨w.heap.size, 3, none⟩ = some (.string s)) mixed ?_
      change wpAnyH _ _ _ _ _ _ _ _ W1.drew
      have HHS := Lib.hid hS
      refine tk0 (v := ?_) (by kernel_rfl) (by kernel_rfl) (by kernel_rfl) (fun _ _ _ h => h) (Or.inl ⟨by rfl, ?_⟩) hS ?_
      rotate_left
      · (intro w hSw; (try dsimp only at hSw); go_simp; try with_reducible rfl)
      simp only [Act.put, List.setIfInBounds_toArray, List.set_cons_zero, List.set_cons_succ]
      refine tk1 (v := ?_) (by kernel_rfl) (by kernel_rfl) (by kernel_rfl) (fun _ _ _ h => h) (Or.inl ⟨by rfl, ?_⟩) hS ?_
      rotate_left
      · (intro w hSw; (try dsimp only at hSw); go_simp; try with_reducible rfl)
      simp only [Act.put, List.setIfInBounds_toArray, List.set_cons_zero, List.set_cons_succ]
      refine tk3 (v := ?_) (by kernel_rfl) (by kernel_rfl) (by kernel_rfl) (fun _ _ _ h => h) (Or.inl ⟨by rfl, ?_⟩) hS ?_
      rotate_left
      · (intro w hSw; (try dsimp only at hSw); go_simp; try with_reducible rfl)
      simp only [Act.put, List.setIfInBounds_toArray, List.set_cons_zero, List.set_cons_succ]
      refine tk4 (v := ?_) (by kernel_rfl) (by kernel_rfl) (by kernel_rfl) (fun _ _ _ h => h) (Or.inl ⟨by rfl, ?_⟩) hS ?_
      rotate_left
      · (intro w hSw; (try dsimp only at hSw); go_simp; try with_reducible rfl)
      simp only [Act.put, List.setIfInBounds_toArray, List.set_cons_zero, List.set_cons_succ]
      refine tk5 (v := ?_) (by kernel_rfl) (by kernel_rfl) (by kernel_rfl) (fun _ _ _ h => h) (Or.inl ⟨by rfl, ?_⟩) hS ?_
      rotate_left
      · (intro w hSw; (try dsimp only at hSw); go_simp; try with_reducible rfl)
      simp only [Act.put, List.setIfInBounds_toArray, List.set_cons_zero, List.set_cons_succ]
      refine wpAnyH_ready (rs := [2]) (by kernel_rfl) (by simp) (st2 (fun K hK => ?_) AllReadyH.nil)
      go_simp
      refine (KH.out _).mono ?_
      rintro _ v ⟨rfl, rfl⟩
      go_wp2_with fail
      refine hK.out _ _ ?_ (fun hHeld => ?_)
      · exact HHS.out
      clear hK K
      try simp only [Act.put, List.setIfInBounds_toArray, List.set_cons_zero, List.set_cons_succ]
      refine tk6 (v := ?_) (by kernel_rfl) (by kernel_rfl) (by kernel_rfl) (fun _ _ _ h => h) (Or.inl ⟨by rfl, ?_⟩) hHeld ?_
      rotate_left
      · (intro w hSw; (try dsimp only at hSw); go_simp; try with_reducible rfl)
      simp only [Act.put, List.setIfInBounds_toArray, List.set_cons_zero, List.set_cons_succ]
      refine tk7 (v := ?_) (by kernel_rfl) (by kernel_rfl) (by kernel_rfl) (fun _ _ _ h => h) (Or.inl ⟨by rfl, ?_⟩) hHeld ?_
      rotate_left
      · (intro w hSw; (try dsimp only at hSw); go_simp; try with_reducible rfl)
      simp only [Act.put, List.setIfInBounds_toArray, List.set_cons_zero, List.set_cons_succ]
      refine tk8 (v := ?_) (by kernel_rfl) (by kernel_rfl) (by kernel_rfl) (fun _ _ _ h => h) (Or.inl ⟨by rfl, ?_⟩) hHeld ?_
      rotate_left
      · (intro w hSw; (try dsimp only at hSw); go_simp; try with_reducible rfl)
      simp only [Act.put, List.setIfInBounds_toArray, List.set_cons_zero, List.set_cons_succ]
      refine tk9 (v := ?_) (by kernel_rfl) (by kernel_rfl) (by kernel_rfl) (fun _ _ _ h => h) (Or.inl ⟨by rfl, ?_⟩) hHeld ?_
      rotate_left
      · (intro w hSw; (try dsimp only at hSw); go_simp; try with_reducible rfl)
      simp only [Act.put, List.setIfInBounds_toArray, List.set_cons_zero, List.set_cons_succ]
      refine wpAnyH_ready (rs := [10]) (by kernel_rfl) (by simp) (st10 (fun K hK => ?_) AllReadyH.nil)
      go_simp
      refine (KC.out _ (Below.refl _ _).drew).mono ?_
      rintro _ V ⟨rfl, hb⟩
      have HD := Lib.hid ((Below.refl W1.heap.size W1).drew.trans hb)
      have HS2 := Lib.hid (show V.cell? ⟨w.heap.size, 2, none⟩ = some (.int .i64 k) ∧ V.cell? ⟨w.heap.size, 3, none⟩ = some (.string s) from ⟨(HD.out.cell (p := ⟨w.heap.size, 2, none⟩) (World.block_lt_of_cell? _ _ c2)).trans c2, (HD.out.cell (p := ⟨w.heap.size, 3, none⟩) (World.block_lt_of_cell? _ _ c3)).trans c3⟩)
      have HB2 := Lib.hid (HB.out.trans (HD.out.mono HB.out.size))
      clear hb HD
      go_wp2_with fail
      refine hK.out _ _ ?_ (fun hHeld => ?_)
      · exact HS2.out
      clear hK K
      try simp only [Act.put, List.setIfInBounds_toArray, List.set_cons_zero, List.set_cons_succ]
      refine tk11 (v := ?_) (by kernel_rfl) (by kernel_rfl) (by kernel_rfl) (fun _ _ _ h => h) (Or.inl ⟨by rfl, ?_⟩) hHeld ?_
      rotate_left
      · (intro w hSw; (try dsimp only at hSw); go_simp; try with_reducible rfl)
      simp only [Act.put, List.setIfInBounds_toArray, List.set_cons_zero, List.set_cons_succ]
      refine tk12 (v := ?_) (by kernel_rfl) (by kernel_rfl) (by kernel_rfl) (fun _ _ _ h => h) (Or.inl ⟨by rfl, ?_⟩) hHeld ?_
      rotate_left
      · (intro w hSw; (try dsimp only at hSw); go_simp; try with_reducible rfl)
      simp only [Act.put, List.setIfInBounds_toArray, List.set_cons_zero, List.set_cons_succ]
      refine tk13 (v := ?_) (by kernel_rfl) (by kernel_rfl) (by kernel_rfl) (fun _ _ _ h => h) (Or.inl ⟨by rfl, ?_⟩) hHeld ?_
      rotate_left
      · (intro w hSw; (try dsimp only at hSw); go_simp; try with_reducible rfl)
      simp only [Act.put, List.setIfInBounds_toArray, List.set_cons_zero, List.set_cons_succ]
      refine wpAnyH_done (by kernel_rfl) ?_ _
      go_wp2_with fail
      go_ret
      exact ⟨rfl, HB2.out⟩
  | false =>
    cases E with
    | true =>
      go_enter Try.func86, Try.ntmps86
      go_wp2_with fail
      have hS : W1.drew.cell? ⟨w.heap.size, 2, none⟩ = some (.int .i64 k) ∧ W1.drew.cell? ⟨w.heap.size, 3, none⟩ = some (.string s) := ⟨c2, c3⟩
      refine wp_region_held (S := fun w' : World => w'.cell? ⟨w.heap.size, 2, none⟩ = some (.int .i64 k) ∧ w'.cell? ⟨w.heap.size, 3, none⟩ = some (.string s)) mixed ?_
      change wpAnyH _ _ _ _ _ _ _ _ W1.drew
      have HHS := Lib.hid hS
      refine tk0 (v := ?_) (by kernel_rfl) (by kernel_rfl) (by kernel_rfl) (fun _ _ _ h => h) (Or.inl ⟨by rfl, ?_⟩) hS ?_
      rotate_left
      · (intro w hSw; (try dsimp only at hSw); go_simp; try with_reducible rfl)
      simp only [Act.put, List.setIfInBounds_toArray, List.set_cons_zero, List.set_cons_succ]
      refine tk1 (v := ?_) (by kernel_rfl) (by kernel_rfl) (by kernel_rfl) (fun _ _ _ h => h) (Or.inl ⟨by rfl, ?_⟩) hS ?_
      rotate_left
      · (intro w hSw; (try dsimp only at hSw); go_simp; try with_reducible rfl)
      simp only [Act.put, List.setIfInBounds_toArray, List.set_cons_zero, List.set_cons_succ]
      refine tk3 (v := ?_) (by kernel_rfl) (by kernel_rfl) (by kernel_rfl) (fun _ _ _ h => h) (Or.inl ⟨by rfl, ?_⟩) hS ?_
      rotate_left
      · (intro w hSw; (try dsimp only at hSw); go_simp; try with_reducible rfl)
      simp only [Act.put, List.setIfInBounds_toArray, List.set_cons_zero, List.set_cons_succ]
      refine tk4 (v := ?_) (by kernel_rfl) (by kernel_rfl) (by kernel_rfl) (fun _ _ _ h => h) (Or.inl ⟨by rfl, ?_⟩) hS ?_
      rotate_left
      · (intro w hSw; (try dsimp only at hSw); go_simp; try with_reducible rfl)
      simp only [Act.put, List.setIfInBounds_toArray, List.set_cons_zero, List.set_cons_succ]
      refine tk5 (v := ?_) (by kernel_rfl) (by kernel_rfl) (by kernel_rfl) (fun _ _ _ h => h) (Or.inl ⟨by rfl, ?_⟩) hS ?_
      rotate_left
      · (intro w hSw; (try dsimp only at hSw); go_simp; try with_reducible rfl)
      simp only [Act.put, List.setIfInBounds_toArray, List.set_cons_zero, List.set_cons_succ]
      refine wpAnyH_ready (rs := [2]) (by kernel_rfl) (by simp) (st2 (fun K hK => ?_) AllReadyH.nil)
      go_simp
      refine (KH.out _).mono ?_
      rintro _ v ⟨rfl, rfl⟩
      go_wp2_with fail
      refine hK.out _ _ ?_ (fun hHeld => ?_)
      · exact HHS.out
      clear hK K
      try simp only [Act.put, List.setIfInBounds_toArray, List.set_cons_zero, List.set_cons_succ]
      refine tk6 (v := ?_) (by kernel_rfl) (by kernel_rfl) (by kernel_rfl) (fun _ _ _ h => h) (Or.inl ⟨by rfl, ?_⟩) hHeld ?_
      rotate_left
      · (intro w hSw; (try dsimp only at hSw); go_simp; try with_reducible rfl)
      simp only [Act.put, List.setIfInBounds_toArray, List.set_cons_zero, List.set_cons_succ]
      refine tk7 (v := ?_) (by kernel_rfl) (by kernel_rfl) (by kernel_rfl) (fun _ _ _ h => h) (Or.inl ⟨by rfl, ?_⟩) hHeld ?_
      rotate_left
      · (intro w hSw; (try dsimp only at hSw); go_simp; try with_reducible rfl)
      simp only [Act.put, List.setIfInBounds_toArray, List.set_cons_zero, List.set_cons_succ]
      refine tk8 (v := ?_) (by kernel_rfl) (by kernel_rfl) (by kernel_rfl) (fun _ _ _ h => h) (Or.inl ⟨by rfl, ?_⟩) hHeld ?_
      rotate_left
      · (intro w hSw; (try dsimp only at hSw); go_simp; try with_reducible rfl)
      simp only [Act.put, List.setIfInBounds_toArray, List.set_cons_zero, List.set_cons_succ]
      refine tk9 (v := ?_) (by kernel_rfl) (by kernel_rfl) (by kernel_rfl) (fun _ _ _ h => h) (Or.inl ⟨by rfl, ?_⟩) hHeld ?_
      rotate_left
      · (intro w hSw; (try dsimp only at hSw); go_simp; try with_reducible rfl)
      simp only [Act.put, List.setIfInBounds_toArray, List.set_cons_zero, List.set_cons_succ]
      refine wpAnyH_ready (rs := [10]) (by kernel_rfl) (by simp) (st10 (fun K hK => ?_) AllReadyH.nil)
      go_simp
      refine (KC.out _ (Below.refl _ _).drew).mono ?_
      rintro _ V ⟨rfl, hb⟩
      have HD := Lib.hid ((Below.refl W1.heap.size W1).drew.trans hb)
      have HS2 := Lib.hid (show V.cell? ⟨w.heap.size, 2, none⟩ = some (.int .i64 k) ∧ V.cell? ⟨w.heap.size, 3, none⟩ = some (.string s) from ⟨(HD.out.cell (p := ⟨w.heap.size, 2, none⟩) (World.block_lt_of_cell? _ _ c2)).trans c2, (HD.out.cell (p := ⟨w.heap.size, 3, none⟩) (World.block_lt_of_cell? _ _ c3)).trans c3⟩)
      have HB2 := Lib.hid (HB.out.trans (HD.out.mono HB.out.size))
      clear hb HD
      go_wp2_with fail
      refine hK.out _ _ ?_ (fun hHeld => ?_)
      · exact HS2.out
      clear hK K
      try simp only [Act.put, List.setIfInBounds_toArray, List.set_cons_zero, List.set_cons_succ]
      refine tk11 (v := ?_) (by kernel_rfl) (by kernel_rfl) (by kernel_rfl) (fun _ _ _ h => h) (Or.inl ⟨by rfl, ?_⟩) hHeld ?_
      rotate_left
      · (intro w hSw; (try dsimp only at hSw); go_simp; try with_reducible rfl)
      simp only [Act.put, List.setIfInBounds_toArray, List.set_cons_zero, List.set_cons_succ]
      refine tk12 (v := ?_) (by kernel_rfl) (by kernel_rfl) (by kernel_rfl) (fun _ _ _ h => h) (Or.inl ⟨by rfl, ?_⟩) hHeld ?_
      rotate_left
      · (intro w hSw; (try dsimp only at hSw); go_simp; try with_reducible rfl)
      simp only [Act.put, List.setIfInBounds_toArray, List.set_cons_zero, List.set_cons_succ]
      refine tk13 (v := ?_) (by kernel_rfl) (by kernel_rfl) (by kernel_rfl) (fun _ _ _ h => h) (Or.inl ⟨by rfl, ?_⟩) hHeld ?_
      rotate_left
      · (intro w hSw; (try dsimp only at hSw); go_simp; try with_reducible rfl)
      simp only [Act.put, List.setIfInBounds_toArray, List.set_cons_zero, List.set_cons_succ]
      refine wpAnyH_done (by kernel_rfl) ?_ _
      go_wp2_with fail
      go_ret
      exact ⟨rfl, HB2.out⟩
    | false =>
      go_enter Try.func86, Try.ntmps86
      go_wp2_with fail
      have hS : W1.drew.cell? ⟨w.heap.size, 2, none⟩ = some (.int .i64 k) ∧ W1.drew.cell? ⟨w.heap.size, 3, none⟩ = some (.string s) := ⟨c2, c3⟩
      refine wp_region_held (S := fun w' : World => w'.cell? ⟨w.heap.size, 2, none⟩ = some (.int .i64 k) ∧ w'.cell? ⟨w.heap.size, 3, none⟩ = some (.string s)) mixed ?_
      change wpAnyH _ _ _ _ _ _ _ _ W1.drew
      have HHS := Lib.hid hS
      refine tk0 (v := ?_) (by kernel_rfl) (by kernel_rfl) (by kernel_rfl) (fun _ _ _ h => h) (Or.inl ⟨by rfl, ?_⟩) hS ?_
      rotate_left
      · (intro w hSw; (try dsimp only at hSw); go_simp; try with_reducible rfl)
      simp only [Act.put, List.setIfInBounds_toArray, List.set_cons_zero, List.set_cons_succ]
      refine tk1 (v := ?_) (by kernel_rfl) (by kernel_rfl) (by kernel_rfl) (fun _ _ _ h => h) (Or.inl ⟨by rfl, ?_⟩) hS ?_
      rotate_left
      · (intro w hSw; (try dsimp only at hSw); go_simp; try with_reducible rfl)
      simp only [Act.put, List.setIfInBounds_toArray, List.set_cons_zero, List.set_cons_succ]
      refine tk3 (v := ?_) (by kernel_rfl) (by kernel_rfl) (by kernel_rfl) (fun _ _ _ h => h) (Or.inl ⟨by rfl, ?_⟩) hS ?_
      rotate_left
      · (intro w hSw; (try dsimp only at hSw); go_simp; try with_reducible rfl)
      simp only [Act.put, List.setIfInBounds_toArray, List.set_cons_zero, List.set_cons_succ]
      refine tk4 (v := ?_) (by kernel_rfl) (by kernel_rfl) (by kernel_rfl) (fun _ _ _ h => h) (Or.inl ⟨by rfl, ?_⟩) hS ?_
      rotate_left
      · (intro w hSw; (try dsimp only at hSw); go_simp; try with_reducible rfl)
      simp only [Act.put, List.setIfInBounds_toArray, List.set_cons_zero, List.set_cons_succ]
      refine tk5 (v := ?_) (by kernel_rfl) (by kernel_rfl) (by kernel_rfl) (fun _ _ _ h => h) (Or.inl ⟨by rfl, ?_⟩) hS ?_
      rotate_left
      · (intro w hSw; (try dsimp only at hSw); go_simp; try with_reducible rfl)
      simp only [Act.put, List.setIfInBounds_toArray, List.set_cons_zero, List.set_cons_succ]
      refine wpAnyH_ready (rs := [2]) (by kernel_rfl) (by simp) (st2 (fun K hK => ?_) AllReadyH.nil)
      go_simp
      refine (KH.out _).mono ?_
      rintro _ v ⟨rfl, rfl⟩
      go_wp2_with fail
      refine hK.out _ _ ?_ (fun hHeld => ?_)
      · exact HHS.out
      clear hK K
      try simp only [Act.put, List.setIfInBounds_toArray, List.set_cons_zero, List.set_cons_succ]
      refine tk6 (v := ?_) (by kernel_rfl) (by kernel_rfl) (by kernel_rfl) (fun _ _ _ h => h) (Or.inl ⟨by rfl, ?_⟩) hHeld ?_
      rotate_left
      · (intro w hSw; (try dsimp only at hSw); go_simp; try with_reducible rfl)
      simp only [Act.put, List.setIfInBounds_toArray, List.set_cons_zero, List.set_cons_succ]
      refine tk7 (v := ?_) (by kernel_rfl) (by kernel_rfl) (by kernel_rfl) (fun _ _ _ h => h) (Or.inl ⟨by rfl, ?_⟩) hHeld ?_
      rotate_left
      · (intro w hSw; (try dsimp only at hSw); go_simp; try with_reducible rfl)
      simp only [Act.put, List.setIfInBounds_toArray, List.set_cons_zero, List.set_cons_succ]
      refine tk8 (v := undef) (by kernel_rfl) (by kernel_rfl) (by kernel_rfl) (fun _ _ _ h => h) (Or.inr ⟨by rfl, rfl⟩) hHeld ?_
      simp only [Act.put, List.setIfInBounds_toArray, List.set_cons_zero, List.set_cons_succ]
      refine tk9 (v := undef) (by kernel_rfl) (by kernel_rfl) (by kernel_rfl) (fun _ _ _ h => h) (Or.inr ⟨by rfl, rfl⟩) hHeld ?_
      simp only [Act.put, List.setIfInBounds_toArray, List.set_cons_zero, List.set_cons_succ]
      refine wpAnyH_ready (rs := [10]) (by kernel_rfl) (by simp) (st10 (fun K hK => ?_) AllReadyH.nil)
      go_simp
      refine hK.out _ _ ?_ (fun hHeld => ?_)
      · exact HHS.out
      clear hK K
      try simp only [Act.put, List.setIfInBounds_toArray, List.set_cons_zero, List.set_cons_succ]
      refine tk11 (v := undef) (by kernel_rfl) (by kernel_rfl) (by kernel_rfl) (fun _ _ _ h => h) (Or.inr ⟨by rfl, rfl⟩) hHeld ?_
      simp only [Act.put, List.setIfInBounds_toArray, List.set_cons_zero, List.set_cons_succ]
      refine tk12 (v := ?_) (by kernel_rfl) (by kernel_rfl) (by kernel_rfl) (fun _ _ _ h => h) (Or.inl ⟨by rfl, ?_⟩) hHeld ?_
      rotate_left
      · (intro w hSw; (try dsimp only at hSw); go_simp; try with_reducible rfl)
      simp only [Act.put, List.setIfInBounds_toArray, List.set_cons_zero, List.set_cons_succ]
      refine tk13 (v := ?_) (by kernel_rfl) (by kernel_rfl) (by kernel_rfl) (fun _ _ _ h => h) (Or.inl ⟨by rfl, ?_⟩) hHeld ?_
      rotate_left
      · (intro w hSw; (try dsimp only at hSw); go_simp; try with_reducible rfl)
      simp only [Act.put, List.setIfInBounds_toArray, List.set_cons_zero, List.set_cons_succ]
      refine wpAnyH_done (by kernel_rfl) ?_ _
      go_wp2_with fail
      go_ret
      exact ⟨rfl, (by repeat' (first | (with_reducible exact HB.out) | (with_reducible refine Below.setCell ?_ ?_ _) | (with_reducible refine Below.alloc ?_ ?_ _) | (with_reducible refine Below.drew ?_) | (with_reducible refine below_drewN ?_ _) | (with_reducible exact Below.refl _ _) | omega | (simp; done) | (simp; omega)))⟩
end Go.Proofs.Ytjifiijgghpniaa
/-
  Contracts of units: isRule, areBylaws.
-/
namespace Go.Proofs.Ytjifiijgghpniaa
open Go.RowKit Un MapKept

def RuN (r : Ru) : Prop := nin r.whn ∧ nin r.giv
theorem kC {w : World} {b : Nat} {l : List Value} {r : Ru} {x y : Kd} (h : BoxL w b l) (hr : RuC r x y l) : BoxL w b l ∧ (∀ (j : Nat) (v : Value), (nC r.whn x)[j]? = some v → w.cell? ⟨b, 7 + j, none⟩ = some v) ∧ ∀ (j : Nat) (v : Value), (nC r.giv y)[j]? = some v → w.cell? ⟨b, 17 + j, none⟩ = some v :=
  ⟨h, fun j v hv => (h _ v (hr.wh j v hv)).1, fun j v hv => (h _ v (hr.gi j v hv)).1⟩
set_option maxRecDepth 100000 in
set_option maxHeartbeats 8000000 in
theorem uisRule_any (r : Ru) (hn : RuN r) (x y : Kd) (l : List Value) (hr : RuC r x y l) (A : Nat → Prop) (w : World) (hm : RuM w A r x y) :
    Calls Try.prog 62 #[.agg l.toArray] w fun e w' => e = .returned (.bool (formR vld r)) ∧ RowKit.Below w.heap.size w w' := by
  have A1 := (Below.refl w.heap.size w).alloc (Nat.le_refl _) (.cells l.toArray 58)
  have X1 := BoxL.new w l 58
  have hl := hr.len
  obtain ⟨-, hw, hg⟩ := kC X1 hr
  have KN := Lib.hid (fun w => uisName_any r.nm w)
  have KA := Lib.hid (fun w => uisName_any r.act w)
  have KW := Lib.hid (fun V h => uisExpr_any r.whn hn.1 A x V (hm.1.bel h))
  have KG := Lib.hid (fun V h => uisExpr_any r.giv hn.2 A y V (hm.2.bel h))
  obtain ⟨c0, -⟩ := X1 0 _ hr.f0
  obtain ⟨c2, -⟩ := X1 2 _ hr.f2
  obtain ⟨c3, -⟩ := X1 3 _ hr.f3
  have HB := Lib.hid A1
  have e1 := nm_test r.act
  obtain ⟨R, hR⟩ : ∃ R, R = formR vld r := ⟨_, rfl⟩
  rw [← hR]
  have HR : Hid (R = (decide (1 ≤ r.kind) && decide (r.kind ≤ 7) && isName r.nm && (r.act.isEmpty || isName r.act) && form vld r.whn && form vld r.giv)) := hR
  clear hR hn hm A1
  have hb1 : w.heap.size < (w.alloc (.cells l.toArray 58)).heap.size := by simp
  obtain ⟨nm, ver, kind, act, fr, un, known, wh, gi, pl⟩ := r
  simp only at hw hg KN KA KW KG c0 c2 c3 e1 HR
  generalize isName nm = N at *
  generalize isName act = C at *
  generalize act.isEmpty = E at *
  generalize form vld wh = F at *
  generalize form vld gi = G at *
  generalize bs nm = s at *
  generalize bs act = sa at *
  clear hr
  obtain ⟨op1, pl1, nm1, n1, d1, ⟨f1, m1, a1, t1⟩, k1⟩ := wh
  obtain ⟨op2, pl2, nm2, n2, d2, ⟨f2, m2, a2, t2⟩, k2⟩ := gi
  obtain ⟨q1, p1⟩ := x
  obtain ⟨q2, p2⟩ := y
  simp only [nV, nC] at KW KG
  simp only [nC] at hw hg
  have w0 := hw 0 _ rfl
  have w1 := hw 1 _ rfl
  have w2 := hw 2 _ rfl
  have w3 := hw 3 _ rfl
  have w4 := hw 4 _ rfl
  have w5 := hw 5 _ rfl
  have w6 := hw 6 _ rfl
  have w7 := hw 7 _ rfl
  have w8 := hw 8 _ rfl
  have w9 := hw 9 _ rfl
  have g0 := hg 0 _ rfl
  have g1 := hg 1 _ rfl
  have g2 := hg 2 _ rfl
  have g3 := hg 3 _ rfl
  have g4 := hg 4 _ rfl
  have g5 := hg 5 _ rfl
  have g6 := hg 6 _ rfl
  have g7 := hg 7 _ rfl
  have g8 := hg 8 _ rfl
  have g9 := hg 9 _ rfl
  simp only [Nat.add_zero, Nat.reduceAdd] at w0 w1 w2 w3 w4 w5 w6 w7 w8 w9 g0 g1 g2 g3 g4 g5 g6 g7 g8 g9
  clear hw hg
  have HC := Lib.hid X1
  generalize bs nm1 = s1 at *
  generalize bs nm2 = s2 at *
  generalize hW1 : w.alloc (.cells l.toArray 58) = W1 at *
  by_cases h1 : 1 ≤ kind
  · by_cases h2 : kind ≤ 7
    · rw [decide_eq_true h1, decide_eq_true h2] at HR
      go_enter Try.func62, Try.ntmps62
      go_wp2_with fail
      refine (KN.out _).mono ?_
      rintro _ V1 ⟨rfl, hb⟩
      subst hb
      have HB1 := HB
      cases N with
      | false =>
        go_wp2_with fail
        go_ret
        exact ⟨ret_bool (by rw [HR.out]; rfl), HB1.out⟩
      | true =>
        cases E with
        | true =>
          go_wp2_with fail
          refine (KW.out _ HB1.out).mono ?_
          rintro _ V3 ⟨rfl, hb⟩
          replace g0 := (hb.cell (World.block_lt_of_cell? _ _ g0)).trans g0
          replace g1 := (hb.cell (World.block_lt_of_cell? _ _ g1)).trans g1
          replace g2 := (hb.cell (World.block_lt_of_cell? _ _ g2)).trans g2
          replace g3 := (hb.cell (World.block_lt_of_cell? _ _ g3)).trans g3
          replace g4 := (hb.cell (World.block_lt_of_cell? _ _ g4)).trans g4
          replace g5 := (hb.cell (World.block_lt_of_cell? _ _ g5)).trans g5
          replace g6 := (hb.cell (World.block_lt_of_cell? _ _ g6)).trans g6
          replace g7 := (hb.cell (World.block_lt_of_cell? _ _ g7)).trans g7
          replace g8 := (hb.cell (World.block_lt_of_cell? _ _ g8)).trans g8
          replace g9 := (hb.cell (World.block_lt_of_cell? _ _ g9)).trans g9
          have HB3 := Lib.hid (HB1.out.trans (hb.mono HB1.out.size))
          clear hb
          cases F with
          | false =>
            go_wp2_with fail
            go_ret
            exact ⟨ret_bool (by rw [HR.out]; simp), HB3.out⟩
          | true =>
            go_wp2_with fail
            refine (KG.out _ HB3.out).mono ?_
            rintro _ V4 ⟨rfl, hb⟩
            have HB4 := Lib.hid (HB3.out.trans (hb.mono HB3.out.size))
            clear hb
            go_wp2_with fail
            go_ret
            exact ⟨ret_bool (by rw [HR.out]; simp), HB4.out⟩
        | false =>
          go_wp2_with fail
          refine (KA.out _).mono ?_
          rintro _ V2 ⟨rfl, hb⟩
          subst hb
          have HB2 := HB
          cases C with
          | false =>
            go_wp2_with fail
            go_ret
            exact ⟨ret_bool (by rw [HR.out]; simp), HB2.out⟩
          | true =>
            go_wp2_with fail
            refine (KW.out _ HB2.out).mono ?_
            rintro _ V3 ⟨rfl, hb⟩
            replace g0 := (hb.cell (World.block_lt_of_cell? _ _ g0)).trans g0
            replace g1 := (hb.cell (World.block_lt_of_cell? _ _ g1)).trans g1
            replace g2 := (hb.cell (World.block_lt_of_cell? _ _ g2)).trans g2
            replace g3 := (hb.cell (World.block_lt_of_cell? _ _ g3)).trans g3
            replace g4 := (hb.cell (World.block_lt_of_cell? _ _ g4)).trans g4
            replace g5 := (hb.cell (World.block_lt_of_cell? _ _ g5)).trans g5
            replace g6 := (hb.cell (World.block_lt_of_cell? _ _ g6)).trans g6
            replace g7 := (hb.cell (World.block_lt_of_cell? _ _ g7)).trans g7
            replace g8 := (hb.cell (World.block_lt_of_cell? _ _ g8)).trans g8
            replace g9 := (hb.cell (World.block_lt_of_cell? _ _ g9)).trans g9
            have HB3 := Lib.hid (HB2.out.trans (hb.mono HB2.out.size))
            clear hb
            cases F with
            | false =>
              go_wp2_with fail
              go_ret
              exact ⟨ret_bool (by rw [HR.out]; simp), HB3.out⟩
            | true =>
              go_wp2_with fail
              refine (KG.out _ HB3.out).mono ?_
              rintro _ V4 ⟨rfl, hb⟩
              have HB4 := Lib.hid (HB3.out.trans (hb.mono HB3.out.size))
              clear hb
              go_wp2_with fail
              go_ret
              exact ⟨ret_bool (by rw [HR.out]; simp), HB4.out⟩
    · rw [decide_eq_false h2] at HR
      go_enter Try.func62, Try.ntmps62
      go_wp2_with fail
      go_ret
      exact ⟨ret_bool (by rw [HR.out]; simp), HB.out⟩
  · rw [decide_eq_false h1] at HR
    go_enter Try.func62, Try.ntmps62
    go_wp2_with fail
    go_ret
    exact ⟨ret_bool (by rw [HR.out]; simp), HB.out⟩
end Go.Proofs.Ytjifiijgghpniaa
/-
  Contract of units: areBylaws.
-/
namespace Go.Proofs.Ytjifiijgghpniaa
open Go.RowKit Un MapKept

/-- Rules in memory. -/
structure RsM (w : World) (A : Nat → Prop) (p : Option Addr) (b off : Nat) (rs : List Ru) (rows : List (List Value)) : Prop where
  sl : SlR w p b off rs.length 28 rows
  ru : ∀ (i : Nat) (h : i < rs.length) (h' : i < rows.length), ∃ x y, RuC rs[i] x y rows[i] ∧ RuM w A rs[i] x y
  nn : ∀ r ∈ rs, RuN r
theorem RsM.bel {w w1 : World} {A : Nat → Prop} {p : Option Addr} {b off : Nat} {rs : List Ru} {rows : List (List Value)} (h : RsM w A p b off rs rows) (hB : RowKit.Below w.heap.size w w1) : RsM w1 A p b off rs rows :=
  ⟨h.sl.bel hB, fun i h1 h2 => by obtain ⟨x, y, a, b⟩ := h.ru i h1 h2; exact ⟨x, y, a, b.bel hB⟩, h.nn⟩
theorem RsM.rc {w : World} {A : Nat → Prop} {p : Option Addr} {b off : Nat} {rs : List Ru} {rows : List (List Value)} (h : RsM w A p b off rs rows) : RsC w p b off rs rows := ⟨h.sl, fun i h1 h2 => by obtain ⟨x, y, a, b⟩ := h.ru i h1 h2; exact ⟨x, y, a⟩⟩
set_option maxRecDepth 100000 in
set_option maxHeartbeats 8000000 in
theorem uareBylaws_any (L : List Dc) (rs : List Ru) (rows : List (List Value)) (pd pr : Option Addr) (bd od cd br orr cr : Nat) (A : Nat → Prop) (w : World) (hD : SlR w pd bd od L.length 8 (L.map dC)) (hR : RsM w A pr br orr rs rows) :
    Calls Try.prog 43 #[.agg #[.slice pd L.length cd, .slice pr rs.length cr]] w fun e w' => e = .returned (.bool (formC vld L rs)) ∧ RowKit.Below w.heap.size w w' := by
  have KF := Lib.hid (fun V h => uareFacts_any L pd bd od cd V (hD.bel h))
  have KR := Lib.hid (fun (i : Nat) (hi : i < rs.length) (h' : i < rows.length) V (hV : RowKit.Below w.heap.size w V) => by
    obtain ⟨x, y, h1, h2⟩ := hR.ru i hi h'
    exact uisRule_any rs[i] (hR.nn _ (List.getElem_mem hi)) x y rows[i] h1 A V (h2.bel hV))
  have KO := Lib.hid (fun (i : Nat) (hi : i < rs.length) (h' : i < rows.length) => by
    obtain ⟨x, y, h1, h2⟩ := hR.ru i hi h'
    exact (show rows[i].length = 28 ∧ ∀ u ∈ rows[i], u.oneCell' = true from ⟨h1.len, h1.one⟩))
  have HS := Lib.hid hR.sl
  have hln := hR.sl.ln
  have hmax := hR.sl.max
  have A1 := (Below.refl w.heap.size w).alloc (Nat.le_refl _) (.cells #[.slice pd L.length cd, .slice pr rs.length cr] 25)
  have X1 := Lib.hid (BoxL.new w [.slice pd L.length cd, .slice pr rs.length cr] 25)
  have HB := Lib.hid A1
  obtain ⟨R, hRR⟩ : ∃ R, R = formC vld L rs := ⟨_, rfl⟩
  rw [← hRR]
  have HR : Hid (R = (formD L && decide (rs.length ≤ 100) && rs.all (formR vld))) := hRR
  clear hRR hD hR A1
  generalize hW1 : w.alloc (.cells #[.slice pd L.length cd, .slice pr rs.length cr] 25) = W1 at *
  obtain ⟨c0, -⟩ := X1.out 0 _ rfl
  go_enter Try.func43, Try.ntmps43
  go_wp2_with fail
  refine (KF.out _ HB.out).mono ?_
  rintro _ V1 ⟨rfl, hb⟩
  have HB1 := Lib.hid (HB.out.trans (hb.mono HB.out.size))
  have X2 := Lib.hid (X1.out.bel (by simp) hb)
  clear hb KF HB X1 c0
  obtain ⟨c1, -⟩ := X2.out 1 _ rfl
  cases hf : formD L with
  | false =>
    rw [hf] at HR
    clear hf
    go_wp2_with fail
    go_ret
    exact ⟨ret_bool (by rw [HR.out]; rfl), HB1.out⟩
  | true =>
    rw [hf] at HR
    clear hf
    by_cases h100 : 100 < rs.length
    · have hz : (100 : Int) < (rs.length : Int) := by omega
      rw [decide_eq_false (by omega)] at HR
      go_wp2_with fail
      go_ret
      exact ⟨ret_bool (by rw [HR.out]; rfl), HB1.out⟩
    · have hz : ¬ (100 : Int) < (rs.length : Int) := by omega
      rw [decide_eq_true (by omega)] at HR
      go_wp2_with fail
      clear hz
      go_loopg [18] rs.length (fun g v18 wr => ∃ i : Nat, i ≤ rs.length ∧ rs.length - i ≤ g ∧ v18 = .int .i64 i ∧ Hid (R = (rs.drop i).all (formR vld)) ∧ Hid (RowKit.Below w.heap.size w wr))
      case atStart => exact ⟨0, Nat.zero_le _, by omega, by simp, by show _ = _; rw [HR.out]; simp, HB1⟩
      case round =>
        obtain ⟨i, hi, hg, rfl, HM, HW⟩ := hrel
        by_cases hlt : i < rs.length
        · have hz : (i : Int) < (rs.length : Int) := by omega
          have hq := HS.out.ptr (by omega)
          subst hq
          have hr := (HS.out.bel HW.out).at_ i rows[i] (List.getElem?_eq_getElem (by omega))
          have hld := load_rule wr br (orr + i * 28) rows[i] hr.1 hr.2
          have hlo := KO.out i hlt (by omega)
          have KQ := Lib.hid (fun V hV => KR.out i hlt (by omega) V hV)
          have E3 : Hid (R = (formR vld rs[i] && (rs.drop (i + 1)).all (formR vld))) := by
            show _ = _
            rw [HM.out, List.drop_eq_getElem_cons hlt]
            rfl
          clear hr HM
          generalize formR vld rs[i] = x at *
          generalize rows[i] = l at *
          have e2 : IntKind.i64.wrap ((i : Int) + 1) = ((i + 1 : Nat) : Int) := by rw [IntWalk.i64_in _ (by omega)]; rfl
          go_wp2_with (first | ((with_reducible show wpList _ _ _ ({ dst := some 21, op := _, type := _, pos := _, after := _, guard := _ } :: _) _ _); refine wl_loadP rfl rfl rfl hld ?_) | ((with_reducible show wpList _ _ _ ({ dst := some 4, op := _, type := _, pos := _, after := _, guard := _ } :: _) _ _); refine wl_rbox rfl rfl rfl rfl hlo.1 hlo.2 rfl rfl ?_; intro V hb hsz hx; have HB3 := Lib.hid (HW.out.trans (hb.mono HW.out.size)); have hld2 := load_rule V wr.heap.size 0 l hlo.1 (fun j v hv => by rw [Nat.zero_add]; exact (hx j v hv).1); clear hb hsz hx) | ((with_reducible show wpList _ _ _ ({ dst := some 22, op := _, type := _, pos := _, after := _, guard := _ } :: _) _ _); refine wl_loadP rfl rfl rfl hld2 ?_))
          refine (KQ.out _ HB3.out).mono ?_
          rintro _ v ⟨rfl, hb⟩
          have HW3 := Lib.hid (HB3.out.trans (hb.mono HB3.out.size))
          clear hb KQ HB3 hld hld2
          cases x with
          | false =>
            go_wp2_with fail
            go_ret
            exact ⟨ret_bool (by rw [E3.out]; rfl), HW3.out⟩
          | true =>
            go_wp2_with fail
            go_roundg (rs.length - (i + 1))
            case measure => omega
            case rel => exact ⟨i + 1, by omega, Nat.le_refl _, by simp, by show _ = _; rw [E3.out]; simp, HW3⟩
        · have hz : ¬ (i : Int) < (rs.length : Int) := by omega
          have hie : i = rs.length := by omega
          subst hie
          go_wp2_with fail
          go_ret
          exact ⟨ret_bool (by rw [HM.out, List.drop_length]; rfl), HW.out⟩
end Go.Proofs.Ytjifiijgghpniaa
