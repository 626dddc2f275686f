/- Texts on units: UUnC UOf1 -/
import Derived.Test.YtoaonficdkgfiaaY11
namespace Go.Proofs.Ytoaonficdkgfiaa
open Go.RowKit Un MapKept

/-- How things stand within unit, over operands. -/
structure UnS (w wr : World) (m1 m2 : Nat) (C R : List Value) : Prop where
 b0 : BoxL wr w.heap.size [.map (some m1), .map (some m2)]
 b1 : BoxL wr (w.heap.size + 1) C
 b2 : BoxL wr (w.heap.size + 2) [.bool false, .int .i64 0, .int .i64 0, .int .i64 0]
 bo : BoxL wr (w.heap.size + 3) R
 be : RowKit.Below w.heap.size w wr
 sz : w.heap.size + 4 ≤ wr.heap.size
theorem UnS.bel {w wr wr' : World} {m1 m2 : Nat} {C R : List Value} (h : UnS w wr m1 m2 C R) (hB : RowKit.Below wr.heap.size wr wr') : UnS w wr' m1 m2 C R := by
 have hs := h.sz
 exact ⟨h.b0.of (hB.block _ (by omega)), h.b1.of (hB.block _ (by omega)), h.b2.of (hB.block _ (by omega)), h.bo.of (hB.block _ (by omega)), h.be.trans (hB.mono h.be.size), Nat.le_trans hs hB.size⟩
theorem UnS.put {w wr : World} {m1 m2 : Nat} {C A R : List Value} {x0 x1 x2 x3 : Value} (h : UnS w wr m1 m2 C (A ++ x0 :: x1 :: x2 :: x3 :: R)) (a : Nat) (ha : A.length = a) (y0 y1 y2 y3 : Value) :
  UnS w ((((wr.setCell ⟨w.heap.size + 3, a, none⟩ y0).setCell ⟨w.heap.size + 3, a + 1, none⟩ y1).setCell ⟨w.heap.size + 3, a + 2, none⟩ y2).setCell ⟨w.heap.size + 3, a + 3, none⟩ y3) m1 m2 C (A ++ y0 :: y1 :: y2 :: y3 :: R) := by
 have hs := h.sz
 refine ⟨?_, ?_, ?_, ?_, (by repeat' (first | (with_reducible exact h.be) | (with_reducible refine Below.setCell ?_ ?_ _) | (with_reducible refine Below.alloc ?_ ?_ _) | (with_reducible refine Below.drew ?_) | (with_reducible refine below_drewN ?_ _) | (with_reducible exact Below.refl _ _) | omega | (simp; done) | (simp; omega))), by simpa [World.setCell] using hs⟩
 ·exact (((h.b0.other (r := w.heap.size + 3) (by omega) a y0).other (r := w.heap.size + 3) (by omega) (a + 1) y1).other (r := w.heap.size + 3) (by omega) (a + 2) y2).other (r := w.heap.size + 3) (by omega) (a + 3) y3
 ·exact (((h.b1.other (r := w.heap.size + 3) (by omega) a y0).other (r := w.heap.size + 3) (by omega) (a + 1) y1).other (r := w.heap.size + 3) (by omega) (a + 2) y2).other (r := w.heap.size + 3) (by omega) (a + 3) y3
 ·exact (((h.b2.other (r := w.heap.size + 3) (by omega) a y0).other (r := w.heap.size + 3) (by omega) (a + 1) y1).other (r := w.heap.size + 3) (by omega) (a + 2) y2).other (r := w.heap.size + 3) (by omega) (a + 3) y3
 ·rw [← set4 A R x0 x1 x2 x3 y0 y1 y2 y3 a ha]
  exact (((h.bo.set a y0).set (a + 1) y1).set (a + 2) y2).set (a + 3) y3
theorem UnS.get {w wr : World} {m1 m2 : Nat} {C A R : List Value} {x0 x1 x2 x3 : Value} (h : UnS w wr m1 m2 C (A ++ x0 :: x1 :: x2 :: x3 :: R)) (a : Nat) (ha : A.length = a) :
  wr.cell? ⟨w.heap.size + 3, a, none⟩ = some x0 ∧ wr.cell? ⟨w.heap.size + 3, a + 1, none⟩ = some x1 ∧ wr.cell? ⟨w.heap.size + 3, a + 2, none⟩ = some x2 ∧ wr.cell? ⟨w.heap.size + 3, a + 3, none⟩ = some x3 ∧ wr.frozen? ⟨w.heap.size + 3, a, none⟩ = false ∧ wr.frozen? ⟨w.heap.size + 3, a + 1, none⟩ = false ∧ wr.frozen? ⟨w.heap.size + 3, a + 2, none⟩ = false ∧ wr.frozen? ⟨w.heap.size + 3, a + 3, none⟩ = false := by
 subst ha
 have g : ∀ j v, (x0 :: x1 :: x2 :: x3 :: R)[j]? = some v → wr.cell? ⟨w.heap.size + 3, A.length + j, none⟩ = some v ∧ wr.frozen? ⟨w.heap.size + 3, A.length + j, none⟩ = false := fun j v hv => h.bo _ v (by rw [List.getElem?_append_right (by omega)]; simpa using hv)
 exact ⟨(g 0 _ rfl).1, (g 1 _ rfl).1, (g 2 _ rfl).1, (g 3 _ rfl).1, (g 0 _ rfl).2, (g 1 _ rfl).2, (g 2 _ rfl).2, (g 3 _ rfl).2⟩
theorem fnds_drop (fs : List (List UInt8 × U)) (ks : List Nd) (i : Nat) (h : i < ks.length) : fnds fs (ks.drop i) = match fnd fs ks[i] with | .er e p => .inl (e, p) | .ok u => match fnds fs (ks.drop (i + 1)) with | .inl x => .inl x | .inr us => .inr (u :: us) := by
 rw [List.drop_eq_getElem_cons h]
 rfl
theorem good_sU {u : U} (h : good u = true) : sU u := good_expo h
theorem ar3 {op : Int} {n : Nat} (h : (n : Int) = arity op) : n ≤ 3 := by
 unfold arity at h
 split at h
 ·omega
 ·split at h
  ·omega
  ·split at h
   ·omega
   ·split at h <;> omega
set_option maxRecDepth 100000 in
set_option maxHeartbeats 16000000 in
theorem uunit_any (L : List Dc) (hfs : ∀ e ∈ Un.facts L, good e.2 = true) (N : Nat) : ∀ (t : Nd), size t ≤ N → ∀ (g : Nat), wf vld g t = true → ∀ (A : Nat → Prop) (x : Kd) (m1 m2 fb p1 p2 : Nat) (w : World), NdM w A t x → ScR w L m1 m2 fb p1 p2 →
  Calls Try.prog 38 #[.agg #[.map (some m1), .map (some m2)], nV t x] w fun e w' => GotE (fnd (Un.facts L) t) e ∧ RowKit.Below w.heap.size w w' := by
 induction N with
 | zero => intro t h; cases t; simp [size] at h
 | succ N ih =>
  intro t hN g hwf A x m1 m2 fb p1 p2 w hx hsc
  obtain ⟨op, pl, nm, n0, d0, u, ks⟩ := t
  obtain ⟨xq, xc⟩ := x
  by_cases h1 : op = 1
  ·subst h1
   exact uunit_num pl (bs nm) n0 d0 u xq ks.length xc m1 m2 w
  by_cases h2 : op = 2
  ·subst h2
   exact uunit_fact L pl nm n0 d0 u xq ks.length xc m1 m2 w hsc.mp
  obtain ⟨-, hok, hwk⟩ := wf_ks hwf
  simp only [size] at hN
  simp only [Nd.ks] at hwk
  simp only [NdM] at hx
  obtain ⟨bq, off, hp, hkl, hK⟩ := hx
  have har : (ks.length : Int) = arity op := by simp only [okNode, Bool.and_eq_true, decide_eq_true_eq] at hok; exact hok.1
  have hk3 := ar3 har
  have KM := Lib.hid (fun (i : Nat) (hi : i < ks.length) (V : World) (x : Kd) (hn : NdM V A ks[i] x) (hs : ScR V L m1 m2 fb p1 p2) => ih ks[i] (by have := size_get ks i hi; omega) (g - 1) (wfs_get hwk _ (List.getElem_mem hi)) A x m1 m2 fb p1 p2 V hn hs)
  have KG := Lib.hid (fun (i : Nat) (hi : i < ks.length) (u : U) (h : fnd (Un.facts L) ks[i] = .ok u) => fnd_good hfs ks[i] (g - 1) u (wfs_get hwk _ (List.getElem_mem hi)) h)
  have KO := Lib.hid (fun (V : World) (us : List U) (hs : ScR V L m1 m2 fb p1 p2) (hS : SlR V (some ⟨w.heap.size + 3, 0, none⟩) (w.heap.size + 3) 0 us.length 4 (us.map uC)) (hl : us.length = ks.length) (hg : ∀ u ∈ us, sU u) => op_any hs.op op us _ _ 0 ks.length hS (by rw [hl]; exact har) h1 h2 hg)
  clear ih hwf hok hwk hfs har
  obtain ⟨R, hR⟩ : ∃ R, R = fnd (Un.facts L) (.mk op pl nm n0 d0 u ks) := ⟨_, rfl⟩
  rw [← hR]
  have HR : Hid (R = match fnds (Un.facts L) ks with | .inl (e, p) => .er e p | .inr us => match opU op us with | some u => .ok u | none => .er 12 pl) := by
   show _ = _
   rw [hR]
   simp only [fnd, if_neg h1, if_neg h2]
   cases fnds (Un.facts L) ks <;> rfl
  clear hR
  obtain ⟨uf, um, ua, ud⟩ := u
  simp only [nV, nC]
  generalize bs nm = s at *
  obtain ⟨W1, hW1⟩ : ∃ W1, W1 = w.alloc (.cells #[.map (some m1), .map (some m2)] 72) := ⟨_, rfl⟩
  have a1 := (Below.refl w.heap.size w).alloc (Nat.le_refl _) (.cells #[.map (some m1), .map (some m2)] 72)
  rw [← hW1] at a1
  have x1 : BoxL W1 w.heap.size [.map (some m1), .map (some m2)] := by rw [hW1]; exact box_new _ _ rfl
  have s1 : W1.heap.size = w.heap.size + 1 := by rw [hW1]; simp
  obtain ⟨W2, hW2⟩ : ∃ W2, W2 = W1.alloc (.cells #[.int .i64 op, .int .i64 pl, .string s, .int .i64 n0, .int .i64 d0, .bool uf, .int .i64 um, .int .i64 ua, .int .i64 ud, .slice xq ks.length xc] 32) := ⟨_, rfl⟩
  have a2 := (Below.refl W1.heap.size W1).alloc (Nat.le_refl _) (.cells #[.int .i64 op, .int .i64 pl, .string s, .int .i64 n0, .int .i64 d0, .bool uf, .int .i64 um, .int .i64 ua, .int .i64 ud, .slice xq ks.length xc] 32)
  rw [← hW2] at a2
  have x2 : BoxL W2 (w.heap.size + 1) [.int .i64 op, .int .i64 pl, .string s, .int .i64 n0, .int .i64 d0, .bool uf, .int .i64 um, .int .i64 ua, .int .i64 ud, .slice xq ks.length xc] := by rw [hW2]; exact box_new _ _ s1
  have s2 : W2.heap.size = w.heap.size + 2 := by rw [hW2]; simp; omega
  obtain ⟨W3, hW3⟩ : ∃ W3, W3 = W2.alloc (.cells #[.bool false, .int .i64 0, .int .i64 0, .int .i64 0] 29) := ⟨_, rfl⟩
  have a3 := (Below.refl W2.heap.size W2).alloc (Nat.le_refl _) (.cells #[.bool false, .int .i64 0, .int .i64 0, .int .i64 0] 29)
  rw [← hW3] at a3
  have x3 : BoxL W3 (w.heap.size + 2) [.bool false, .int .i64 0, .int .i64 0, .int .i64 0] := by rw [hW3]; exact box_new _ _ s2
  have X1 := Lib.hid ((x1.bel (by simp) a2).bel (by simp) a3)
  have X2 := Lib.hid (x2.bel (by simp) a3)
  have s3 : W3.heap.size = w.heap.size + 3 := by rw [hW3]; simp; omega
  have X3 := Lib.hid x3
  have B3 := Lib.hid ((a1.trans (a2.mono (by omega))).trans (a3.mono (by omega)))
  clear x1 x2 x3 a1 a2 a3 s1 s2
  have A4 := (Below.refl W3.heap.size W3).alloc (Nat.le_refl _) (.cells (zs ks.length).toArray 29)
  have hmk := run_mkU ks.length hk3 W3
  have hs4 : (W3.alloc (.cells (zs ks.length).toArray 29)).heap.size = w.heap.size + 4 := by simp; omega
  have HU : Hid (UnS w (W3.alloc (.cells (zs ks.length).toArray 29)) m1 m2 [.int .i64 op, .int .i64 pl, .string s, .int .i64 n0, .int .i64 d0, .bool uf, .int .i64 um, .int .i64 ua, .int .i64 ud, .slice xq ks.length xc] (zs ks.length)) :=
   ⟨X1.out.bel (by simp) A4, X2.out.bel (by simp) A4, X3.out.bel (by simp) A4, box_new _ _ s3, B3.out.trans (A4.mono B3.out.size), by omega⟩
  clear A4 hs4
  have HK := Lib.hid hK
  have HP := Lib.hid hp
  have HSC := Lib.hid hsc
  clear hK hp hsc
  have e1 : (op == 1) = false := by simpa using h1
  have e2 : (op == 2) = false := by simpa using h2
  obtain ⟨c0, c1, c2, c3, c4, c5, c6, c7, c8, c9⟩ := box10 X2.out
  have h3s : W3.heap.size = w.heap.size + 3 := s3
  go_enter Try.func38, Try.ntmps38
  go_wp2_with ((with_reducible show wpList _ _ _ ({ dst := some 41, op := _, type := _, pos := _, after := _, guard := _ } :: _) _ _); rw [← hW1, ← hW2, ← hW3]; clear hW1 hW2 hW3; refine wl_mk _ _ rfl rfl rfl rfl hmk ?_; generalize W3.alloc (.cells (zs ks.length).toArray 29) = W4 at *; clear hmk c0 c1 c2 c3 c4 c5 c6 c7 c8 c9; obtain ⟨c0, c1, c2, c3, c4, c5, c6, c7, c8, c9⟩ := box10 HU.out.b1)
  go_loopg [45] ks.length (fun g v45 wr => ∃ (i : Nat) (us : List U), i ≤ ks.length ∧ ks.length - i ≤ g ∧ v45 = .int .i64 i ∧ us.length = i ∧ Hid (fnds (Un.facts L) ks = match fnds (Un.facts L) (ks.drop i) with | .inl x => .inl x | .inr vs => .inr (us ++ vs)) ∧ Hid (∀ u ∈ us, good u = true) ∧ Hid (UnS w wr m1 m2 [.int .i64 op, .int .i64 pl, .string s, .int .i64 n0, .int .i64 d0, .bool uf, .int .i64 um, .int .i64 ua, .int .i64 ud, .slice xq ks.length xc] (flat4 us ++ zs (ks.length - i))))
  case atStart => exact ⟨0, [], Nat.zero_le _, by omega, by simp, rfl, by show _ = _; simp only [List.drop_zero]; cases fnds (Un.facts L) ks <;> rfl, (fun u hu => absurd hu List.not_mem_nil : ∀ u ∈ ([] : List U), good u = true), HU⟩
  case round =>
   obtain ⟨i, us, hi, hg, rfl, hul, HM, HG, HS⟩ := hrel
   clear HU c0 c1 c2 c3 c4 c5 c6 c7 c8 c9
   obtain ⟨c0, c1, c2, c3, c4, c5, c6, c7, c8, c9⟩ := box10 HS.out.b1
   by_cases hlt : i < ks.length
   ·have hz : (i : Int) < (ks.length : Int) := by omega
    have hq := (HP.out (by omega)).1
    have hbq := (HP.out (by omega)).2.2
    have hAb := (HP.out (by omega)).2.1
    subst hq
    have HW := Lib.hid HS.out.be
    obtain ⟨⟨yq, yc⟩, hc, hn⟩ := KdM.get (KdM.keep HW.out.size (fun j _ hj => HW.out.block j hj) (fun _ h _ => h) bq hAb hbq off ks HK.out) i hlt
    have KQ : Hid (∀ V, RowKit.Below wr.heap.size wr V → Calls Try.prog 38 #[.agg #[.map (some m1), .map (some m2)], nV ks[i] ⟨yq, yc⟩] V fun e w' => GotE (fnd (Un.facts L) ks[i]) e ∧ RowKit.Below V.heap.size V w') := fun V hV => KM.out i hlt V _ (NdM.bel hV hn) ((HSC.out.bel HW.out).bel hV)
    have E3 := Lib.hid (HM.out.trans (by rw [fnds_drop _ ks i hlt]))
    have E4 := Lib.hid (fun u h => KG.out i hlt u h)
    obtain ⟨o0, o1, o2, o3, q0, q1, q2, q3⟩ : wr.cell? ⟨w.heap.size + 3, i * 4, none⟩ = some (.bool false) ∧ wr.cell? ⟨w.heap.size + 3, i * 4 + 1, none⟩ = some (.int .i64 0) ∧ wr.cell? ⟨w.heap.size + 3, i * 4 + 2, none⟩ = some (.int .i64 0) ∧ wr.cell? ⟨w.heap.size + 3, i * 4 + 3, none⟩ = some (.int .i64 0) ∧ wr.frozen? ⟨w.heap.size + 3, i * 4, none⟩ = false ∧ wr.frozen? ⟨w.heap.size + 3, i * 4 + 1, none⟩ = false ∧ wr.frozen? ⟨w.heap.size + 3, i * 4 + 2, none⟩ = false ∧ wr.frozen? ⟨w.heap.size + 3, i * 4 + 3, none⟩ = false := by
     have h := HS.out
     rw [show ks.length - i = (ks.length - (i + 1)) + 1 by omega, zs_succ] at h
     exact h.get (i * 4) (by rw [flat4_len, hul])
    clear o0 o1 o2 o3 q0 q1 q2 q3 hn HM
    generalize ks[i] = k at *
    generalize fnd (Un.facts L) k = G at *
    obtain ⟨op', pl', nm', n', d', ⟨uf', um', ua', ud'⟩, ks'⟩ := k
    simp only [nC] at hc
    simp only [nV, nC] at KQ
    have z0 := hc 0 _ rfl
    have z1 := hc 1 _ rfl
    have z2 := hc 2 _ rfl
    have z3 := hc 3 _ rfl
    have z4 := hc 4 _ rfl
    have z5 := hc 5 _ rfl
    have z6 := hc 6 _ rfl
    have z7 := hc 7 _ rfl
    have z8 := hc 8 _ rfl
    have z9 := hc 9 _ rfl
    rw [Nat.add_zero] at z0
    have e3 : IntKind.i64.wrap ((i : Int) + 1) = ((i + 1 : Nat) : Int) := by rw [IntWalk.i64_in _ (by omega)]; rfl
    clear hc
    have A5 := (Below.refl wr.heap.size wr).alloc (Nat.le_refl _) (.cells #[.int .i64 op', .int .i64 pl', .string (bs nm'), .int .i64 n', .int .i64 d', .bool uf', .int .i64 um', .int .i64 ua', .int .i64 ud', .slice yq ks'.length yc] 32)
    have HS5 := Lib.hid (HS.out.bel A5)
    have H5 := Lib.hid A5
    have X5 := Lib.hid (BoxL.new wr [.int .i64 op', .int .i64 pl', .string (bs nm'), .int .i64 n', .int .i64 d', .bool uf', .int .i64 um', .int .i64 ua', .int .i64 ud', .slice yq ks'.length yc] 32)
    have nw : wr.heap.size ≠ w.heap.size := by have := HS.out.sz; omega
    obtain ⟨y0, -⟩ := HS5.out.b0 0 _ rfl
    obtain ⟨y1, -⟩ := HS5.out.b0 1 _ rfl
    clear A5 c0 c1 c2 c3 c4 c5 c6 c7 c8 c9
    go_wp2_with fail
    refine (KQ.out _ H5.out).mono ?_
    rintro e v ⟨hG, hb⟩
    have HS6 := Lib.hid (HS5.out.bel hb)
    clear hb KQ y0 y1 HS5 H5 X5
    cases G with
    | er E p =>
     have he : e = .panicked (failU E p) := hG
     subst he
     have HR2 : Hid (R = .er E p) := by show _ = _; rw [HR.out, E3.out]
     go_wp2_with fail
     exact bodyPost_panic rfl ⟨by rw [HR2.out]; rfl, HS6.out.be⟩
    | ok v0 =>
     have hgd := E4.out v0 rfl
     obtain ⟨vf, vm, va, vd⟩ := v0
     have he : e = .returned (uV ⟨vf, vm, va, vd⟩) := hG
     simp only [uV, uC] at he
     subst he
     have h6 := HS6.out
     rw [show ks.length - i = (ks.length - (i + 1)) + 1 by omega, zs_succ] at h6
     obtain ⟨o0, o1, o2, o3, q0, q1, q2, q3⟩ := h6.get (i * 4) (by rw [flat4_len, hul])
     have HU7 := Lib.hid (h6.put (i * 4) (by rw [flat4_len, hul]) (.bool vf) (.int .i64 vm) (.int .i64 va) (.int .i64 vd))
     have HG7 : Hid (∀ u ∈ us ++ [(⟨vf, vm, va, vd⟩ : U)], good u = true) := fun u hu => by
      rcases List.mem_append.1 hu with h | h
      ·exact HG.out u h
      ·rw [List.mem_singleton.1 h]; exact hgd
     clear h6 HS6 hgd
     go_wp2_with fail
     go_roundg (ks.length - (i + 1))
     case measure => omega
     case rel => exact ⟨i + 1, us ++ [⟨vf, vm, va, vd⟩], by omega, Nat.le_refl _, by simp, by rw [List.length_append, hul]; rfl, by show _ = _; rw [E3.out]; cases fnds (Un.facts L) (ks.drop (i + 1)) <;> simp, HG7, by rw [flat4_snoc, List.append_assoc]; exact HU7⟩
   ·have hz : ¬ (i : Int) < (ks.length : Int) := by omega
    have hie : i = ks.length := by omega
    subst hie
    have hf : fnds (Un.facts L) ks = .inr us := by
     have := HM.out
     rw [List.drop_length] at this
     simpa [fnds] using this
    have hbo := HS.out.bo
    rw [Nat.sub_self] at hbo
    have hbo : BoxL wr (w.heap.size + 3) (flat4 us) := by have e : zs 0 = [] := rfl; rw [e, List.append_nil] at hbo; exact hbo
    have hsc := HSC.out.bel HS.out.be
    obtain ⟨F, caps, hF, hE, hC⟩ := KO.out wr us hsc (flat_slr hbo hul hk3 (by have := HS.out.sz; omega)) hul (fun u hu => good_sU (HG.out u hu))
    have hlk : (Instr.lookup 70 (.map (some m2)) (.int .i64 op) false).run Try.prog wr = .ok (.func (.func F) #[] caps) wr := by
     have := hsc.op.mp.ask und_ops und_int op (by rfl) false .nilFunc (zero_fn wr)
     rw [hF] at this
     exact this
    have HR2 : Hid (R = match opU op us with | some u => .ok u | none => .er 12 pl) := by show _ = _; rw [HR.out, hf]
    have KC := Lib.hid hC
    rw [hul] at KC
    clear hf hbo hsc hF hC HM
    obtain ⟨y0, -⟩ := HS.out.b0 0 _ rfl
    obtain ⟨y1, -⟩ := HS.out.b0 1 _ rfl
    go_wp2_with ((with_reducible show wpList _ _ _ ({ dst := some 62, op := _, type := _, pos := _, after := _, guard := _ } :: _) _ _); refine wl_lookup _ _ _ rfl rfl rfl rfl hlk ?_)
    clear c0 c1 c2 c3 c4 c5 c6 c7 c8 c9 y0 y1
    refine KC.out.mono ?_
    rintro e v ⟨⟨val, ok, rfl, hv⟩, hb⟩
    have HS8 := Lib.hid (HS.out.bel hb)
    clear hb KC HS KO KM KG
    cases ho : opU op us with
    | none =>
     rw [ho] at hv HR2
     obtain ⟨rfl, ⟨xf, xm, xa, xd⟩, rfl⟩ := hv
     clear ho
     simp only [uV, uC]
     have A9 := (Below.refl v.heap.size v).alloc (Nat.le_refl _) (.cells #[.bool xf, .int .i64 xm, .int .i64 xa, .int .i64 xd] 29)
     have HS9 := Lib.hid (HS8.out.bel A9)
     have X9 := Lib.hid (BoxL.new v [.bool xf, .int .i64 xm, .int .i64 xa, .int .i64 xd] 29)
     have nx : w.heap.size + 2 ≠ v.heap.size := by have := HS8.out.sz; omega
     obtain ⟨y1, -⟩ := HS9.out.b1 1 _ rfl
     clear A9 HS8
     go_wp2_with fail
     refine (uneed_er 12 pl _).mono ?_
     rintro _ v2 ⟨rfl, rfl⟩
     go_wp2_with fail
     exact bodyPost_panic rfl ⟨by rw [HR2.out]; rfl, HS9.out.be⟩
    | some x =>
     rw [ho] at hv HR2
     obtain ⟨rfl, rfl⟩ := hv
     obtain ⟨xf, xm, xa, xd⟩ := x
     clear ho
     simp only [uV, uC]
     have A9 := (Below.refl v.heap.size v).alloc (Nat.le_refl _) (.cells #[.bool xf, .int .i64 xm, .int .i64 xa, .int .i64 xd] 29)
     have HS9 := Lib.hid (HS8.out.bel A9)
     have X9 := Lib.hid (BoxL.new v [.bool xf, .int .i64 xm, .int .i64 xa, .int .i64 xd] 29)
     have nx : w.heap.size + 2 ≠ v.heap.size := by have := HS8.out.sz; omega
     obtain ⟨y1, -⟩ := HS9.out.b1 1 _ rfl
     clear A9 HS8
     go_wp2_with fail
     refine (uneed_ok 12 pl _).mono ?_
     rintro _ v2 ⟨rfl, rfl⟩
     obtain ⟨r0, r1, r2, r3, g0, g1, g2, g3⟩ := box4 HS9.out.b2
     obtain ⟨z0, z1, z2, z3, -⟩ := box4 X9.out
     generalize v.alloc (.cells #[.bool xf, .int .i64 xm, .int .i64 xa, .int .i64 xd] 29) = V9 at *
     go_wp2_with fail
     exact bodyPost_ret (v := .agg #[.bool xf, .int .i64 xm, .int .i64 xa, .int .i64 xd]) (by simp [results, Try.results38, go_sem, r0, r1, r2, r3]) rfl ⟨by rw [HR2.out]; rfl, (by repeat' (first | (with_reducible exact HS9.out.be) | (with_reducible refine Below.setCell ?_ ?_ _) | (with_reducible refine Below.alloc ?_ ?_ _) | (with_reducible refine Below.drew ?_) | (with_reducible refine below_drewN ?_ _) | (with_reducible exact Below.refl _ _) | omega | (simp; done) | (simp; omega)))⟩
end Go.Proofs.Ytoaonficdkgfiaa
namespace Go.Proofs.Ytoaonficdkgfiaa
open Go.RowKit Un MapKept

theorem facts_good {L : List Dc} (h : formD L = true) : ∀ e ∈ Un.facts L, good e.2 = true := fun e he => by
 simp only [formD, Bool.and_eq_true, List.all_eq_true] at h
 obtain ⟨d, hd, rfl⟩ := List.mem_map.1 he
 exact basic_good (h.2 d hd).2
set_option maxRecDepth 100000 in
set_option maxHeartbeats 8000000 in
theorem uValid_any (L : List Dc) (t : Nd) (hn : nin t) (p : Option Addr) (b off c : Nat) (A : Nat → Prop) (x : Kd) (w : World) (hS : SlR w p b off L.length 8 (L.map dC)) (hx : NdM w A t x) :
  Calls Try.prog 15 #[.slice p L.length c, nV t x] w fun e w' => e = .returned (.bool (rightD L && form vld t)) ∧ RowKit.Below w.heap.size w w' := by
 have KA := Lib.hid (fun V h => uareFacts_any L p b off c V h)
 have KF := Lib.hid (fun (hl : L.length ≤ 1000000) V h => ufactErrors_any L hl p b off c V h)
 have KX := Lib.hid (fun V h => uisExpr_any t hn A x V h)
 have HS := Lib.hid hS
 have HX := Lib.hid hx
 have HR : Hid (rightD L = (formD L && (errsD [] L).isEmpty)) := rfl
 have HL : Hid (formD L = true → L.length ≤ 12) := fun h => by simp only [formD, Bool.and_eq_true, decide_eq_true_eq] at h; exact h.1
 have HRD : Hid ((rightD L && form vld t) = ((formD L && (errsD [] L).isEmpty) && form vld t)) := rfl
 clear hS hx hn
 rw [HRD.out]
 generalize form vld t = ex at *
 obtain ⟨op, pl, nm, n0, d0, ⟨uf, um, ua, ud⟩, ks⟩ := t
 obtain ⟨xq, xc⟩ := x
 simp only [nV, nC] at KX ⊢
 have A1 := (Below.refl w.heap.size w).alloc (Nat.le_refl _) (.cells #[.int .i64 op, .int .i64 pl, .string (bs nm), .int .i64 n0, .int .i64 d0, .bool uf, .int .i64 um, .int .i64 ua, .int .i64 ud, .slice xq ks.length xc] 32)
 have X1 := Lib.hid (BoxL.new w [.int .i64 op, .int .i64 pl, .string (bs nm), .int .i64 n0, .int .i64 d0, .bool uf, .int .i64 um, .int .i64 ua, .int .i64 ud, .slice xq ks.length xc] 32)
 have B1 := Lib.hid A1
 have S1 := Lib.hid (HS.out.bel A1)
 have N1 := Lib.hid (HX.out.bel A1)
 clear A1 HS HX HR HRD
 generalize bs nm = s at *
 go_enter Try.func15, Try.ntmps15
 go_wp2_with fail
 generalize w.alloc (.cells #[.int .i64 op, .int .i64 pl, .string s, .int .i64 n0, .int .i64 d0, .bool uf, .int .i64 um, .int .i64 ua, .int .i64 ud, .slice xq ks.length xc] 32) = W1 at *
 refine (KA.out _ S1.out).mono ?_
 rintro _ V1 ⟨rfl, hb⟩
 have B2 := Lib.hid (B1.out.trans (hb.mono B1.out.size))
 have S2 := Lib.hid (S1.out.bel hb)
 have N2 := Lib.hid (N1.out.bel hb)
 have X2 := Lib.hid (X1.out.bel (by simp) hb)
 clear hb B1 S1 N1 X1 KA
 cases hf : formD L with
 | false =>
  have HF0 := Lib.hid hf
  clear hf HL
  go_wp2_with fail
  go_ret
  exact ⟨ret_bool (by rw [HF0.out]; rfl), B2.out⟩
 | true =>
  have KF2 := Lib.hid (KF.out (by have := HL.out hf; omega) V1 S2.out)
  have HF0 := Lib.hid hf
  clear KF HL hf
  go_wp2_with fail
  refine KF2.out.mono ?_
  rintro _ V2 ⟨v, rfl, hd, hb⟩
  obtain ⟨q, cap, rfl⟩ := hd.slice
  have B3 := Lib.hid (B2.out.trans (hb.mono B2.out.size))
  have N3 := Lib.hid (N2.out.bel hb)
  obtain ⟨c0, c1, c2, c3, c4, c5, c6, c7, c8, c9⟩ := box10 (X2.out.bel (by simp) hb)
  clear hb B2 S2 N2 X2 KF2 hd
  cases he : errsD [] L with
  | cons a l =>
   have hz : (((a :: l).length : Nat) : Int) ≠ 0 := by simp; omega
   have hzb : ((((a :: l).length : Nat) : Int) == 0) = false := by simpa using hz
   have HE0 := Lib.hid he
   clear he
   generalize (a :: l).length = n at *
   go_wp2_with fail
   go_ret
   exact ⟨ret_bool (by rw [HF0.out, HE0.out]; rfl), B3.out⟩
  | nil =>
   have HE0 := Lib.hid he
   clear he
   go_wp2_with fail
   refine (KX.out _ N3.out).mono ?_
   rintro _ V3 ⟨rfl, hb⟩
   have B4 := Lib.hid (B3.out.trans (hb.mono B3.out.size))
   clear hb
   go_wp2_with fail
   go_ret
   exact ⟨ret_bool (by rw [HF0.out, HE0.out]; simp), B4.out⟩
/-- What the check of an expression leaves. -/
def Of1 (w : World) (ub : Nat) (g : Got) (e : Ending) (w' : World) : Prop := match g with
 | .ok u => e = .returned (.tuple #[]) ∧ BoxL w' ub (uC u) ∧ Kept ub w w'
 | .er E p => e = .panicked (failU E p) ∧ RowKit.Below w.heap.size w w'
set_option maxRecDepth 100000 in
set_option maxHeartbeats 8000000 in
theorem uOf1_any (L : List Dc) (t : Nd) (hf : formD L = true) (he : errsD [] L = []) (g : Nat) (hw : wf vld g t = true) (p : Option Addr) (b off c : Nat) (A : Nat → Prop) (x : Kd) (sb nb ub : Nat) (w : World) (hS : SlR w p b off L.length 8 (L.map dC)) (hx : NdM w A t x)
  (h1 : w.cell? ⟨sb, 0, none⟩ = some (.slice p L.length c)) (h2 : BoxL w nb (nC t x)) (h3 : BoxL w ub [.bool false, .int .i64 0, .int .i64 0, .int .i64 0]) :
  Calls Try.prog 36 #[.pointer (some ⟨sb, 0, none⟩), .pointer (some ⟨nb, 0, none⟩), .pointer (some ⟨ub, 0, none⟩)] w fun e w' => Of1 w ub (fnd (Un.facts L) t) e w' := by
 have KN := Lib.hid (fun V h => unewScope_any L he p b off c V h)
 have KU := Lib.hid (fun V m1 m2 fb p1 p2 h hs => uunit_any L (facts_good hf) (size t) t (Nat.le_refl _) g hw A x m1 m2 fb p1 p2 V h hs)
 have HS := Lib.hid hS
 have HX := Lib.hid hx
 have HC := Lib.hid h1
 have HN := Lib.hid h2
 have HUB := Lib.hid h3
 have hub := h3.lt (by simp)
 have hnb := h2.lt (by rw [nC_len]; omega)
 have hsb := World.block_lt_of_cell? _ _ h1
 simp only at hsb
 clear hS hx h1 h2 h3 hf he hw
 generalize fnd (Un.facts L) t = G at *
 obtain ⟨op, pl, nm, n0, d0, ⟨uf, um, ua, ud⟩, ks⟩ := t
 obtain ⟨xq, xc⟩ := x
 simp only [nV, nC] at KU HN
 generalize bs nm = s at *
 have NS : sb ≠ ub := fun e => by
  have h1 := HC.out
  have h2 := (HUB.out 0 _ rfl).1
  rw [e, h2] at h1
  cases h1
 have NN : nb ≠ ub := fun e => by
  have h1 := (HN.out 0 _ rfl).1
  have h2 := (HUB.out 0 _ rfl).1
  rw [e, h2] at h1
  cases h1
 obtain ⟨c0, c1, c2, c3, c4, c5, c6, c7, c8, c9⟩ := box10 HN.out
 have cs := HC.out
 go_enter Try.func36, Try.ntmps36
 go_wp2_with fail
 have hS : w.drew.cell? ⟨sb, 0, none⟩ = some (.slice p L.length c) ∧ w.drew.cell? ⟨nb, 0, none⟩ = some (.int .i64 op) ∧ w.drew.cell? ⟨nb, 1, none⟩ = some (.int .i64 pl) ∧ w.drew.cell? ⟨nb, 2, none⟩ = some (.string s) ∧ w.drew.cell? ⟨nb, 3, none⟩ = some (.int .i64 n0) ∧ w.drew.cell? ⟨nb, 4, none⟩ = some (.int .i64 d0) ∧ w.drew.cell? ⟨nb, 5, none⟩ = some (.bool uf) ∧ w.drew.cell? ⟨nb, 6, none⟩ = some (.int .i64 um) ∧ w.drew.cell? ⟨nb, 7, none⟩ = some (.int .i64 ua) ∧ w.drew.cell? ⟨nb, 8, none⟩ = some (.int .i64 ud) ∧ w.drew.cell? ⟨nb, 9, none⟩ = some (.slice xq ks.length xc) := ⟨cs, c0, c1, c2, c3, c4, c5, c6, c7, c8, c9⟩
 refine wp_region_held (S := fun w' : World => w'.cell? ⟨sb, 0, none⟩ = some (.slice p L.length c) ∧ w'.cell? ⟨nb, 0, none⟩ = some (.int .i64 op) ∧ w'.cell? ⟨nb, 1, none⟩ = some (.int .i64 pl) ∧ w'.cell? ⟨nb, 2, none⟩ = some (.string s) ∧ w'.cell? ⟨nb, 3, none⟩ = some (.int .i64 n0) ∧ w'.cell? ⟨nb, 4, none⟩ = some (.int .i64 d0) ∧ w'.cell? ⟨nb, 5, none⟩ = some (.bool uf) ∧ w'.cell? ⟨nb, 6, none⟩ = some (.int .i64 um) ∧ w'.cell? ⟨nb, 7, none⟩ = some (.int .i64 ua) ∧ w'.cell? ⟨nb, 8, none⟩ = some (.int .i64 ud) ∧ w'.cell? ⟨nb, 9, none⟩ = some (.slice xq ks.length xc)) mixed ?_
 change wpAnyH _ _ _ _ _ _ _ _ w.drew
 refine tk0 (v := ?_) (by kernel_rfl) (by kernel_rfl) (by kernel_rfl) (fun _ _ _ h => h) (Or.inl ⟨by rfl, ?_⟩) hS ?_
 rotate_left
 ·(intro w hSw; (try dsimp only at hSw); go_simp; try with_reducible rfl)
 simp only [Act.put, zA, zB, zC]
 refine tk2 (v := ?_) (by kernel_rfl) (by kernel_rfl) (by kernel_rfl) (fun _ _ _ h => h) (Or.inl ⟨by rfl, ?_⟩) hS ?_
 rotate_left
 ·(intro w hSw; (try dsimp only at hSw); go_simp; try with_reducible rfl)
 simp only [Act.put, zA, zB, zC]
 refine wpAnyH_ready (rs := [1]) (by kernel_rfl) (by simp) (st1 (fun K hK => ?_) AllReadyH.nil)
 go_simp
 have D1 := (Below.refl w.heap.size w).drew
 refine (KN.out _ (HS.out.bel D1)).mono ?_
 rintro _ V1 ⟨m1, m2, fb, p1, p2, rfl, hsc, hb⟩
 have B1 := Lib.hid (D1.trans hb)
 have SC := Lib.hid hsc
 have X1 := Lib.hid (HX.out.bel B1.out)
 have C1 : Hid (V1.cell? ⟨sb, 0, none⟩ = some (.slice p L.length c)) := (B1.out.cell (p := ⟨sb, 0, none⟩) hsb).trans HC.out
 have N1 := Lib.hid (HN.out.bel (by simp) B1.out)
 have U1 := Lib.hid (HUB.out.bel (by simp) B1.out)
 clear D1 hb hsc HX HC HN HUB HS hS KN c0 c1 c2 c3 c4 c5 c6 c7 c8 c9 cs
 obtain ⟨c0, c1, c2, c3, c4, c5, c6, c7, c8, c9⟩ := box10 N1.out
 go_wp2_with fail
 refine hK.out _ _ ?_ (fun hHeld => ?_)
 ·exact ⟨C1.out, c0, c1, c2, c3, c4, c5, c6, c7, c8, c9⟩
 clear hK K
 try simp only [Act.put, zA, zB, zC]
 refine wpAnyH_ready (rs := [3]) (by kernel_rfl) (by simp) (st3 (fun K hK => ?_) AllReadyH.nil)
 go_simp
 refine (KU.out V1 m1 m2 fb p1 p2 X1.out SC.out).mono ?_
 rintro e V2 ⟨hG, hb⟩
 have B2 := Lib.hid (B1.out.trans (hb.mono B1.out.size))
 have C2 : Hid (V2.cell? ⟨sb, 0, none⟩ = some (.slice p L.length c)) := (hb.cell (p := ⟨sb, 0, none⟩) (Nat.lt_of_lt_of_le hsb B1.out.size)).trans C1.out
 have N2 := Lib.hid (N1.out.bel (by simp) hb)
 have U2' := Lib.hid (U1.out.bel (by simp) hb)
 clear hb B1 X1 C1 N1 U1 SC KU c0 c1 c2 c3 c4 c5 c6 c7 c8 c9
 cases G with
 | er E q =>
  have he : e = .panicked (failU E q) := hG
  subst he
  go_wp2_with fail
  exact bodyPost_panic rfl ⟨rfl, B2.out⟩
 | ok u =>
  obtain ⟨vf, vm, va, vd⟩ := u
  have he : e = .returned (uV ⟨vf, vm, va, vd⟩) := hG
  simp only [uV, uC] at he
  subst he
  obtain ⟨c0, c1, c2, c3, c4, c5, c6, c7, c8, c9⟩ := box10 N2.out
  go_wp2_with fail
  refine hK.out _ _ ?_ (fun hHeld => ?_)
  ·exact ⟨C2.out, c0, c1, c2, c3, c4, c5, c6, c7, c8, c9⟩
  clear hK K
  try simp only [Act.put, zA, zB, zC]
  refine wpAnyH_ready (rs := [4]) (by kernel_rfl) (by simp) (st4 (fun K hK => ?_) AllReadyH.nil)
  obtain ⟨x0, x1, x2, x3, g0, g1, g2, g3⟩ := box4 U2'.out
  have o4 : ∀ {j : Nat} {bb : Nat} {v : Value}, V2.cell? ⟨bb, j, none⟩ = some v → bb ≠ ub → ((((V2.setCell ⟨ub, 0, none⟩ (.bool vf)).setCell ⟨ub, 1, none⟩ (.int .i64 vm)).setCell ⟨ub, 2, none⟩ (.int .i64 va)).setCell ⟨ub, 3, none⟩ (.int .i64 vd)).cell? ⟨bb, j, none⟩ = some v := fun h hn => cell_otn (cell_otn (cell_otn (cell_otn h hn 0 _) hn 1 _) hn 2 _) hn 3 _
  have U3 := Lib.hid ((((U2'.out.set 0 (.bool vf)).set 1 (.int .i64 vm)).set 2 (.int .i64 va)).set 3 (.int .i64 vd))
  have K3 : Hid (Kept ub w ((((V2.setCell ⟨ub, 0, none⟩ (.bool vf)).setCell ⟨ub, 1, none⟩ (.int .i64 vm)).setCell ⟨ub, 2, none⟩ (.int .i64 va)).setCell ⟨ub, 3, none⟩ (.int .i64 vd))) := (((((Kept.of B2.out).setCell 0 none _).setCell 1 none _).setCell 2 none _).setCell 3 none _)
  have HH := Lib.hid (show ((((V2.setCell ⟨ub, 0, none⟩ (.bool vf)).setCell ⟨ub, 1, none⟩ (.int .i64 vm)).setCell ⟨ub, 2, none⟩ (.int .i64 va)).setCell ⟨ub, 3, none⟩ (.int .i64 vd)).cell? ⟨sb, 0, none⟩ = some (.slice p L.length c) ∧ ((((V2.setCell ⟨ub, 0, none⟩ (.bool vf)).setCell ⟨ub, 1, none⟩ (.int .i64 vm)).setCell ⟨ub, 2, none⟩ (.int .i64 va)).setCell ⟨ub, 3, none⟩ (.int .i64 vd)).cell? ⟨nb, 0, none⟩ = some (.int .i64 op) ∧ ((((V2.setCell ⟨ub, 0, none⟩ (.bool vf)).setCell ⟨ub, 1, none⟩ (.int .i64 vm)).setCell ⟨ub, 2, none⟩ (.int .i64 va)).setCell ⟨ub, 3, none⟩ (.int .i64 vd)).cell? ⟨nb, 1, none⟩ = some (.int .i64 pl) ∧ ((((V2.setCell ⟨ub, 0, none⟩ (.bool vf)).setCell ⟨ub, 1, none⟩ (.int .i64 vm)).setCell ⟨ub, 2, none⟩ (.int .i64 va)).setCell ⟨ub, 3, none⟩ (.int .i64 vd)).cell? ⟨nb, 2, none⟩ = some (.string s) ∧ ((((V2.setCell ⟨ub, 0, none⟩ (.bool vf)).setCell ⟨ub, 1, none⟩ (.int .i64 vm)).setCell ⟨ub, 2, none⟩ (.int .i64 va)).setCell ⟨ub, 3, none⟩ (.int .i64 vd)).cell? ⟨nb, 3, none⟩ = some (.int .i64 n0) ∧ ((((V2.setCell ⟨ub, 0, none⟩ (.bool vf)).setCell ⟨ub, 1, none⟩ (.int .i64 vm)).setCell ⟨ub, 2, none⟩ (.int .i64 va)).setCell ⟨ub, 3, none⟩ (.int .i64 vd)).cell? ⟨nb, 4, none⟩ = some (.int .i64 d0) ∧ ((((V2.setCell ⟨ub, 0, none⟩ (.bool vf)).setCell ⟨ub, 1, none⟩ (.int .i64 vm)).setCell ⟨ub, 2, none⟩ (.int .i64 va)).setCell ⟨ub, 3, none⟩ (.int .i64 vd)).cell? ⟨nb, 5, none⟩ = some (.bool uf) ∧ ((((V2.setCell ⟨ub, 0, none⟩ (.bool vf)).setCell ⟨ub, 1, none⟩ (.int .i64 vm)).setCell ⟨ub, 2, none⟩ (.int .i64 va)).setCell ⟨ub, 3, none⟩ (.int .i64 vd)).cell? ⟨nb, 6, none⟩ = some (.int .i64 um) ∧ ((((V2.setCell ⟨ub, 0, none⟩ (.bool vf)).setCell ⟨ub, 1, none⟩ (.int .i64 vm)).setCell ⟨ub, 2, none⟩ (.int .i64 va)).setCell ⟨ub, 3, none⟩ (.int .i64 vd)).cell? ⟨nb, 7, none⟩ = some (.int .i64 ua) ∧ ((((V2.setCell ⟨ub, 0, none⟩ (.bool vf)).setCell ⟨ub, 1, none⟩ (.int .i64 vm)).setCell ⟨ub, 2, none⟩ (.int .i64 va)).setCell ⟨ub, 3, none⟩ (.int .i64 vd)).cell? ⟨nb, 8, none⟩ = some (.int .i64 ud) ∧ ((((V2.setCell ⟨ub, 0, none⟩ (.bool vf)).setCell ⟨ub, 1, none⟩ (.int .i64 vm)).setCell ⟨ub, 2, none⟩ (.int .i64 va)).setCell ⟨ub, 3, none⟩ (.int .i64 vd)).cell? ⟨nb, 9, none⟩ = some (.slice xq ks.length xc) from ⟨o4 C2.out NS, o4 c0 NN, o4 c1 NN, o4 c2 NN, o4 c3 NN, o4 c4 NN, o4 c5 NN, o4 c6 NN, o4 c7 NN, o4 c8 NN, o4 c9 NN⟩)
  clear o4 C2 N2 B2 U2'
  go_simp
  refine hK.out _ _ ?_ (fun hHeld => ?_)
  ·exact HH.out
  clear hK K
  try simp only [Act.put, zA, zB, zC]
  refine wpAnyH_done (by kernel_rfl) ?_ _
  go_wp2_with fail
  go_end0
  exact ⟨rfl, U3.out, K3.out⟩
end Go.Proofs.Ytoaonficdkgfiaa
