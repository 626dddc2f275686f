/- Texts on units: RRul RChM RChe -/
import Derived.Test.YtoaonficdkgfiaaY31
import Derived.Test.YtoaonficdkgfiaaY28
import Derived.Test.YtoaonficdkgfiaaY26
import Derived.Test.YtoaonficdkgfiaaY19
namespace Go.Proofs.Ytoaonficdkgfiaa
open Go.RowKit Un MapKept

theorem box2d {w : World} {b : Nat} {x0 x1 : Value} (h : BoxL w b [x0, x1]) : w.cell? ⟨b, 0, none⟩ = some x0 ∧ w.cell? ⟨b, 1, none⟩ = some x1 := ⟨(h 0 _ rfl).1, (h 1 _ rfl).1⟩
theorem ret2 {R : Int × Int} {a b : Int} (h : R = (a, b)) : Ending.returned (.agg #[.int .i64 a, .int .i64 b]) = .returned (.agg #[.int .i64 R.1, .int .i64 R.2]) := by rw [h]
set_option maxRecDepth 100000 in
set_option maxHeartbeats 8000000 in
theorem rrule_any (L : List Dc) (hf : formD L = true) (rs : List Ru) (hv : ∀ r ∈ rs, in64 r.ver) (rows : List (List Value)) (pd pr : Option Addr) (bd od cd br orr cr : Nat) (A : Nat → Prop) (i : Nat) (hi : i < rs.length) (hw : form vld rs[i].whn = true) (hg : form vld rs[i].giv = true) (w : World) (hD : SlR w pd bd od L.length 8 (L.map dC)) (hR : RsM w A pr br orr rs rows) :
  Calls Try.prog 46 #[.agg #[.slice pd L.length cd, .slice pr rs.length cr], .int .i64 (i : Nat)] w fun e w' => e = .returned (.agg #[.int .i64 (ruleR (Un.facts L) (before (rs.take i) rs[i]) rs[i]).1, .int .i64 (ruleR (Un.facts L) (before (rs.take i) rs[i]) rs[i]).2]) ∧ RowKit.Below w.heap.size w w' := by
 have hmd := hD.max
 have hmr := hR.sl.max
 have hln := hR.sl.ln
 have hq := hR.sl.ptr (by omega)
 subst hq
 obtain ⟨x, y, hri, hmi⟩ := hR.ru i hi (by omega)
 have KH := Lib.hid (fun V (hV : RowKit.Below w.heap.size w V) => rheading_any rs hv rows _ br orr cr i hi V (hR.bel hV).rc)
 simp only [form, Bool.and_eq_true] at hw hg
 have KW := Lib.hid (fun V (hV : RowKit.Below w.heap.size w V) => rFind_any L hf (size rs[i].whn) rs[i].whn (Nat.le_refl _) 20 hw.1 pd bd od cd A x V (hD.bel hV) (hmi.1.bel hV))
 have KQ := Lib.hid (fun V (hV : RowKit.Below w.heap.size w V) => rFind_any L hf (size rs[i].giv) rs[i].giv (Nat.le_refl _) 20 hg.1 pd bd od cd A y V (hD.bel hV) (hmi.2.bel hV))
 have KG := Lib.hid (fun u V => rGives_any rs[i] x y rows[i] hri u V)
 have HA : Hid (∀ V, RowKit.Below w.heap.size w V → ∀ j v, rows[i][j]? = some v → V.cell? ⟨br, orr + i * 28 + j, none⟩ = some v) := fun V hV => ((hR.bel hV).sl.at_ i rows[i] (List.getElem?_eq_getElem (by omega))).2
 have hl := hri.len
 have hone := hri.one
 have hwh := Lib.hid hri.wh
 have hgi := Lib.hid hri.gi
 have f27 := Lib.hid hri.f27
 have fw : Hid (rows[i][8]? = some (.int .i64 rs[i].whn.pl)) := by
  have := hri.wh 1
  cases hq : rs[i].whn
  rw [hq] at this
  exact this _ rfl
 have fg : Hid (rows[i][18]? = some (.int .i64 rs[i].giv.pl)) := by
  have := hri.gi 1
  cases hq : rs[i].giv
  rw [hq] at this
  exact this _ rfl
 obtain ⟨R, hRR⟩ : ∃ R, R = ruleR (Un.facts L) (before (rs.take i) rs[i]) rs[i] := ⟨_, rfl⟩
 rw [← hRR]
 unfold ruleR at hRR
 have HR := Lib.hid hRR
 clear hRR hD hR hri hmi hw hg hv
 obtain ⟨lw, hlw⟩ : ∃ lw, lw = nC rs[i].whn x := ⟨_, rfl⟩
 have hvw : nV rs[i].whn x = .agg lw.toArray := by rw [hlw]; rfl
 have hlw1 : lw.length = 10 := by rw [hlw]; exact nC_len _ x
 obtain ⟨lg, hlg⟩ : ∃ lg, lg = nC rs[i].giv y := ⟨_, rfl⟩
 have hvg : nV rs[i].giv y = .agg lg.toArray := by rw [hlg]; rfl
 have hlg1 : lg.length = 10 := by rw [hlg]; exact nC_len _ y
 rw [hvw] at KW
 rw [hvg] at KQ
 rw [← hlw] at hwh
 rw [← hlg] at hgi
 clear hlw hlg hvw hvg
 obtain ⟨hd, hhd⟩ : ∃ hd, hd = headR (before (rs.take i) rs[i]) rs[i] := ⟨_, rfl⟩
 rw [← hhd] at HR KH
 clear hhd
 generalize fnd (Un.facts L) rs[i].whn = gw at *
 generalize fnd (Un.facts L) rs[i].giv = gg at *
 generalize rs[i].whn.pl = wpl at *
 generalize rs[i].giv.pl = gpl at *
 generalize rows[i] = l at *
 generalize rs[i] = r at *
 generalize L.length = m at *
 generalize rs.length = n at *
 have hin : (i : Int) < (n : Int) := by omega
 have hi0 : ¬ (i : Int) < 0 := by omega
 obtain ⟨W1, hW1⟩ : ∃ W1, w.alloc (.cells #[.slice pd m cd, .slice (some ⟨br, orr, none⟩) n cr] 25) = W1 := ⟨_, rfl⟩
 have a1 := (Below.refl w.heap.size w).alloc (Nat.le_refl _) (.cells #[.slice pd m cd, .slice (some ⟨br, orr, none⟩) n cr] 25)
 have x1 : BoxL W1 w.heap.size [.slice pd m cd, .slice (some ⟨br, orr, none⟩) n cr] := by rw [← hW1]; exact box_new [.slice pd m cd, .slice (some ⟨br, orr, none⟩) n cr] _ rfl
 rw [hW1] at a1
 have z1 : W1.heap.size = w.heap.size + 1 := by rw [← hW1]; simp
 obtain ⟨W2, hW2⟩ : ∃ W2, W1.alloc (.cells #[.int .i64 0, .int .i64 0] 66) = W2 := ⟨_, rfl⟩
 have a2 := (Below.refl W1.heap.size W1).alloc (Nat.le_refl _) (.cells #[.int .i64 0, .int .i64 0] 66)
 have x2 : BoxL W2 (w.heap.size + 1) [.int .i64 0, .int .i64 0] := by rw [← hW2]; exact box_new [.int .i64 0, .int .i64 0] _ z1
 rw [hW2] at a2
 have X1 := Lib.hid (x1.bel (by simp) a2)
 have X4 := Lib.hid x2
 have BB := Lib.hid (a1.trans (a2.mono (by omega)))
 have z2 : W2.heap.size = w.heap.size + 2 := by rw [← hW2]; simp [z1]
 clear x1 x2 a1 a2
 obtain ⟨c1, -⟩ := X1.out 1 _ rfl
 go_enter Try.func46, Try.ntmps46
 go_wp2_with (first | ((with_reducible show wpList _ _ _ ({ dst := some 12, op := _, type := _, pos := _, after := _, guard := _ } :: _) _ _); refine wl_loadP rfl rfl rfl (load_rule _ _ _ l hl (HA.out _ BB.out)) ?_; simp only [Act.put, zA, zB, zC]) | ((with_reducible show wpList _ _ _ ({ dst := some 5, op := _, type := _, pos := _, after := _, guard := _ } :: _) _ _); refine wl_rbox (L := l) rfl rfl rfl rfl hl hone rfl rfl ?_; intro V1 hb hs hx; replace BB := Lib.hid (BB.out.trans (hb.mono BB.out.size)); replace X1 := Lib.hid (X1.out.bel (by simp) hb); replace X4 := Lib.hid (X4.out.bel (by simp) hb); have X5 := Lib.hid hx; rw [z2] at X5 ⊢; rw [z2] at hs; clear hb hx hW1 hW2 z1 z2 c1 HA; obtain ⟨c0, -⟩ := X1.out 0 _ rfl; obtain ⟨c1, -⟩ := X1.out 1 _ rfl; simp only [Act.put, zA, zB, zC]))
 refine (KH.out _ BB.out).mono ?_
 rintro _ V2 ⟨rfl, hb⟩
 replace BB := Lib.hid (BB.out.trans (hb.mono BB.out.size))
 replace X1 := Lib.hid (X1.out.bel (by simp) hb)
 replace X4 := Lib.hid (X4.out.bel (by simp) hb)
 replace X5 := Lib.hid (X5.out.bel (by omega) hb)
 have q2 := hb.size
 clear hb KH c0 c1
 obtain ⟨c0, -⟩ := X1.out 0 _ rfl
 by_cases h0 : hd = 0
 rotate_left
 ·have HR2 : Hid (R = (r.pl, hd)) := by show _ = _; rw [HR.out, if_pos h0]
  have h0b : (hd == 0) = false := beq_eq_false_iff_ne.2 h0
  obtain ⟨k27, -⟩ := X5.out 27 _ f27.out
  clear HR KW KQ KG c0
  generalize r.pl = rpl at *
  go_wp2_with ((with_reducible show wpList _ _ _ ({ dst := none, op := Op.store _ (Operand.tmp 4) _, type := _, pos := _, after := _, guard := _ } :: _) _ _); refine wl_store rfl rfl rfl rfl (store_row 66 2 (by kernel_rfl) V2 (w.heap.size + 1) [.int .i64 0, .int .i64 0] [.int .i64 rpl, .int .i64 hd] X4.out rfl rfl (by simp [Value.oneCell'])) ?_; simp only [Act.put]; replace X4 := Lib.hid (X4.out.cells (L := [.int .i64 rpl, .int .i64 hd]) rfl); have hk := kept_setCells (b := w.heap.size + 1) (w := V2) [.int .i64 rpl, .int .i64 hd] 0 V2 (Kept.refl _ _); replace BB := Lib.hid (below_kept BB.out hk (by omega)); clear hk; generalize V2.setCells (w.heap.size + 1) 0 [.int .i64 rpl, .int .i64 hd] = F9 at *; obtain ⟨r0, r1⟩ := box2d X4.out)
  exact bodyPost_ret (v := .agg #[.int .i64 rpl, .int .i64 hd]) (by simp [results, Try.results46, go_sem, r0, r1]) rfl ⟨ret2 HR2.out, BB.out⟩
 have HR2 : Hid (R = if gE gw ≠ 0 then (gP gw, gE gw) else if (gU gw).f = false then (wpl, 12) else if gE gg ≠ 0 then (gP gg, gE gg) else (gpl, giveR r (gU gg))) := by show _ = _; rw [HR.out, if_neg (by simpa using h0)]
 subst h0
 clear HR
 go_wp2_with ((with_reducible show wpList _ _ _ ({ dst := some 26, op := _, type := _, pos := _, after := _, guard := _ } :: _) _ _); refine wl_loadP rfl rfl rfl (load_rowAt 32 10 (by kernel_rfl) (by kernel_rfl) _ _ _ lw hlw1 (fun j v hv => (X5.out (7 + j) v (hwh.out j v hv)).1)) ?_; simp only [Act.put, zA, zB, zC])
 refine (KW.out _ BB.out).mono ?_
 rintro _ V3 ⟨rfl, hb⟩
 replace BB := Lib.hid (BB.out.trans (hb.mono BB.out.size))
 replace X1 := Lib.hid (X1.out.bel (by simp) hb)
 replace X4 := Lib.hid (X4.out.bel (by simp) hb)
 replace X5 := Lib.hid (X5.out.bel (by omega) hb)
 have q3 := X5.out.lt (by omega)
 clear hb KW c0 hwh
 by_cases h1 : gE gw = 0
 rotate_left
 ·have HR3 : Hid (R = (gP gw, gE gw)) := by show _ = _; rw [HR2.out, if_pos h1]
  have h1b : (gE gw == 0) = false := beq_eq_false_iff_ne.2 h1
  clear HR2 KQ KG
  go_wp2_with (first | ((with_reducible show wpList _ _ _ ({ dst := some 7, op := _, type := _, pos := _, after := _, guard := _ } :: _) _ _); obtain ⟨b7, hb7⟩ : ∃ b, b = V3.heap.size := ⟨_, rfl⟩; refine wl_gbox (L := g6 gw) rfl rfl rfl rfl rfl (by simp [Value.oneCell']) rfl rfl ?_; intro V4 hb hs hx; replace BB := Lib.hid (BB.out.trans (hb.mono BB.out.size)); replace X1 := Lib.hid (X1.out.bel (by simp) hb); replace X4 := Lib.hid (X4.out.bel (by simp) hb); replace X5 := Lib.hid (X5.out.bel (by omega) hb); have X7 := Lib.hid hx; clear hb hx hs; rw [← hb7] at X7 ⊢; have q7 : w.heap.size + 2 < b7 := (by rw [hb7]; omega); clear hb7; obtain ⟨e0, -, -, -, e4, e5⟩ := box6 X7.out; simp only [Act.put, zA, zB, zC]) | ((with_reducible show wpList _ _ _ ({ dst := none, op := Op.store _ (Operand.tmp 4) _, type := _, pos := _, after := _, guard := _ } :: _) _ _); refine wl_store rfl rfl rfl rfl (store_row 66 2 (by kernel_rfl) V4 (w.heap.size + 1) [.int .i64 0, .int .i64 0] [.int .i64 (gP gw), .int .i64 (gE gw)] X4.out rfl rfl (by simp [Value.oneCell'])) ?_; simp only [Act.put]; replace X4 := Lib.hid (X4.out.cells (L := [.int .i64 (gP gw), .int .i64 (gE gw)]) rfl); have hk := kept_setCells (b := w.heap.size + 1) (w := V4) [.int .i64 (gP gw), .int .i64 (gE gw)] 0 V4 (Kept.refl _ _); replace BB := Lib.hid (below_kept BB.out hk (by omega)); clear hk; generalize V4.setCells (w.heap.size + 1) 0 [.int .i64 (gP gw), .int .i64 (gE gw)] = F9 at *; obtain ⟨r0, r1⟩ := box2d X4.out))
  exact bodyPost_ret (v := .agg #[.int .i64 (gP gw), .int .i64 (gE gw)]) (by simp [results, Try.results46, go_sem, r0, r1]) rfl ⟨ret2 HR3.out, BB.out⟩
 have HR3 : Hid (R = if (gU gw).f = false then (wpl, 12) else if gE gg ≠ 0 then (gP gg, gE gg) else (gpl, giveR r (gU gg))) := by show _ = _; rw [HR2.out, if_neg (by simpa using h1)]
 clear HR2
 generalize hff : (gU gw).f = ff at *
 cases ff with
 | false =>
  have HR4 : Hid (R = (wpl, 12)) := HR3.out
  obtain ⟨k8, -⟩ := X5.out 8 _ fw.out
  clear HR3 KQ KG
  go_wp2_with (first | ((with_reducible show wpList _ _ _ ({ dst := some 7, op := _, type := _, pos := _, after := _, guard := _ } :: _) _ _); obtain ⟨b7, hb7⟩ : ∃ b, b = V3.heap.size := ⟨_, rfl⟩; refine wl_gbox (L := g6 gw) rfl rfl rfl rfl rfl (by simp [Value.oneCell']) rfl rfl ?_; intro V4 hb hs hx; replace BB := Lib.hid (BB.out.trans (hb.mono BB.out.size)); replace X1 := Lib.hid (X1.out.bel (by simp) hb); replace X4 := Lib.hid (X4.out.bel (by simp) hb); replace X5 := Lib.hid (X5.out.bel (by omega) hb); have X7 := Lib.hid hx; clear hb hx hs; rw [← hb7] at X7 ⊢; have q7 : w.heap.size + 2 < b7 := (by rw [hb7]; omega); clear hb7; obtain ⟨e0, -, -, -, e4, e5⟩ := box6 X7.out; rw [h1] at e4; rw [hff] at e0; obtain ⟨k8, -⟩ := X5.out 8 _ fw.out; simp only [Act.put, zA, zB, zC]) | ((with_reducible show wpList _ _ _ ({ dst := none, op := Op.store _ (Operand.tmp 4) _, type := _, pos := _, after := _, guard := _ } :: _) _ _); refine wl_store rfl rfl rfl rfl (store_row 66 2 (by kernel_rfl) V4 (w.heap.size + 1) [.int .i64 0, .int .i64 0] [.int .i64 wpl, .int .i64 12] X4.out rfl rfl (by simp [Value.oneCell'])) ?_; simp only [Act.put]; replace X4 := Lib.hid (X4.out.cells (L := [.int .i64 wpl, .int .i64 12]) rfl); have hk := kept_setCells (b := w.heap.size + 1) (w := V4) [.int .i64 wpl, .int .i64 12] 0 V4 (Kept.refl _ _); replace BB := Lib.hid (below_kept BB.out hk (by omega)); clear hk; generalize V4.setCells (w.heap.size + 1) 0 [.int .i64 wpl, .int .i64 12] = F9 at *; obtain ⟨r0, r1⟩ := box2d X4.out))
  exact bodyPost_ret (v := .agg #[.int .i64 wpl, .int .i64 12]) (by simp [results, Try.results46, go_sem, r0, r1]) rfl ⟨ret2 HR4.out, BB.out⟩
 | true =>
  have HR4 : Hid (R = if gE gg ≠ 0 then (gP gg, gE gg) else (gpl, giveR r (gU gg))) := HR3.out
  clear HR3
  go_wp2_with (first | ((with_reducible show wpList _ _ _ ({ dst := some 7, op := _, type := _, pos := _, after := _, guard := _ } :: _) _ _); obtain ⟨b7, hb7⟩ : ∃ b, b = V3.heap.size := ⟨_, rfl⟩; refine wl_gbox (L := g6 gw) rfl rfl rfl rfl rfl (by simp [Value.oneCell']) rfl rfl ?_; intro V4 hb hs hx; replace BB := Lib.hid (BB.out.trans (hb.mono BB.out.size)); replace X1 := Lib.hid (X1.out.bel (by simp) hb); replace X4 := Lib.hid (X4.out.bel (by simp) hb); replace X5 := Lib.hid (X5.out.bel (by omega) hb); have X7 := Lib.hid hx; clear hb hx hs; rw [← hb7] at X7 ⊢; have q7 : w.heap.size + 2 < b7 := (by rw [hb7]; omega); clear hb7; obtain ⟨e0, -, -, -, e4, e5⟩ := box6 X7.out; rw [h1] at e4; rw [hff] at e0; obtain ⟨c0, -⟩ := X1.out 0 _ rfl; simp only [Act.put, zA, zB, zC]) | ((with_reducible show wpList _ _ _ ({ dst := some 47, op := _, type := _, pos := _, after := _, guard := _ } :: _) _ _); refine wl_loadP rfl rfl rfl (load_rowAt 32 10 (by kernel_rfl) (by kernel_rfl) _ _ _ lg hlg1 (fun j v hv => (X5.out (17 + j) v (hgi.out j v hv)).1)) ?_; simp only [Act.put, zA, zB, zC]))
  clear e0 e4 e5 c0 hff h1
  refine (KQ.out _ BB.out).mono ?_
  rintro _ V5 ⟨rfl, hb⟩
  replace BB := Lib.hid (BB.out.trans (hb.mono BB.out.size))
  replace X1 := Lib.hid (X1.out.bel (by simp) hb)
  replace X4 := Lib.hid (X4.out.bel (by simp) hb)
  replace X5 := Lib.hid (X5.out.bel (by omega) hb)
  replace X7 := Lib.hid (X7.out.bel (by simp) hb)
  clear hb KQ hgi
  by_cases h2 : gE gg = 0
  rotate_left
  ·have HR5 : Hid (R = (gP gg, gE gg)) := by show _ = _; rw [HR4.out, if_pos h2]
   have h2b : (gE gg == 0) = false := beq_eq_false_iff_ne.2 h2
   clear HR4 KG
   go_wp2_with (first | ((with_reducible show wpList _ _ _ ({ dst := none, op := Op.store _ (Operand.tmp 7) _, type := _, pos := _, after := _, guard := _ } :: _) _ _); refine wl_store rfl rfl rfl rfl (store_row 76 6 (by kernel_rfl) V5 b7 (g6 gw) (g6 gg) X7.out rfl rfl (by simp [Value.oneCell'])) ?_; simp only [Act.put]; replace X7 := Lib.hid (X7.out.cells (L := g6 gg) rfl); have hk := kept_setCells (b := b7) (w := V5) (g6 gg) 0 V5 (Kept.refl _ _); replace BB := Lib.hid (below_kept BB.out hk (by omega)); replace X4 := Lib.hid (X4.out.call (by simp) hk (by omega)); replace X5 := Lib.hid (X5.out.call (by omega) hk (by omega)); clear hk X1; generalize V5.setCells b7 0 (g6 gg) = V6 at *; obtain ⟨-, -, -, -, e4, e5⟩ := box6 X7.out) | ((with_reducible show wpList _ _ _ ({ dst := none, op := Op.store _ (Operand.tmp 4) _, type := _, pos := _, after := _, guard := _ } :: _) _ _); refine wl_store rfl rfl rfl rfl (store_row 66 2 (by kernel_rfl) V6 (w.heap.size + 1) [.int .i64 0, .int .i64 0] [.int .i64 (gP gg), .int .i64 (gE gg)] X4.out rfl rfl (by simp [Value.oneCell'])) ?_; simp only [Act.put]; replace X4 := Lib.hid (X4.out.cells (L := [.int .i64 (gP gg), .int .i64 (gE gg)]) rfl); have hk := kept_setCells (b := w.heap.size + 1) (w := V6) [.int .i64 (gP gg), .int .i64 (gE gg)] 0 V6 (Kept.refl _ _); replace BB := Lib.hid (below_kept BB.out hk (by omega)); clear hk; generalize V6.setCells (w.heap.size + 1) 0 [.int .i64 (gP gg), .int .i64 (gE gg)] = F9 at *; obtain ⟨r0, r1⟩ := box2d X4.out))
   exact bodyPost_ret (v := .agg #[.int .i64 (gP gg), .int .i64 (gE gg)]) (by simp [results, Try.results46, go_sem, r0, r1]) rfl ⟨ret2 HR5.out, BB.out⟩
  have HR5 : Hid (R = (gpl, giveR r (gU gg))) := by show _ = _; rw [HR4.out, if_neg (by simpa using h2)]
  clear HR4
  go_wp2_with ((with_reducible show wpList _ _ _ ({ dst := none, op := Op.store _ (Operand.tmp 7) _, type := _, pos := _, after := _, guard := _ } :: _) _ _); refine wl_store rfl rfl rfl rfl (store_row 76 6 (by kernel_rfl) V5 b7 (g6 gw) (g6 gg) X7.out rfl rfl (by simp [Value.oneCell'])) ?_; simp only [Act.put]; replace X7 := Lib.hid (X7.out.cells (L := g6 gg) rfl); have hk := kept_setCells (b := b7) (w := V5) (g6 gg) 0 V5 (Kept.refl _ _); replace BB := Lib.hid (below_kept BB.out hk (by omega)); replace X4 := Lib.hid (X4.out.call (by simp) hk (by omega)); replace X5 := Lib.hid (X5.out.call (by omega) hk (by omega)); clear hk X1; generalize V5.setCells b7 0 (g6 gg) = V6 at *; obtain ⟨-, -, -, -, e4, e5⟩ := box6 X7.out; rw [h2] at e4)
  clear e4 e5 h2
  have hb := (Below.refl V6.heap.size V6).drew
  replace BB := Lib.hid (BB.out.trans (hb.mono BB.out.size))
  replace X4 := Lib.hid (X4.out.bel (by simp) hb)
  replace X5 := Lib.hid (X5.out.bel (by omega) hb)
  replace X7 := Lib.hid (X7.out.bel (by simp) hb)
  have hS : Hid (BoxL V6.drew (w.heap.size + 2) l) ∧ Hid (BoxL V6.drew b7 (g6 gg)) := ⟨X5, X7⟩
  refine wp_region_held (S := fun w' : World => Hid (BoxL w' (w.heap.size + 2) l) ∧ Hid (BoxL w' b7 (g6 gg))) mixed ?_
  change wpAnyH _ _ _ _ _ _ _ _ V6.drew
  clear hb
  generalize V6.drew = U1 at *
  refine tk0 (v := ?_) (by kernel_rfl) (by kernel_rfl) (by kernel_rfl) (fun _ _ _ h => h) (Or.inl ⟨by first | rfl | (simp [Region.wanted, yielded]; done), ?_⟩) hS ?_
  rotate_left
  ·intro w' hSw; have s18 := (hSw.1.out 18 _ fg.out).1; clear hSw; go_simp; try with_reducible rfl
  simp only [Act.put, zA, zB, zC]
  refine tk1 (v := ?_) (by kernel_rfl) (by kernel_rfl) (by kernel_rfl) (fun _ _ _ h => h) (Or.inl ⟨by first | rfl | (simp [Region.wanted, yielded]; done), ?_⟩) hS ?_
  rotate_left
  ·intro w' hSw; have s18 := (hSw.1.out 18 _ fg.out).1; clear hSw; go_simp; try with_reducible rfl
  simp only [Act.put, zA, zB, zC]
  refine tk2 (v := ?_) (by kernel_rfl) (by kernel_rfl) (by kernel_rfl) (fun _ _ _ h => h) (Or.inl ⟨by first | rfl | (simp [Region.wanted, yielded]; done), ?_⟩) hS ?_
  rotate_left
  ·intro w' hSw; have s18 := (hSw.1.out 18 _ fg.out).1; clear hSw; go_simp; try with_reducible rfl
  simp only [Act.put, zA, zB, zC]
  refine tk3 (v := .agg l.toArray) (by kernel_rfl) (by kernel_rfl) (by kernel_rfl) (fun _ _ _ h => h) (Or.inl ⟨by first | rfl | (simp [Region.wanted, yielded]; done), ?_⟩) hS ?_
  ·intro w' hSw
   exact ex_load rfl rfl (load_row 58 28 (by kernel_rfl) (by kernel_rfl) _ _ l hl (fun j v hv => (hSw.1.out j v hv).1))
  simp only [Act.put, zA, zB, zC]
  refine tk4 (v := ?_) (by kernel_rfl) (by kernel_rfl) (by kernel_rfl) (fun _ _ _ h => h) (Or.inl ⟨by first | rfl | (simp [Region.wanted, yielded]; done), ?_⟩) hS ?_
  rotate_left
  ·intro w' hSw; have s18 := (hSw.1.out 18 _ fg.out).1; clear hSw; go_simp; try with_reducible rfl
  simp only [Act.put, zA, zB, zC]
  refine tk5 (v := .agg (uC (gU gg)).toArray) (by kernel_rfl) (by kernel_rfl) (by kernel_rfl) (fun _ _ _ h => h) (Or.inl ⟨by first | rfl | (simp [Region.wanted, yielded]; done), ?_⟩) hS ?_
  ·intro w' hSw
   exact ex_load rfl rfl (load_row 29 4 (by kernel_rfl) (by kernel_rfl) _ _ (uC (gU gg)) rfl (fun j v hv => (hSw.2.out j v (g6_u gg j v hv)).1))
  simp only [Act.put, zA, zB, zC]
  refine wpAnyH_ready (rs := [6]) (by kernel_rfl) (by simp) (st6 (fun K hK => ?_) AllReadyH.nil)
  go_simp
  refine (KG.out _ _).mono ?_
  rintro _ Q1 ⟨rfl, hb⟩
  go_wp2_with fail
  replace BB := Lib.hid (BB.out.trans (hb.mono BB.out.size))
  replace X4 := Lib.hid (X4.out.bel (by simp) hb)
  replace X5 := Lib.hid (X5.out.bel (by omega) hb)
  replace X7 := Lib.hid (X7.out.bel (by simp) hb)
  have hS : Hid (BoxL Q1 (w.heap.size + 2) l) ∧ Hid (BoxL Q1 b7 (g6 gg)) := ⟨X5, X7⟩
  clear hb KG
  refine hK.out _ _ ?_ (fun hHeld => ?_)
  ·exact hS
  clear hK K
  try simp only [Act.put, zA, zB, zC]
  refine tk7 (v := ?_) (by kernel_rfl) (by kernel_rfl) (by kernel_rfl) (fun _ _ _ h => h) (Or.inl ⟨by first | rfl | (simp [Region.wanted, yielded]; done), ?_⟩) hS ?_
  rotate_left
  ·intro w' hSw; have s18 := (hSw.1.out 18 _ fg.out).1; clear hSw; go_simp; try with_reducible rfl
  simp only [Act.put, zA, zB, zC]
  refine wpAnyH_ready (rs := [8]) (by kernel_rfl) (by simp) (st8 (fun K hK => ?_) AllReadyH.nil)
  refine (if_pos (by kernel_rfl)).mpr ?_
  refine wp_store rfl rfl rfl (store_row 66 2 (by kernel_rfl) Q1 (w.heap.size + 1) [.int .i64 0, .int .i64 0] [.int .i64 gpl, .int .i64 (giveR r (gU gg))] X4.out rfl rfl (by simp [Value.oneCell'])) ?_
  replace X4 := Lib.hid (X4.out.cells (L := [.int .i64 gpl, .int .i64 (giveR r (gU gg))]) rfl)
  have hk := kept_setCells (b := w.heap.size + 1) (w := Q1) [.int .i64 gpl, .int .i64 (giveR r (gU gg))] 0 Q1 (Kept.refl _ _)
  replace BB := Lib.hid (below_kept BB.out hk (by omega))
  replace X5 := Lib.hid (X5.out.call (by omega) hk (by omega))
  replace X7 := Lib.hid (X7.out.call (by simp) hk (by omega))
  clear hk
  generalize Q1.setCells (w.heap.size + 1) 0 [.int .i64 gpl, .int .i64 (giveR r (gU gg))] = F9 at *
  have hS : Hid (BoxL F9 (w.heap.size + 2) l) ∧ Hid (BoxL F9 b7 (g6 gg)) := ⟨X5, X7⟩
  refine hK.out _ _ ?_ (fun hHeld => ?_)
  ·exact hS
  clear hK K
  try simp only [Act.put]
  refine wpAnyH_done (by kernel_rfl) ?_ _
  clear hS
  obtain ⟨r0, r1⟩ := box2d X4.out
  go_wp2_with fail
  exact bodyPost_ret (v := .agg #[.int .i64 gpl, .int .i64 (giveR r (gU gg))]) (by simp [results, Try.results46, go_sem, r0, r1]) rfl ⟨ret2 HR5.out, BB.out⟩
end Go.Proofs.Ytoaonficdkgfiaa
namespace Go.Proofs.Ytoaonficdkgfiaa
open Un

/-- What one more error makes of the errors so far, of which at most twenty are kept. -/
theorem take_more (l : List (Int × Int)) (e : Int × Int) : (l ++ [e]).take 20 = if (l.take 20).length < 20 then l.take 20 ++ [e] else l.take 20 := by
 rw [List.take_append, List.length_take]
 by_cases h : l.length < 20
 ·rw [if_pos (by omega), List.take_of_length_le (l := [e]) (by simp; omega)]
 ·rw [if_neg (by omega), show 20 - l.length = 0 by omega, List.take_zero, List.append_nil]
theorem rD_snoc (pre : List Dc) : ∀ (l : List Dc) (d : Dc), errsD pre (l ++ [d]) = errsD pre l ++ (if errD (pre ++ l) (prodC (pre ++ l)) d = 0 then [] else [(d.pl, errD (pre ++ l) (prodC (pre ++ l)) d)])
 | [], d => by simp [errsD]
 | c :: l, d => by
  have := rD_snoc (pre ++ [c]) l d
  simp only [List.cons_append, errsD, this, List.append_assoc, List.nil_append]
theorem rD_take (L : List Dc) (i : Nat) (hi : i < L.length) : errsD [] (L.take (i + 1)) = errsD [] (L.take i) ++ (if errI L i L[i] = 0 then [] else [(L[i].pl, errI L i L[i])]) := by
 rw [List.take_succ_eq_append_getElem hi, rD_snoc, List.nil_append, ← errI_eq]
theorem rR_take {fs : List (List UInt8 × U)} (hne : ∀ t e p, fnd fs t = .er e p → e ≠ 0) (rs : List Ru) (hk : ∀ r ∈ rs, 1 ≤ r.kind ∧ r.kind ≤ 7) (i : Nat) (hi : i < rs.length) : errsR fs [] (rs.take (i + 1)) = errsR fs [] (rs.take i) ++ (if (ruleR fs (before (rs.take i) rs[i]) rs[i]).2 = 0 then [] else [ruleR fs (before (rs.take i) rs[i]) rs[i]]) := by
 rw [List.take_succ_eq_append_getElem hi, errsR_snoc, List.nil_append, ruleR_eq (hk _ (List.getElem_mem hi)) hne]
end Go.Proofs.Ytoaonficdkgfiaa
namespace Go.Proofs.Ytoaonficdkgfiaa
open Go.RowKit Un MapKept

def zDgL : List Value := [.int .i64 0, .int .i64 0]
theorem alloc_dg (w : World) : (Instr.alloc 66 true (.tuple #[])).run Try.prog w = .ok (.pointer (some ⟨w.heap.size, 0, none⟩)) (w.alloc (.cells zDgL.toArray 66)) := by kernel_rfl
theorem wl_dbox {ops : Array Oper} {rest : List Oper} {o1 o2 : Oper} {a : Act} {v : World} {Q : Exit → Act → World → Prop} {L : List Value} (g1 : o1.guard = none) (g2 : o2.guard = none) (h1 : o1.op = .alloc 66) {x2 y2 : Operand} (h2 : o2.op = .store 66 x2 y2) (hL : L.length = 2) (oL : ∀ u ∈ L, u.oneCell' = true)
  (hx : (a.put o1.dst (.pointer (some ⟨v.heap.size, 0, none⟩))).eval x2 = .pointer (some ⟨v.heap.size, 0, none⟩)) (hy : (a.put o1.dst (.pointer (some ⟨v.heap.size, 0, none⟩))).eval y2 = .agg L.toArray)
  (h : ∀ V : World, RowKit.Below v.heap.size v V → V.heap.size = v.heap.size + 1 → BoxL V v.heap.size L → wpList Try.prog ops Q rest ((a.put o1.dst (.pointer (some ⟨v.heap.size, 0, none⟩))).put o2.dst undef) V) :
  wpList Try.prog ops Q (o1 :: o2 :: rest) a v := by
 have b1 := (Below.refl v.heap.size v).alloc (Nat.le_refl _) (.cells zDgL.toArray 66)
 have D := BoxL.new v zDgL 66
 have hs : (v.alloc (.cells zDgL.toArray 66)).heap.size = v.heap.size + 1 := by simp
 refine wl_alloc g1 h1 (alloc_dg v) ?_
 change wpList _ _ _ _ _ (v.alloc (.cells zDgL.toArray 66))
 generalize v.alloc (.cells zDgL.toArray 66) = V0 at *
 refine wl_store g2 h2 hx hy (store_row 66 2 (by kernel_rfl) V0 v.heap.size zDgL L D rfl hL oL) ?_
 have k1 := kept_setCells (b := v.heap.size) (w := V0) L 0 V0 (Kept.refl _ _)
 refine h _ (b1.trans (k1.below (Nat.le_refl _) (by omega))) (by rw [setCells_size]; exact hs) (D.cells (by rw [hL]; rfl))
set_option maxRecDepth 100000 in
set_option maxHeartbeats 8000000 in
theorem rcheck_any (L : List Dc) (rs : List Ru) (hv : ∀ r ∈ rs, in64 r.ver) (rows : List (List Value)) (pd pr : Option Addr) (bd od cd br orr cr : Nat) (A : Nat → Prop) (w : World) (hD : SlR w pd bd od L.length 8 (L.map dC)) (hR : RsM w A pr br orr rs rows) :
  Calls Try.prog 19 #[.agg #[.slice pd L.length cd, .slice pr rs.length cr]] w fun e w' => ∃ v, e = .returned v ∧ DgM w' v (checkV vld L rs) ∧ RowKit.Below w.heap.size w w' := by
 have KC := Lib.hid (fun V (h : RowKit.Below w.heap.size w V) => rCodex_any L rs rows pd pr bd od cd br orr cr A V (hD.bel h) (hR.bel h))
 have KD := Lib.hid (fun i (hi : i < L.length) V (h : RowKit.Below w.heap.size w V) => rdecl1_any L pd bd od cd i hi V (hD.bel h))
 have KR : Hid (formC vld L rs = true → ∀ (i : Nat) (hi : i < rs.length) V, RowKit.Below w.heap.size w V → _) := fun hf i hi V h => by
  have hf2 := hf
  simp only [formC, Bool.and_eq_true, decide_eq_true_eq] at hf2
  have hfr := List.all_eq_true.1 hf2.2 rs[i] (List.getElem_mem hi)
  simp only [formR, Bool.and_eq_true, decide_eq_true_eq] at hfr
  exact rrule_any L hf2.1.1 rs hv rows pd pr bd od cd br orr cr A i hi hfr.1.2 hfr.2 V (hD.bel h) (hR.bel h)
 have HPL : Hid (∀ V, RowKit.Below w.heap.size w V → ∀ i (hi : i < L.length), V.cell? ⟨bd, od + i * 8 + 7, none⟩ = some (.int .i64 L[i].pl)) := fun V hV i hi => ((hD.bel hV).at_ i (dC L[i]) (by rw [List.getElem?_map, List.getElem?_eq_getElem hi]; rfl)).2 7 _ rfl
 have HQ := Lib.hid (fun h => hD.ptr h)
 have hmd := hD.max
 have hmr := hR.sl.max
 have A1 := (Below.refl w.heap.size w).alloc (Nat.le_refl _) (.cells #[.slice pd L.length cd, .slice pr rs.length cr] 25)
 have X1 := Lib.hid (BoxL.new w [.slice pd L.length cd, .slice pr rs.length cr] 25)
 have HB := Lib.hid A1
 obtain ⟨R, hRR⟩ : ∃ R, R = checkV vld L rs := ⟨_, rfl⟩
 rw [← hRR]
 have HR : Hid (R = if formC vld L rs = false then [(0, 1)] else if (errsD [] L).isEmpty then (errsR (Un.facts L) [] rs).take 20 else (errsD [] L).take 20) := hRR
 clear hRR hD hR A1
 generalize hW1 : w.alloc (.cells #[.slice pd L.length cd, .slice pr rs.length cr] 25) = W1 at *
 go_enter Try.func19, Try.ntmps19
 go_wp2_with ((with_reducible show wpList _ _ _ ({ dst := some 9, op := _, type := _, pos := _, after := _, guard := _ } :: _) _ _); refine wl_loadP rfl rfl rfl (load_row 25 2 (by kernel_rfl) (by kernel_rfl) _ _ [.slice pd L.length cd, .slice pr rs.length cr] rfl (fun j v hv => (X1.out j v hv).1)) ?_; simp only [Act.put, zA, zB, zC])
 clear hW1
 refine (KC.out _ HB.out).mono ?_
 rintro _ V1 ⟨rfl, hb⟩
 have B1 := Lib.hid (HB.out.trans (hb.mono HB.out.size))
 have X2 := Lib.hid (X1.out.bel (by simp) hb)
 clear hb KC HB X1
 cases hf : formC vld L rs with
 | false =>
  have HR2 : Hid (R = [(0, 1)]) := by show _ = _; rw [HR.out, if_pos hf]
  clear hf KD KR
  have a3 := (Below.refl V1.heap.size V1).alloc (Nat.le_refl _) (.cells #[.int .i64 0, .int .i64 1] 66)
  have d3 := BoxL.new V1 [.int .i64 0, .int .i64 1] 66
  have B3 := Lib.hid (B1.out.trans (a3.mono B1.out.size))
  have D3 : Hid (DgM (V1.alloc (.cells #[.int .i64 0, .int .i64 1] 66)) (.slice (some ⟨V1.heap.size, 0, none⟩) 1 1) [(0, 1)]) :=
   ⟨_, V1.heap.size, _, rfl, rfl, fun _ => rfl, fun i r hr => by
    cases i with
    | zero => cases hr; exact ⟨rfl, fun j v hv => by rw [show 0 + 0 * 2 + j = j by omega]; exact (d3 j v hv).1⟩
    | succ i => simp at hr, fun _ => by simp, by decide⟩
  clear a3 d3
  go_wp2_with fail
  go_ret
  exact ⟨_, rfl, by rw [HR2.out]; exact D3.out, B3.out⟩
 | true =>
  have KR2 := Lib.hid (KR.out hf)
  have HKK : Hid (∀ r ∈ rs, 1 ≤ r.kind ∧ r.kind ≤ 7) := fun r hr => by
   have hf2 := hf
   simp only [formC, Bool.and_eq_true, decide_eq_true_eq] at hf2
   have hfr := List.all_eq_true.1 hf2.2 r hr
   simp only [formR, Bool.and_eq_true, decide_eq_true_eq] at hfr
   exact ⟨hfr.1.1.1.1.1, hfr.1.1.1.1.2⟩
  have HR2 : Hid (R = if (errsD [] L).isEmpty then (errsR (Un.facts L) [] rs).take 20 else (errsD [] L).take 20) := by show _ = _; rw [HR.out, if_neg (by rw [hf]; simp)]
  clear hf KR HR
  have hsz : w.heap.size < V1.heap.size := X2.out.lt (by simp)
  have D0 := Lib.hid (DgO.nil V1 V1.heap.size (Nat.le_refl _))
  go_wp2_with fail
  go_loopg [4, 5] L.length (fun g v4 v5 wr => ∃ (i : Nat) (q : Option Addr) (cap : Nat) (es : List (Int × Int)), i ≤ L.length ∧ L.length - i ≤ g ∧ v5 = .int .i64 (i : Nat) ∧ v4 = .slice q es.length cap ∧ Hid (es = (errsD [] (L.take i)).take 20) ∧ Hid (DgO wr V1.heap.size (.slice q es.length cap) es) ∧ Hid (RowKit.Below w.heap.size w wr) ∧ Hid (BoxL wr w.heap.size [.slice pd L.length cd, .slice pr rs.length cr]))
  case atStart => exact ⟨0, none, 0, [], Nat.zero_le _, by omega, by simp, rfl, by show _ = _; simp [errsD], D0, B1, X2⟩
  case round =>
   obtain ⟨i, q, cap, es, hi, hg, rfl, rfl, HE, HD, HW, X3⟩ := hrel
   obtain ⟨c0, -⟩ := X3.out 0 _ rfl
   by_cases hlt : i < L.length
   ·have hz : (i : Int) < (L.length : Int) := by omega
    have hqd := HQ.out (by omega)
    subst hqd
    have KQ := Lib.hid (KD.out i hlt _ HW.out)
    go_wp2_with fail
    refine KQ.out.mono ?_
    rintro _ V2 ⟨rfl, hb⟩
    have HW2 := Lib.hid (HW.out.trans (hb.mono HW.out.size))
    have HD2 := Lib.hid (HD.out.bel hb)
    have X4 := Lib.hid (X3.out.bel (by simp) hb)
    have zp := HPL.out _ HW2.out i hlt
    have E3 := Lib.hid (rD_take L i hlt)
    have EE : Hid (es = (errsD [] (L.take i)).take 20) := HE
    have hes : es.length ≤ 20 := by rw [HE.out, List.length_take]; omega
    have e2 : IntKind.i64.wrap ((i : Int) + 1) = ((i + 1 : Nat) : Int) := by rw [IntWalk.i64_in _ (by omega)]; rfl
    clear hb KQ HW HD X3 HE c0
    obtain ⟨c0, -⟩ := X4.out 0 _ rfl
    generalize errI L i L[i] = E at *
    generalize L[i].pl = pl at *
    by_cases h0 : E = 0
    ·have HE2 : Hid (es = (errsD [] (L.take (i + 1))).take 20) := by show _ = _; rw [E3.out, if_pos h0, List.append_nil]; exact EE.out
     subst h0
     clear E3 EE
     go_wp2_with fail
     go_roundg (L.length - (i + 1))
     case measure => omega
     case rel => exact ⟨i + 1, q, cap, es, by omega, Nat.le_refl _, by simp, rfl, HE2, HD2, HW2, X4⟩
    have h0b : (E == 0) = false := beq_eq_false_iff_ne.2 h0
    by_cases h20 : es.length < 20
    ·have hz2 : (es.length : Int) < 20 := by omega
     have HE2 : Hid (es ++ [(pl, E)] = (errsD [] (L.take (i + 1))).take 20) := by show _ = _; rw [E3.out, if_neg h0, take_more, ← EE.out, if_pos h20]
     obtain ⟨q', cap', V8, hra, hd, hs, g1, g2, g3, hk⟩ := HD2.out.app (by omega) pl E 41
     have hbs := B1.out.size
     have hw8 : RowKit.Below (w.heap.size + 1) V2 V8 := ⟨g1, g2, g3, hs, fun j hj => hk j (by have := HW2.out.size; have := HD2.out.bs; omega) (fun e => by have := HD2.out.lt j e; omega)⟩
     have HW3 := Lib.hid (HW2.out.trans (hw8.mono (by omega)))
     have X5 := Lib.hid (X4.out.of (hw8.block w.heap.size (by omega)))
     have HD3 := Lib.hid hd
     clear E3 EE hd hs g1 g2 g3 hk hw8 HD2
     go_wp2_with ((with_reducible show wpList _ _ _ ({ dst := some 43, op := _, type := _, pos := _, after := _, guard := _ } :: _) _ _); refine wl_app (.tmp 33) (.tmp 42) rfl rfl rfl rfl hra ?_)
     clear hra zp
     go_roundg (L.length - (i + 1))
     case measure => omega
     case rel => exact ⟨i + 1, q', cap', es ++ [(pl, E)], by omega, Nat.le_refl _, by simp, by simp, HE2, HD3, HW3, X5⟩
    ·have hz2 : ¬ (es.length : Int) < 20 := by omega
     have HE2 : Hid (es = (errsD [] (L.take (i + 1))).take 20) := by show _ = _; rw [E3.out, if_neg h0, take_more, ← EE.out, if_neg h20]
     clear E3 EE
     go_wp2_with fail
     go_roundg (L.length - (i + 1))
     case measure => omega
     case rel => exact ⟨i + 1, q, cap, es, by omega, Nat.le_refl _, by simp, rfl, HE2, HD2, HW2, X4⟩
   ·have hz : ¬ (i : Int) < (L.length : Int) := by omega
    have hiL : i = L.length := by omega
    have HE2 : Hid (es = (errsD [] L).take 20) := by show _ = _; rw [HE.out, hiL, List.take_length]
    clear HE KD HPL
    by_cases hp : 0 < es.length
    ·have hz2 : (0 : Int) < (es.length : Int) := by omega
     have HR3 : Hid (R = es) := by
      show _ = _
      rw [HR2.out, if_neg (fun h => ?_), HE2.out]
      have h2 := HE2.out
      rw [List.isEmpty_iff.1 h] at h2
      rw [h2] at hp
      simp at hp
     clear HR2 HE2 KR2
     go_wp2_with fail
     go_ret
     exact ⟨_, rfl, by rw [HR3.out]; exact HD.out.dm, HW.out⟩
    ·have hz2 : ¬ (0 : Int) < (es.length : Int) := by omega
     have he0 : es = [] := List.length_eq_zero_iff.1 (by omega)
     subst he0
     have HR3 : Hid (R = (errsR (Un.facts L) [] rs).take 20) := by
      show _ = _
      rw [HR2.out, if_pos]
      have h2 := HE2.out
      cases h3 : errsD [] L with
      | nil => rfl
      | cons a b => rw [h3] at h2; simp at h2
     clear HR2 HE2 hz2 hp hz hg hi hiL D0
     go_wp2_with fail
     have X3a := X3
     go_loopg [4, 7] rs.length (fun g v4 v7 wr => ∃ (i : Nat) (q : Option Addr) (cap : Nat) (es : List (Int × Int)), i ≤ rs.length ∧ rs.length - i ≤ g ∧ v7 = .int .i64 (i : Nat) ∧ v4 = .slice q es.length cap ∧ Hid (es = (errsR (Un.facts L) [] (rs.take i)).take 20) ∧ Hid (DgO wr V1.heap.size (.slice q es.length cap) es) ∧ Hid (RowKit.Below w.heap.size w wr) ∧ Hid (BoxL wr w.heap.size [.slice pd L.length cd, .slice pr rs.length cr]))
     case atStart => exact ⟨0, q, cap, [], Nat.zero_le _, by omega, by simp, rfl, by show _ = _; simp [errsR], HD, HW, X3⟩
     case round =>
      clear HD HW X3 X3a
      obtain ⟨i, q, cap, es, hi, hg, rfl, rfl, HE, HD, HW, X3⟩ := hrel
      obtain ⟨c1, -⟩ := X3.out 1 _ rfl
      by_cases hlt : i < rs.length
      ·have hz : (i : Int) < (rs.length : Int) := by omega
       have KQ := Lib.hid (KR2.out i hlt _ HW.out)
       have E3 := Lib.hid (rR_take (fs := Un.facts L) (fun t e p h => by rcases fnd_ne t e p h with h | h <;> omega) rs HKK.out i hlt)
       generalize ruleR (Un.facts L) (before (rs.take i) rs[i]) rs[i] = D at *
       obtain ⟨pl, E⟩ := D
       dsimp only at KQ E3
       go_wp2_with ((with_reducible show wpList _ _ _ ({ dst := some 55, op := _, type := _, pos := _, after := _, guard := _ } :: _) _ _); refine wl_loadP rfl rfl rfl (load_row 25 2 (by kernel_rfl) (by kernel_rfl) _ _ [.slice pd L.length cd, .slice pr rs.length cr] rfl (fun j v hv => (X3.out j v hv).1)) ?_; simp only [Act.put, zA, zB, zC])
       refine KQ.out.mono ?_
       rintro _ V2 ⟨rfl, hb⟩
       have HW2 := Lib.hid (HW.out.trans (hb.mono HW.out.size))
       have HD2 := Lib.hid (HD.out.bel hb)
       have X4 := Lib.hid (X3.out.bel (by simp) hb)
       have hes : es.length ≤ 20 := by rw [HE.out, List.length_take]; omega
       have e2 : IntKind.i64.wrap ((i : Int) + 1) = ((i + 1 : Nat) : Int) := by rw [IntWalk.i64_in _ (by omega)]; rfl
       clear hb KQ HW HD X3 c1
       by_cases h0 : E = 0
       ·have HE2 : Hid (es = (errsR (Un.facts L) [] (rs.take (i + 1))).take 20) := by show _ = _; rw [E3.out, if_pos h0, List.append_nil]; exact HE.out
        subst h0
        clear E3 HE
        go_wp2_with ((with_reducible show wpList _ _ _ ({ dst := some 8, op := _, type := _, pos := _, after := _, guard := _ } :: _) _ _); refine wl_dbox (L := [.int .i64 pl, .int .i64 0]) rfl rfl rfl rfl rfl (by simp [Value.oneCell']) rfl rfl ?_; intro V3 hb hs hx; have HW3 := Lib.hid (HW2.out.trans (hb.mono HW2.out.size)); have HD3 := Lib.hid (HD2.out.bel hb); have X5 := Lib.hid (X4.out.bel (by simp) hb); have X8 := Lib.hid hx; clear hb hx HD2 HW2 X4; obtain ⟨k1, -⟩ := X8.out 1 _ rfl; generalize V2.heap.size = b8 at *; simp only [Act.put, zA, zB, zC])
        go_roundg (rs.length - (i + 1))
        case measure => omega
        case rel => exact ⟨i + 1, q, cap, es, by omega, Nat.le_refl _, by simp, rfl, HE2, HD3, HW3, X5⟩
       have h0b : (E == 0) = false := beq_eq_false_iff_ne.2 h0
       by_cases h20 : es.length < 20
       ·have hz2 : (es.length : Int) < 20 := by omega
        have HE2 : Hid (es ++ [(pl, E)] = (errsR (Un.facts L) [] (rs.take (i + 1))).take 20) := by show _ = _; rw [E3.out, if_neg h0, take_more, ← HE.out, if_pos h20]
        clear E3 HE
        go_wp2_with (first | ((with_reducible show wpList _ _ _ ({ dst := some 8, op := _, type := _, pos := _, after := _, guard := _ } :: _) _ _); refine wl_dbox (L := [.int .i64 pl, .int .i64 E]) rfl rfl rfl rfl rfl (by simp [Value.oneCell']) rfl rfl ?_; intro V3 hb hs hx; have HW3 := Lib.hid (HW2.out.trans (hb.mono HW2.out.size)); have HD3 := Lib.hid (HD2.out.bel hb); have X5 := Lib.hid (X4.out.bel (by simp) hb); have X8 := Lib.hid hx; clear hb hx HD2 HW2 X4; obtain ⟨k1, -⟩ := X8.out 1 _ rfl; obtain ⟨q', cap', V8, hra, hd, hs8, g1, g2, g3, hk⟩ := HD3.out.app (by omega) pl E 41; have hw8 : RowKit.Below (w.heap.size + 1) V3 V8 := (⟨g1, g2, g3, hs8, fun j hj => hk j (by have := HW3.out.size; have := HD3.out.bs; omega) (fun e => by have := HD3.out.lt j e; omega)⟩); have HW4 := Lib.hid (HW3.out.trans (hw8.mono (by omega))); have X6 := Lib.hid (X5.out.of (hw8.block w.heap.size (by omega))); have HD4 := Lib.hid hd; rw [hs] at hra; clear hd hs8 g1 g2 g3 hk hw8 HD3; generalize V2.heap.size = b8 at *; simp only [Act.put, zA, zB, zC]) | ((with_reducible show wpList _ _ _ ({ dst := some 67, op := _, type := _, pos := _, after := _, guard := _ } :: _) _ _); refine wl_loadP rfl rfl rfl (load_row 66 2 (by kernel_rfl) (by kernel_rfl) _ _ [.int .i64 pl, .int .i64 E] rfl (fun j v hv => (X8.out j v hv).1)) ?_; simp only [Act.put, zA, zB, zC]) | ((with_reducible show wpList _ _ _ ({ dst := some 69, op := _, type := _, pos := _, after := _, guard := _ } :: _) _ _); refine wl_app (.tmp 66) (.tmp 68) rfl rfl rfl rfl hra ?_))
        clear hra
        go_roundg (rs.length - (i + 1))
        case measure => omega
        case rel => exact ⟨i + 1, q', cap', es ++ [(pl, E)], by omega, Nat.le_refl _, by simp, by simp, HE2, HD4, HW4, X6⟩
       ·have hz2 : ¬ (es.length : Int) < 20 := by omega
        have HE2 : Hid (es = (errsR (Un.facts L) [] (rs.take (i + 1))).take 20) := by show _ = _; rw [E3.out, if_neg h0, take_more, ← HE.out, if_neg h20]
        clear E3 HE
        go_wp2_with ((with_reducible show wpList _ _ _ ({ dst := some 8, op := _, type := _, pos := _, after := _, guard := _ } :: _) _ _); refine wl_dbox (L := [.int .i64 pl, .int .i64 E]) rfl rfl rfl rfl rfl (by simp [Value.oneCell']) rfl rfl ?_; intro V3 hb hs hx; have HW3 := Lib.hid (HW2.out.trans (hb.mono HW2.out.size)); have HD3 := Lib.hid (HD2.out.bel hb); have X5 := Lib.hid (X4.out.bel (by simp) hb); have X8 := Lib.hid hx; clear hb hx HD2 HW2 X4; obtain ⟨k1, -⟩ := X8.out 1 _ rfl; generalize V2.heap.size = b8 at *; simp only [Act.put, zA, zB, zC])
        go_roundg (rs.length - (i + 1))
        case measure => omega
        case rel => exact ⟨i + 1, q, cap, es, by omega, Nat.le_refl _, by simp, rfl, HE2, HD3, HW3, X5⟩
      ·have hz : ¬ (i : Int) < (rs.length : Int) := by omega
       have hiL : i = rs.length := by omega
       have HR4 : Hid (R = es) := by show _ = _; rw [HR3.out, HE.out, hiL, List.take_length]
       go_wp2_with fail
       go_ret
       exact ⟨_, rfl, by rw [HR4.out]; exact HD.out.dm, HW.out⟩
end Go.Proofs.Ytoaonficdkgfiaa
