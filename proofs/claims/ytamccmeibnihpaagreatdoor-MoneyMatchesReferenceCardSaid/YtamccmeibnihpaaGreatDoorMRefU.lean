/-
  The walk of the reference's Split.
-/
import Derived.Test.YtamccmeibnihpaaGreatDoorMRefS
import Derived.Test.YtamccmeibnihpaaGreatDoorMWalks2
namespace Go.Proofs.YtamccmeibnihpaaGreatDoor
open Go.RowKit Go.Lib Go.Sort Go.Shelf Go.Proofs.YtamccmeibnihpaaGreatDoor.MSort
variable {n : Nat}

/-- One more of the order is taken. -/
theorem ord_step2 {n : Nat} (c W : Int) (l : List Int) (r : Rests n) (j : Nat) (hjl : j < (ordL r).length) (k : Nat) :
    gj c W l (((ordL r).take (j + 1)).map (·.val)) k = gj c W l (((ordL r).take j).map (·.val)) k + if k = ((ordL r)[j]).val then sgn c else 0 := by
  rw [List.take_succ_eq_append_getElem hjl, List.map_append, List.map_cons, List.map_nil]
  refine gj_step c W l _ _ k ?_
  intro hm
  obtain ⟨y, hy, hye⟩ := List.mem_map.1 hm
  have hyx : y = (ordL r)[j] := Fin.ext hye
  have hn := ordL_nodup r
  rw [hyx] at hy
  obtain ⟨i, hi, hie⟩ := List.mem_iff_getElem.1 hy
  rw [List.getElem_take] at hie
  have hi2 : i < j := by simp at hi; omega
  exact (List.pairwise_iff_getElem.1 hn) i j (by omega) hjl hi2 hie
theorem gr_ord {n : Nat} (r : Nat → Int) (R : Rests n) (j : Nat) (hjl : j < (ordL R).length) (k : Nat) :
    gr r (((ordL R).take (j + 1)).map (·.val)) k = if k = ((ordL R)[j]).val then -1 else gr r (((ordL R).take j).map (·.val)) k := by
  rw [List.take_succ_eq_append_getElem hjl, List.map_append, List.map_cons, List.map_nil, gr_step]

set_option maxHeartbeats 4000000 in
set_option maxRecDepth 100000 in
theorem rsplit_p (s W : Int) (l : List Int) (b off cap sz : Nat) (w : World) (hl : l.length = sz) (hsz : sz = n + 1) (h64 : sz ≤ 64) (hok : l.all wok = true) (hW : l.sum = W) (hw : whole l = W) (hW0 : 0 < W) (hW1 : W ≤ 64000000) (c0 : 0 ≤ s) (c1 : s ≤ 1000000000) (hA : At w b off l) (hb : b < w.heap.size) :
    Calls Tryz.prog 11 #[.int .i64 s, .slice (some ⟨b, off, none⟩) sz cap] w fun e w' =>
      ∃ blk, e = .returned (.tuple #[.slice (some ⟨blk, 0, none⟩) sz sz, .int .i64 0]) ∧ At w' blk 0 (partL s W l n) ∧ w.heap.size ≤ blk ∧ blk < w'.heap.size ∧ RowKit.Below w.heap.size w w' := by
  have HL : Hid (l.length = sz) := hl
  have HS : Hid (sz = n + 1) := hsz
  have HA : Aside (At w b off l) := hA
  have HO : Hid (l.all wok = true) := hok
  have HW : Hid (l.sum = W) := hW
  have hs1 : 1 ≤ sz := by omega
  have s0 : 0 ≤ s := by omega
  have hmk := run_make_row' (P := Tryz.prog) 22 3 (.int .i64 0) 8 Tryz.underlying22 info_int rfl .i64 .i64 sz (by omega) (by omega)
  have KW := Lib.hid (fun w : World => fun (h : At w b off l) => rwhole_any l (some ⟨b, off, none⟩) b off cap sz w hl (fun _ => rfl) h (by omega))
  rw [hw] at KW
  have hca : ∀ w : World, Calls Tryz.prog 19 #[.int .i64 s] w fun e w' => e = .returned (.bool true) ∧ w = w' := fun w => by rw [← (amt_iff s).2 (by omega)]; exact ramount_any s w
  have K := Lib.hid hca
  have hWn : (W == 0) = false := by simp; omega
  have hcn : decide (s < 0) = false := decide_eq_false (by omega)
  obtain ⟨m0, m1, m2⟩ := miss_pos s W l (by omega) hW hW0 hok
  have m3 := miss_le s W l hW hW0
  obtain ⟨mm, hmm⟩ : ∃ mm : Nat, (mm : Int) = miss s W l := ⟨(miss s W l).toNat, by omega⟩
  have hmk2 : mm ≤ sz := by omega
  have HSG : Hid (0 < mm → sgn s = 1) := fun h => m2 (by omega)
  have HUP : Hid (upL s W l n = (ordL (rsR s W l n)).take mm) := by show _ = _; unfold upL; rw [m1, ← hmm]; rfl
  have HMM : Hid ((mm : Int) = miss s W l) := hmm
  clear hl hsz hA hok hW hw hca m0 m1 m2 m3 hmm
  go_enter Tryz.func11, Tryz.ntmps11
  go_wp2_with fail
  refine (K.out _).mono ?_
  rintro e w' ⟨rfl, rfl⟩
  go_wp2_with fail
  refine (KW.out _ HA.out).mono ?_
  rintro e w' ⟨rfl, rfl⟩
  go_wp2
  clear hmk
  have b0 : Buf ((w.alloc (.cells (madeCells #[.int .i64 0] sz) 3)).alloc (.cells (madeCells #[.int .i64 0] sz) 3)) w.heap.size sz 0 (fun k => pq s W (l.getD k 0)) := (Buf.made w sz _).below ((RowKit.Below.refl _ _).alloc (Nat.le_refl _) _) (by simp)
  have b1 : Buf ((w.alloc (.cells (madeCells #[.int .i64 0] sz) 3)).alloc (.cells (madeCells #[.int .i64 0] sz) 3)) (w.heap.size + 1) sz 0 (fun k => pr s W (l.getD k 0)) := by
    have := (Buf.made (w.alloc (.cells (madeCells #[.int .i64 0] sz) 3)) sz (fun k => pr s W (l.getD k 0)))
    simpa using this
  have HB0 : Aside (RowKit.Below w.heap.size w ((w.alloc (.cells (madeCells #[.int .i64 0] sz) 3)).alloc (.cells (madeCells #[.int .i64 0] sz) 3))) := ((((RowKit.Below.refl _ _).alloc (Nat.le_refl _) _).alloc (by simp) _))
  have BA : Aside (Buf _ w.heap.size sz 0 (fun k => pq s W (l.getD k 0))) := b0
  have BB : Aside (Buf _ (w.heap.size + 1) sz 0 (fun k => pr s W (l.getD k 0))) := b1
  clear b0 b1
  generalize ((w.alloc (.cells (madeCells #[.int .i64 0] sz) 3)).alloc (.cells (madeCells #[.int .i64 0] sz) 3)) = W1 at BA BB HB0 ⊢
  go_loopg [11, 12] sz (fun kx vm vi wr => ∃ (k : Nat) (m : Int), vi = .int .i64 k ∧ vm = .int .i64 m ∧ k ≤ sz ∧ sz - k ≤ kx ∧ Hid (m = s - ((l.take k).map (pq s W)).sum) ∧ -(1000000000 + (k : Int) * 1000000000000000) ≤ m ∧ m ≤ 1000000000 + (k : Int) * 1000000000000000 ∧ Aside (Buf wr w.heap.size sz k (fun k => pq s W (l.getD k 0))) ∧ Aside (Buf wr (w.heap.size + 1) sz k (fun k => pr s W (l.getD k 0))) ∧ Aside (RowKit.Below w.heap.size w wr))
  case atStart => exact ⟨0, s, rfl, rfl, by omega, by omega, (show _ = _ by simp), by omega, by omega, BA, BB, HB0⟩
  case round =>
    clear BA BB HB0
    obtain ⟨k, m, rfl, rfl, hk, hkx, HM, hm0, hm1, BA, BB, HB⟩ := hrel
    by_cases hlt : k < sz
    · have hltz : (k : Int) < (sz : Int) := by omega
      have p0 : (0 : Int) ≤ (k : Int) := by omega
      have hkl : k < l.length := by rw [HL.out]; exact hlt
      obtain ⟨x, hx⟩ : ∃ x, x = l[k] := ⟨_, rfl⟩
      have hc := (HB.out.cell (p := ⟨b, off + k, none⟩) hb).trans (HA.out k hkl)
      rw [← hx] at hc
      have F := step_facts s W l k hkl HO.out hW0 hW1 (by omega) c1
      rw [← hx] at F
      obtain ⟨ex, q, rr, e1, e2, e3, e4, F⟩ := F
      obtain ⟨x0, x1, q0, q1, r0, r1⟩ := F
      have E4 : Hid (pq s W l[k] = q) := by rw [← hx]; exact e4
      have E5 : Hid (pr s W l[k] = rr) := by
        show pr s W l[k] = rr
        rw [(rem_pos s W l[k] s0 ((wok_iff _).1 (List.all_eq_true.1 HO.out l[k] (List.getElem_mem hkl))).1).1, ← hx, e1, e3]
      obtain ⟨va, ca, _⟩ := BA.out.cell k hlt
      obtain ⟨vb, cb, _⟩ := BB.out.cell k hlt
      have fa := BA.out.free k hlt
      have fb := BB.out.free k hlt
      have cb2 : ∀ v : Value, (wr.setCell ⟨w.heap.size, k, none⟩ v).cell? ⟨(w.heap.size + 1), k, none⟩ = some vb := fun v => (World.cell?_setCell_other _ _ _ _ (by intro e'; simp only [Addr.mk.injEq] at e'; omega)).trans cb
      have cb3 := cb2 (.int .i64 q)
      have ca2 : ((wr.setCell ⟨w.heap.size, k, none⟩ (.int .i64 q)).setCell ⟨(w.heap.size + 1), k, none⟩ (.int .i64 rr)).cell? ⟨w.heap.size, k, none⟩ = some (.int .i64 q) := (World.cell?_setCell_other _ _ _ _ (by intro e'; simp only [Addr.mk.injEq] at e'; omega)).trans (World.cell?_setCell_same _ _ _ ca)
      have rq : IntKind.i64.wrap q = q := by rw [IntKind.wrap_i64]; omega
      have rrr : IntKind.i64.wrap rr = rr := by rw [IntKind.wrap_i64]; omega
      have hcw : (wr.setCell ⟨w.heap.size, k, none⟩ (.int .i64 q)).cell? ⟨b, off + k, none⟩ = some (.int .i64 x) := (World.cell?_setCell_other _ _ _ _ (by intro e'; simp only [Addr.mk.injEq] at e'; omega)).trans hc
      clear cb2 hx e4
      go_wp2_with fail
      have BA2 := (((BA.out.set (v := q) (by rw [List.getD_eq_getElem?_getD, List.getElem?_eq_getElem hkl]; exact E4.out.symm)).other (B := (w.heap.size + 1)) (o := k) (v := .int .i64 rr) (by omega)))
      have BB2 := (((BB.out.other (B := w.heap.size) (o := k) (v := .int .i64 q) (by omega)).set (v := rr) (by rw [List.getD_eq_getElem?_getD, List.getElem?_eq_getElem hkl]; exact E5.out.symm)))
      have HB2 : Aside (RowKit.Below w.heap.size w _) := ((HB.out.setCell (p := ⟨w.heap.size, k, none⟩) (by simp) (.int .i64 q)).setCell (p := ⟨(w.heap.size + 1), k, none⟩) (by simp) (.int .i64 rr))
      have KA : Aside _ := BA2
      have KB : Aside _ := BB2
      have HM2 : Hid (m - q = s - ((l.take (k + 1)).map (pq s W)).sum) := by
        show _ = _
        rw [List.take_succ_eq_append_getElem hkl, List.map_append, List.sum_append, HM.out]
        simp only [List.map_cons, List.map_nil, List.sum_cons, List.sum_nil]
        rw [E4.out]; omega
      clear BA2 BB2 HM E4 E5 BA BB HB ca cb cb3 ca2 fa fb hcw hc
      generalize ((wr.setCell ⟨w.heap.size, k, none⟩ (.int .i64 q)).setCell ⟨(w.heap.size + 1), k, none⟩ (.int .i64 rr)) = W2 at KA KB HB2 ⊢
      go_roundg (sz - (k + 1))
      case measure => omega
      case rel => exact ⟨k + 1, m - q, by go_num, rfl, by omega, by omega, HM2, by omega, by omega, KA, KB, HB2⟩
    · have hltz : ¬ (k : Int) < (sz : Int) := by omega
      have hks : k = sz := by omega
      have HMz : m = (mm : Int) := by
        rw [HMM.out, HM.out, List.take_of_length_le (by rw [HL.out]; omega)]; rfl
      subst hks
      subst HMz
      have BA2 : Aside (Buf wr w.heap.size k k (gj s W l (((ordL (rsR s W l n)).take 0).map (·.val)))) := BA.out.congr (fun j _ => by rw [List.take_zero, List.map_nil, gj_nil])
      have BB2 : Aside (Buf wr (w.heap.size + 1) k k (gr (fun k => pr s W (l.getD k 0)) (((ordL (rsR s W l n)).take 0).map (·.val)))) := BB.out.congr (fun j _ => by rw [List.take_zero, List.map_nil, gr_nil])
      clear HM BA BB hm0 hm1
      go_wp2
      go_loopg [11] mm (fun kx vl wr => ∃ (j : Nat), vl = .int .i64 ((mm : Int) - (j : Int)) ∧ j ≤ mm ∧ mm - j ≤ kx ∧ Aside (Buf wr w.heap.size k k (gj s W l (((ordL (rsR s W l n)).take j).map (·.val)))) ∧ Aside (Buf wr (w.heap.size + 1) k k (gr (fun k => pr s W (l.getD k 0)) (((ordL (rsR s W l n)).take j).map (·.val)))) ∧ Aside (RowKit.Below w.heap.size w wr))
      case atStart => exact ⟨0, by go_num, by omega, by omega, BA2, BB2, HB⟩
      case round =>
        clear BA2 BB2 HB
        obtain ⟨j, rfl, hj, hjx, BA, BB, HB⟩ := hrel
        by_cases hlt2 : j < mm
        · have hltz2 : (0 : Int) < (mm : Int) - (j : Int) := by omega
          have hjl : j < (ordL (rsR s W l n)).length := by rw [ordL_length]; have := HS.out; omega
          obtain ⟨xN, hxN⟩ : ∃ q, q = ((ordL (rsR s W l n))[j]).val := ⟨_, rfl⟩
          have hxk : xN < k := by rw [hxN, HS.out]; exact (ordL (rsR s W l n))[j].isLt
          have hbo : bst (gr (fun k => pr s W (l.getD k 0)) (((ordL (rsR s W l n)).take j).map (·.val))) k = xN := by
            rw [hxN, HS.out]
            exact best_ord (rsR s W l n) (fun k => pr s W (l.getD k 0)) (fun _ => rfl) (fun x => by unfold rsR pr ab; split <;> omega) j hjl
          have HXN : Hid (xN = ((ordL (rsR s W l n))[j]).val) := hxN
          obtain ⟨G, hG⟩ : ∃ G, G = gr (fun k => pr s W (l.getD k 0)) (((ordL (rsR s W l n)).take j).map (·.val)) := ⟨_, rfl⟩
          rw [← hG] at BB hbo
          have HG : Hid (G = gr (fun k => pr s W (l.getD k 0)) (((ordL (rsR s W l n)).take j).map (·.val))) := hG
          have HBO : Hid (bst G k = xN) := hbo
          clear hG hbo hxN
          rename World => wo
          go_wp2
          go_loopg [13, 14] k (fun kx vb vi WW => ∃ (i : Nat), vi = .int .i64 i ∧ vb = .int .i64 (bst G i) ∧ 1 ≤ i ∧ i ≤ k ∧ k - i ≤ kx ∧ Aside (∃ q, WW = wo.drewN q))
          case atStart => exact ⟨1, rfl, by rw [bst_one]; rfl, by omega, by omega, by omega, (⟨0, rfl⟩ : ∃ q, wo = wo.drewN q)⟩
          case round =>
            obtain ⟨i, rfl, rfl, hi1, hik, hix, HQ⟩ := hrel
            by_cases hlt3 : i < k
            · have hltz3 : (i : Int) < (k : Int) := by omega
              have pi : (0 : Int) ≤ (i : Int) := by omega
              obtain ⟨hb1, _, _⟩ := bst_spec G i hi1
              obtain ⟨v1, cv1, hv1⟩ := BB.out.cell i hlt3
              have hv1 := hv1 hlt3
              subst hv1
              obtain ⟨v2, cv2, hv2⟩ := BB.out.cell (bst G i) (by omega)
              have hv2 := hv2 (by omega)
              subst hv2
              have HN : Hid (bst G (i + 1) = if G (bst G i) < G i then i else bst G i) := rfl
              generalize bst G i = be at HN cv2 hb1 ⊢
              have pb : (0 : Int) ≤ (be : Int) := by omega
              have bb : (be : Int) < (k : Int) := by omega
              obtain ⟨y1, hy1⟩ : ∃ y, y = G i := ⟨_, rfl⟩
              obtain ⟨y2, hy2⟩ : ∃ y, y = G be := ⟨_, rfl⟩
              rw [← hy1] at cv1 HN
              rw [← hy2] at cv2 HN
              clear hy1 hy2
              have g1 : wr.cell? ⟨w.heap.size + 1, i, none⟩ = some (.int .i64 y1) := by obtain ⟨q, hq⟩ := HQ.out; rw [hq]; exact cv1
              have g2 : wr.cell? ⟨w.heap.size + 1, be, none⟩ = some (.int .i64 y2) := by obtain ⟨q, hq⟩ := HQ.out; rw [hq]; exact cv2
              clear cv1 cv2
              by_cases hyy : y2 < y1
              · have HN2 : Hid (bst G (i + 1) = i) := by show _ = _; rw [HN.out, if_pos hyy]
                clear HN
                go_wp2_with fail
                go_quiet (fail)
                have HQ2 : Aside (∃ q, wr.drewN nq = wo.drewN q) := by obtain ⟨q, hq⟩ := HQ.out; exact ⟨q + nq, by rw [hq, World.drewN_drewN]⟩
                clear g1 g2 HQ
                generalize wr.drewN nq = w2 at HQ2 ⊢
                go_wp2
                go_roundg (k - (i + 1))
                case measure => omega
                case rel => exact ⟨i + 1, by go_num, by rw [HN2.out], by omega, by omega, by omega, HQ2⟩
              · have HN2 : Hid (bst G (i + 1) = be) := by show _ = _; rw [HN.out, if_neg hyy]
                clear HN
                go_wp2_with fail
                go_quiet (fail)
                have HQ2 : Aside (∃ q, wr.drewN nq = wo.drewN q) := by obtain ⟨q, hq⟩ := HQ.out; exact ⟨q + nq, by rw [hq, World.drewN_drewN]⟩
                clear g1 g2 HQ
                generalize wr.drewN nq = w2 at HQ2 ⊢
                go_wp2
                go_roundg (k - (i + 1))
                case measure => omega
                case rel => exact ⟨i + 1, by go_num, by rw [HN2.out], by omega, by omega, by omega, HQ2⟩
            · have hltz3 : ¬ (i : Int) < (k : Int) := by omega
              have hie : i = k := by omega
              subst hie
              rw [HBO.out]
              have BA : Aside (Buf wr w.heap.size i i (gj s W l (((ordL (rsR s W l n)).take j).map (·.val)))) := by obtain ⟨q, hq⟩ := HQ.out; rw [hq]; exact ⟨BA.out.cell, BA.out.free, BA.out.lt⟩
              have BB : Aside (Buf wr (w.heap.size + 1) i i G) := by obtain ⟨q, hq⟩ := HQ.out; rw [hq]; exact ⟨BB.out.cell, BB.out.free, BB.out.lt⟩
              have HB : Aside (RowKit.Below w.heap.size w wr) := by obtain ⟨q, hq⟩ := HQ.out; rw [hq]; exact below_drewN HB.out q
              obtain ⟨v, cv, hv⟩ := BA.out.cell xN hxk
              have hv2 := hv hxk
              obtain ⟨gv, hgv⟩ : ∃ gv, gv = gj s W l (((ordL (rsR s W l n)).take j).map (·.val)) xN := ⟨_, rfl⟩
              rw [← hgv] at hv2
              subst hv2
              have hgb := gj_bounds s W l (((ordL (rsR s W l n)).take j).map (·.val)) xN (by rw [HL.out]; exact hxk) HO.out hW0 hW1 (by omega) c1
              rw [← hgv] at hgb
              have fv := BA.out.free xN hxk
              obtain ⟨vb, cb, _⟩ := BB.out.cell xN hxk
              have fb := BB.out.free xN hxk
              have cb2 : (wr.setCell ⟨w.heap.size, xN, none⟩ (.int .i64 (gv + 1))).cell? ⟨(w.heap.size + 1), xN, none⟩ = some vb := (World.cell?_setCell_other _ _ _ _ (by intro e'; simp only [Addr.mk.injEq] at e'; omega)).trans cb
              have px : (0 : Int) ≤ (xN : Int) := by omega
              have bx : (xN : Int) < (i : Int) := by omega
              have HGV : Hid (gv = gj s W l (((ordL (rsR s W l n)).take j).map (·.val)) xN) := hgv
              clear hgv hv
              go_wp2
              have P2 := (BA.out.put (x := xN) (v := gv + 1) (g' := gj s W l (((ordL (rsR s W l n)).take (j + 1)).map (·.val))) (by
                rw [ord_step2 s W l _ j hjl, ← HGV.out, if_pos HXN.out, HSG.out (by omega)]) (fun t _ hne => by
                rw [ord_step2 s W l _ j hjl, if_neg (by rw [← HXN.out]; exact hne)]; omega)).other (B := (w.heap.size + 1)) (o := xN) (v := .int .i64 (-1)) (by omega)
              have P3 := (BB.out.other (B := w.heap.size) (o := xN) (v := .int .i64 (gv + 1)) (by omega)).put (x := xN) (v := -1) (g' := gr (fun k => pr s W (l.getD k 0)) (((ordL (rsR s W l n)).take (j + 1)).map (·.val))) (by
                rw [gr_ord _ _ j hjl, if_pos HXN.out]) (fun t _ hne => by
                rw [gr_ord _ _ j hjl, if_neg (by rw [← HXN.out]; exact hne), HG.out])
              have KA : Aside _ := P2
              have KB : Aside _ := P3
              have HB3 : Aside (RowKit.Below w.heap.size w _) := ((HB.out.setCell (p := ⟨w.heap.size, xN, none⟩) (by simp) (.int .i64 (gv + 1))).setCell (p := ⟨(w.heap.size + 1), xN, none⟩) (by simp) (.int .i64 (-1)))
              clear P2 P3 BA BB HB cv fv cb fb cb2
              generalize ((wr.setCell ⟨w.heap.size, xN, none⟩ (.int .i64 (gv + 1))).setCell ⟨(w.heap.size + 1), xN, none⟩ (.int .i64 (-1))) = W3 at KA KB HB3 ⊢
              go_roundg (mm - (j + 1))
              case measure => omega
              case rel => exact ⟨j + 1, by go_num, by omega, by omega, KA, KB, HB3⟩
        · have hltz2 : ¬ (0 : Int) < (mm : Int) - (j : Int) := by omega
          have hjm : j = mm := by omega
          subst hjm
          have hAt : At wr w.heap.size 0 (partL s W l n) := by
            intro t ht
            rw [partL_get, Nat.zero_add, HUP.out]
            obtain ⟨v, cv, hv⟩ := BA.out.cell t (by rw [← HL.out, ← partL_length s W l n]; exact ht)
            rw [cv, hv (by rw [← HL.out, ← partL_length s W l n]; exact ht)]
          have AT : Aside (At wr w.heap.size 0 (partL s W l n)) := hAt
          clear hAt BB
          go_wp2
          go_ret2
          exact ⟨_, rfl, AT.out, by omega, BA.out.lt, HB.out⟩

set_option maxHeartbeats 4000000 in
set_option maxRecDepth 100000 in
theorem rsplit_n (s W : Int) (l : List Int) (b off cap sz : Nat) (w : World) (hl : l.length = sz) (hsz : sz = n + 1) (h64 : sz ≤ 64) (hok : l.all wok = true) (hW : l.sum = W) (hw : whole l = W) (hW0 : 0 < W) (hW1 : W ≤ 64000000) (c0 : 0 < s) (c1 : s ≤ 1000000000) (hA : At w b off l) (hb : b < w.heap.size) :
    Calls Tryz.prog 11 #[.int .i64 (-s), .slice (some ⟨b, off, none⟩) sz cap] w fun e w' =>
      ∃ blk, e = .returned (.tuple #[.slice (some ⟨blk, 0, none⟩) sz sz, .int .i64 0]) ∧ At w' blk 0 (partL (-s) W l n) ∧ w.heap.size ≤ blk ∧ blk < w'.heap.size ∧ RowKit.Below w.heap.size w w' := by
  have HL : Hid (l.length = sz) := hl
  have HS : Hid (sz = n + 1) := hsz
  have HA : Aside (At w b off l) := hA
  have HO : Hid (l.all wok = true) := hok
  have HW : Hid (l.sum = W) := hW
  have hs1 : 1 ≤ sz := by omega
  have s0 : 0 ≤ s := by omega
  have hmk := run_make_row' (P := Tryz.prog) 22 3 (.int .i64 0) 8 Tryz.underlying22 info_int rfl .i64 .i64 sz (by omega) (by omega)
  have KW := Lib.hid (fun w : World => fun (h : At w b off l) => rwhole_any l (some ⟨b, off, none⟩) b off cap sz w hl (fun _ => rfl) h (by omega))
  rw [hw] at KW
  have hca : ∀ w : World, Calls Tryz.prog 19 #[.int .i64 (-s)] w fun e w' => e = .returned (.bool true) ∧ w = w' := fun w => by rw [← (amt_iff (-s)).2 (by omega)]; exact ramount_any (-s) w
  have K := Lib.hid hca
  have hWn : (W == 0) = false := by simp; omega
  have hcn : decide ((-s) < 0) = true := decide_eq_true (by omega)
  obtain ⟨m0, m1, m2⟩ := miss_pos s W l (by omega) hW hW0 hok
  have m3 := miss_le s W l hW hW0
  obtain ⟨mm, hmm⟩ : ∃ mm : Nat, (mm : Int) = miss s W l := ⟨(miss s W l).toNat, by omega⟩
  have hmk2 : mm ≤ sz := by omega
  have HSG : Hid (0 < mm → sgn s = 1) := fun h => m2 (by omega)
  have HUP : Hid (upL s W l n = (ordL (rsR s W l n)).take mm) := by show _ = _; unfold upL; rw [m1, ← hmm]; rfl
  have HMM : Hid ((mm : Int) = miss s W l) := hmm
  clear hl hsz hA hok hW hw hca m0 m1 m2 m3 hmm
  go_enter Tryz.func11, Tryz.ntmps11
  go_wp2_with fail
  refine (K.out _).mono ?_
  rintro e w' ⟨rfl, rfl⟩
  go_wp2_with fail
  refine (KW.out _ HA.out).mono ?_
  rintro e w' ⟨rfl, rfl⟩
  go_wp2
  clear hmk
  have b0 : Buf ((w.alloc (.cells (madeCells #[.int .i64 0] sz) 3)).alloc (.cells (madeCells #[.int .i64 0] sz) 3)) w.heap.size sz 0 (fun k => pq s W (l.getD k 0)) := (Buf.made w sz _).below ((RowKit.Below.refl _ _).alloc (Nat.le_refl _) _) (by simp)
  have b1 : Buf ((w.alloc (.cells (madeCells #[.int .i64 0] sz) 3)).alloc (.cells (madeCells #[.int .i64 0] sz) 3)) (w.heap.size + 1) sz 0 (fun k => pr s W (l.getD k 0)) := by
    have := (Buf.made (w.alloc (.cells (madeCells #[.int .i64 0] sz) 3)) sz (fun k => pr s W (l.getD k 0)))
    simpa using this
  have HB0 : Aside (RowKit.Below w.heap.size w ((w.alloc (.cells (madeCells #[.int .i64 0] sz) 3)).alloc (.cells (madeCells #[.int .i64 0] sz) 3))) := ((((RowKit.Below.refl _ _).alloc (Nat.le_refl _) _).alloc (by simp) _))
  have BA : Aside (Buf _ w.heap.size sz 0 (fun k => pq s W (l.getD k 0))) := b0
  have BB : Aside (Buf _ (w.heap.size + 1) sz 0 (fun k => pr s W (l.getD k 0))) := b1
  clear b0 b1
  generalize ((w.alloc (.cells (madeCells #[.int .i64 0] sz) 3)).alloc (.cells (madeCells #[.int .i64 0] sz) 3)) = W1 at BA BB HB0 ⊢
  go_loopg [11, 12] sz (fun kx vm vi wr => ∃ (k : Nat) (m : Int), vi = .int .i64 k ∧ vm = .int .i64 m ∧ k ≤ sz ∧ sz - k ≤ kx ∧ Hid (m = s - ((l.take k).map (pq s W)).sum) ∧ -(1000000000 + (k : Int) * 1000000000000000) ≤ m ∧ m ≤ 1000000000 + (k : Int) * 1000000000000000 ∧ Aside (Buf wr w.heap.size sz k (fun k => pq s W (l.getD k 0))) ∧ Aside (Buf wr (w.heap.size + 1) sz k (fun k => pr s W (l.getD k 0))) ∧ Aside (RowKit.Below w.heap.size w wr))
  case atStart => exact ⟨0, s, rfl, rfl, by omega, by omega, (show _ = _ by simp), by omega, by omega, BA, BB, HB0⟩
  case round =>
    clear BA BB HB0
    obtain ⟨k, m, rfl, rfl, hk, hkx, HM, hm0, hm1, BA, BB, HB⟩ := hrel
    by_cases hlt : k < sz
    · have hltz : (k : Int) < (sz : Int) := by omega
      have p0 : (0 : Int) ≤ (k : Int) := by omega
      have hkl : k < l.length := by rw [HL.out]; exact hlt
      obtain ⟨x, hx⟩ : ∃ x, x = l[k] := ⟨_, rfl⟩
      have hc := (HB.out.cell (p := ⟨b, off + k, none⟩) hb).trans (HA.out k hkl)
      rw [← hx] at hc
      have F := step_facts s W l k hkl HO.out hW0 hW1 (by omega) c1
      rw [← hx] at F
      obtain ⟨ex, q, rr, e1, e2, e3, e4, F⟩ := F
      obtain ⟨x0, x1, q0, q1, r0, r1⟩ := F
      have E4 : Hid (pq s W l[k] = q) := by rw [← hx]; exact e4
      have E5 : Hid (pr s W l[k] = rr) := by
        show pr s W l[k] = rr
        rw [(rem_pos s W l[k] s0 ((wok_iff _).1 (List.all_eq_true.1 HO.out l[k] (List.getElem_mem hkl))).1).1, ← hx, e1, e3]
      obtain ⟨va, ca, _⟩ := BA.out.cell k hlt
      obtain ⟨vb, cb, _⟩ := BB.out.cell k hlt
      have fa := BA.out.free k hlt
      have fb := BB.out.free k hlt
      have cb2 : ∀ v : Value, (wr.setCell ⟨w.heap.size, k, none⟩ v).cell? ⟨(w.heap.size + 1), k, none⟩ = some vb := fun v => (World.cell?_setCell_other _ _ _ _ (by intro e'; simp only [Addr.mk.injEq] at e'; omega)).trans cb
      have cb3 := cb2 (.int .i64 q)
      have ca2 : ((wr.setCell ⟨w.heap.size, k, none⟩ (.int .i64 q)).setCell ⟨(w.heap.size + 1), k, none⟩ (.int .i64 rr)).cell? ⟨w.heap.size, k, none⟩ = some (.int .i64 q) := (World.cell?_setCell_other _ _ _ _ (by intro e'; simp only [Addr.mk.injEq] at e'; omega)).trans (World.cell?_setCell_same _ _ _ ca)
      have rq : IntKind.i64.wrap q = q := by rw [IntKind.wrap_i64]; omega
      have rrr : IntKind.i64.wrap rr = rr := by rw [IntKind.wrap_i64]; omega
      have hcw : (wr.setCell ⟨w.heap.size, k, none⟩ (.int .i64 q)).cell? ⟨b, off + k, none⟩ = some (.int .i64 x) := (World.cell?_setCell_other _ _ _ _ (by intro e'; simp only [Addr.mk.injEq] at e'; omega)).trans hc
      clear cb2 hx e4
      go_wp2_with fail
      have BA2 := (((BA.out.set (v := q) (by rw [List.getD_eq_getElem?_getD, List.getElem?_eq_getElem hkl]; exact E4.out.symm)).other (B := (w.heap.size + 1)) (o := k) (v := .int .i64 rr) (by omega)))
      have BB2 := (((BB.out.other (B := w.heap.size) (o := k) (v := .int .i64 q) (by omega)).set (v := rr) (by rw [List.getD_eq_getElem?_getD, List.getElem?_eq_getElem hkl]; exact E5.out.symm)))
      have HB2 : Aside (RowKit.Below w.heap.size w _) := ((HB.out.setCell (p := ⟨w.heap.size, k, none⟩) (by simp) (.int .i64 q)).setCell (p := ⟨(w.heap.size + 1), k, none⟩) (by simp) (.int .i64 rr))
      have KA : Aside _ := BA2
      have KB : Aside _ := BB2
      have HM2 : Hid (m - q = s - ((l.take (k + 1)).map (pq s W)).sum) := by
        show _ = _
        rw [List.take_succ_eq_append_getElem hkl, List.map_append, List.sum_append, HM.out]
        simp only [List.map_cons, List.map_nil, List.sum_cons, List.sum_nil]
        rw [E4.out]; omega
      clear BA2 BB2 HM E4 E5 BA BB HB ca cb cb3 ca2 fa fb hcw hc
      generalize ((wr.setCell ⟨w.heap.size, k, none⟩ (.int .i64 q)).setCell ⟨(w.heap.size + 1), k, none⟩ (.int .i64 rr)) = W2 at KA KB HB2 ⊢
      go_roundg (sz - (k + 1))
      case measure => omega
      case rel => exact ⟨k + 1, m - q, by go_num, rfl, by omega, by omega, HM2, by omega, by omega, KA, KB, HB2⟩
    · have hltz : ¬ (k : Int) < (sz : Int) := by omega
      have hks : k = sz := by omega
      have HMz : m = (mm : Int) := by
        rw [HMM.out, HM.out, List.take_of_length_le (by rw [HL.out]; omega)]; rfl
      subst hks
      subst HMz
      have BA2 : Aside (Buf wr w.heap.size k k (gj s W l (((ordL (rsR s W l n)).take 0).map (·.val)))) := BA.out.congr (fun j _ => by rw [List.take_zero, List.map_nil, gj_nil])
      have BB2 : Aside (Buf wr (w.heap.size + 1) k k (gr (fun k => pr s W (l.getD k 0)) (((ordL (rsR s W l n)).take 0).map (·.val)))) := BB.out.congr (fun j _ => by rw [List.take_zero, List.map_nil, gr_nil])
      clear HM BA BB hm0 hm1
      go_wp2
      go_loopg [11] mm (fun kx vl wr => ∃ (j : Nat), vl = .int .i64 ((mm : Int) - (j : Int)) ∧ j ≤ mm ∧ mm - j ≤ kx ∧ Aside (Buf wr w.heap.size k k (gj s W l (((ordL (rsR s W l n)).take j).map (·.val)))) ∧ Aside (Buf wr (w.heap.size + 1) k k (gr (fun k => pr s W (l.getD k 0)) (((ordL (rsR s W l n)).take j).map (·.val)))) ∧ Aside (RowKit.Below w.heap.size w wr))
      case atStart => exact ⟨0, by go_num, by omega, by omega, BA2, BB2, HB⟩
      case round =>
        clear BA2 BB2 HB
        obtain ⟨j, rfl, hj, hjx, BA, BB, HB⟩ := hrel
        by_cases hlt2 : j < mm
        · have hltz2 : (0 : Int) < (mm : Int) - (j : Int) := by omega
          have hjl : j < (ordL (rsR s W l n)).length := by rw [ordL_length]; have := HS.out; omega
          obtain ⟨xN, hxN⟩ : ∃ q, q = ((ordL (rsR s W l n))[j]).val := ⟨_, rfl⟩
          have hxk : xN < k := by rw [hxN, HS.out]; exact (ordL (rsR s W l n))[j].isLt
          have hbo : bst (gr (fun k => pr s W (l.getD k 0)) (((ordL (rsR s W l n)).take j).map (·.val))) k = xN := by
            rw [hxN, HS.out]
            exact best_ord (rsR s W l n) (fun k => pr s W (l.getD k 0)) (fun _ => rfl) (fun x => by unfold rsR pr ab; split <;> omega) j hjl
          have HXN : Hid (xN = ((ordL (rsR s W l n))[j]).val) := hxN
          obtain ⟨G, hG⟩ : ∃ G, G = gr (fun k => pr s W (l.getD k 0)) (((ordL (rsR s W l n)).take j).map (·.val)) := ⟨_, rfl⟩
          rw [← hG] at BB hbo
          have HG : Hid (G = gr (fun k => pr s W (l.getD k 0)) (((ordL (rsR s W l n)).take j).map (·.val))) := hG
          have HBO : Hid (bst G k = xN) := hbo
          clear hG hbo hxN
          rename World => wo
          go_wp2
          go_loopg [13, 14] k (fun kx vb vi WW => ∃ (i : Nat), vi = .int .i64 i ∧ vb = .int .i64 (bst G i) ∧ 1 ≤ i ∧ i ≤ k ∧ k - i ≤ kx ∧ Aside (∃ q, WW = wo.drewN q))
          case atStart => exact ⟨1, rfl, by rw [bst_one]; rfl, by omega, by omega, by omega, (⟨0, rfl⟩ : ∃ q, wo = wo.drewN q)⟩
          case round =>
            obtain ⟨i, rfl, rfl, hi1, hik, hix, HQ⟩ := hrel
            by_cases hlt3 : i < k
            · have hltz3 : (i : Int) < (k : Int) := by omega
              have pi : (0 : Int) ≤ (i : Int) := by omega
              obtain ⟨hb1, _, _⟩ := bst_spec G i hi1
              obtain ⟨v1, cv1, hv1⟩ := BB.out.cell i hlt3
              have hv1 := hv1 hlt3
              subst hv1
              obtain ⟨v2, cv2, hv2⟩ := BB.out.cell (bst G i) (by omega)
              have hv2 := hv2 (by omega)
              subst hv2
              have HN : Hid (bst G (i + 1) = if G (bst G i) < G i then i else bst G i) := rfl
              generalize bst G i = be at HN cv2 hb1 ⊢
              have pb : (0 : Int) ≤ (be : Int) := by omega
              have bb : (be : Int) < (k : Int) := by omega
              obtain ⟨y1, hy1⟩ : ∃ y, y = G i := ⟨_, rfl⟩
              obtain ⟨y2, hy2⟩ : ∃ y, y = G be := ⟨_, rfl⟩
              rw [← hy1] at cv1 HN
              rw [← hy2] at cv2 HN
              clear hy1 hy2
              have g1 : wr.cell? ⟨w.heap.size + 1, i, none⟩ = some (.int .i64 y1) := by obtain ⟨q, hq⟩ := HQ.out; rw [hq]; exact cv1
              have g2 : wr.cell? ⟨w.heap.size + 1, be, none⟩ = some (.int .i64 y2) := by obtain ⟨q, hq⟩ := HQ.out; rw [hq]; exact cv2
              clear cv1 cv2
              by_cases hyy : y2 < y1
              · have HN2 : Hid (bst G (i + 1) = i) := by show _ = _; rw [HN.out, if_pos hyy]
                clear HN
                go_wp2_with fail
                go_quiet (fail)
                have HQ2 : Aside (∃ q, wr.drewN nq = wo.drewN q) := by obtain ⟨q, hq⟩ := HQ.out; exact ⟨q + nq, by rw [hq, World.drewN_drewN]⟩
                clear g1 g2 HQ
                generalize wr.drewN nq = w2 at HQ2 ⊢
                go_wp2
                go_roundg (k - (i + 1))
                case measure => omega
                case rel => exact ⟨i + 1, by go_num, by rw [HN2.out], by omega, by omega, by omega, HQ2⟩
              · have HN2 : Hid (bst G (i + 1) = be) := by show _ = _; rw [HN.out, if_neg hyy]
                clear HN
                go_wp2_with fail
                go_quiet (fail)
                have HQ2 : Aside (∃ q, wr.drewN nq = wo.drewN q) := by obtain ⟨q, hq⟩ := HQ.out; exact ⟨q + nq, by rw [hq, World.drewN_drewN]⟩
                clear g1 g2 HQ
                generalize wr.drewN nq = w2 at HQ2 ⊢
                go_wp2
                go_roundg (k - (i + 1))
                case measure => omega
                case rel => exact ⟨i + 1, by go_num, by rw [HN2.out], by omega, by omega, by omega, HQ2⟩
            · have hltz3 : ¬ (i : Int) < (k : Int) := by omega
              have hie : i = k := by omega
              subst hie
              rw [HBO.out]
              have BA : Aside (Buf wr w.heap.size i i (gj s W l (((ordL (rsR s W l n)).take j).map (·.val)))) := by obtain ⟨q, hq⟩ := HQ.out; rw [hq]; exact ⟨BA.out.cell, BA.out.free, BA.out.lt⟩
              have BB : Aside (Buf wr (w.heap.size + 1) i i G) := by obtain ⟨q, hq⟩ := HQ.out; rw [hq]; exact ⟨BB.out.cell, BB.out.free, BB.out.lt⟩
              have HB : Aside (RowKit.Below w.heap.size w wr) := by obtain ⟨q, hq⟩ := HQ.out; rw [hq]; exact below_drewN HB.out q
              obtain ⟨v, cv, hv⟩ := BA.out.cell xN hxk
              have hv2 := hv hxk
              obtain ⟨gv, hgv⟩ : ∃ gv, gv = gj s W l (((ordL (rsR s W l n)).take j).map (·.val)) xN := ⟨_, rfl⟩
              rw [← hgv] at hv2
              subst hv2
              have hgb := gj_bounds s W l (((ordL (rsR s W l n)).take j).map (·.val)) xN (by rw [HL.out]; exact hxk) HO.out hW0 hW1 (by omega) c1
              rw [← hgv] at hgb
              have fv := BA.out.free xN hxk
              obtain ⟨vb, cb, _⟩ := BB.out.cell xN hxk
              have fb := BB.out.free xN hxk
              have cb2 : (wr.setCell ⟨w.heap.size, xN, none⟩ (.int .i64 (gv + 1))).cell? ⟨(w.heap.size + 1), xN, none⟩ = some vb := (World.cell?_setCell_other _ _ _ _ (by intro e'; simp only [Addr.mk.injEq] at e'; omega)).trans cb
              have px : (0 : Int) ≤ (xN : Int) := by omega
              have bx : (xN : Int) < (i : Int) := by omega
              have HGV : Hid (gv = gj s W l (((ordL (rsR s W l n)).take j).map (·.val)) xN) := hgv
              clear hgv hv
              go_wp2
              have P2 := (BA.out.put (x := xN) (v := gv + 1) (g' := gj s W l (((ordL (rsR s W l n)).take (j + 1)).map (·.val))) (by
                rw [ord_step2 s W l _ j hjl, ← HGV.out, if_pos HXN.out, HSG.out (by omega)]) (fun t _ hne => by
                rw [ord_step2 s W l _ j hjl, if_neg (by rw [← HXN.out]; exact hne)]; omega)).other (B := (w.heap.size + 1)) (o := xN) (v := .int .i64 (-1)) (by omega)
              have P3 := (BB.out.other (B := w.heap.size) (o := xN) (v := .int .i64 (gv + 1)) (by omega)).put (x := xN) (v := -1) (g' := gr (fun k => pr s W (l.getD k 0)) (((ordL (rsR s W l n)).take (j + 1)).map (·.val))) (by
                rw [gr_ord _ _ j hjl, if_pos HXN.out]) (fun t _ hne => by
                rw [gr_ord _ _ j hjl, if_neg (by rw [← HXN.out]; exact hne), HG.out])
              have KA : Aside _ := P2
              have KB : Aside _ := P3
              have HB3 : Aside (RowKit.Below w.heap.size w _) := ((HB.out.setCell (p := ⟨w.heap.size, xN, none⟩) (by simp) (.int .i64 (gv + 1))).setCell (p := ⟨(w.heap.size + 1), xN, none⟩) (by simp) (.int .i64 (-1)))
              clear P2 P3 BA BB HB cv fv cb fb cb2
              generalize ((wr.setCell ⟨w.heap.size, xN, none⟩ (.int .i64 (gv + 1))).setCell ⟨(w.heap.size + 1), xN, none⟩ (.int .i64 (-1))) = W3 at KA KB HB3 ⊢
              go_roundg (mm - (j + 1))
              case measure => omega
              case rel => exact ⟨j + 1, by go_num, by omega, by omega, KA, KB, HB3⟩
        · have hltz2 : ¬ (0 : Int) < (mm : Int) - (j : Int) := by omega
          have hjm : j = mm := by omega
          subst hjm
          obtain ⟨G, hG⟩ : ∃ G, G = gj s W l (((ordL (rsR s W l n)).take j).map (·.val)) := ⟨_, rfl⟩
          rw [← hG] at BA
          have HGB : Hid (∀ t, t < k → -1000000000000001 ≤ G t ∧ G t ≤ 1000000000000001) := fun t ht => by
            rw [hG]; exact gj_bounds s W l _ t (by rw [HL.out]; exact ht) HO.out hW0 hW1 (by omega) c1
          have HG : Hid (G = gj s W l (((ordL (rsR s W l n)).take j).map (·.val))) := hG
          have BA3 : Aside (Buf wr w.heap.size k k (fun t => if t < 0 then -(G t) else G t)) := BA.out.congr (fun t _ => by rw [if_neg (by omega)])
          clear hG BB BA
          go_wp2
          go_loopg [15] k (fun kx vi WW => ∃ (i : Nat), vi = .int .i64 i ∧ i ≤ k ∧ k - i ≤ kx ∧ Aside (Buf WW w.heap.size k k (fun t => if t < i then -(G t) else G t)) ∧ Aside (RowKit.Below w.heap.size w WW))
          case atStart => exact ⟨0, rfl, by omega, by omega, BA3, HB⟩
          case round =>
            clear BA3 HB
            obtain ⟨i, rfl, hi, hix, BA, HB⟩ := hrel
            by_cases hlt4 : i < k
            · have hltz4 : (i : Int) < (k : Int) := by omega
              have pi : (0 : Int) ≤ (i : Int) := by omega
              obtain ⟨v, cv, hv⟩ := BA.out.cell i hlt4
              have hv2 := hv hlt4
              rw [if_neg (by omega)] at hv2
              obtain ⟨gv, hgv⟩ : ∃ gv, gv = G i := ⟨_, rfl⟩
              have hgb := HGB.out i hlt4
              rw [← hgv] at hv2 hgb
              subst hv2
              have fv := BA.out.free i hlt4
              have HGV : Hid (gv = G i) := hgv
              clear hgv hv
              go_wp2
              have P2 := BA.out.put (x := i) (v := -gv) (g' := fun t => if t < i + 1 then -(G t) else G t) (by
                rw [if_pos (by omega), HGV.out]) (fun t _ hne => by
                by_cases ht : t < i
                · rw [if_pos ht, if_pos (by omega)]
                · rw [if_neg ht, if_neg (by omega)])
              have KA : Aside _ := P2
              have HB3 : Aside (RowKit.Below w.heap.size w _) := (HB.out.setCell (p := ⟨w.heap.size, i, none⟩) (by simp) (.int .i64 (-gv)))
              clear P2 BA HB cv fv
              generalize (wr.setCell ⟨w.heap.size, i, none⟩ (.int .i64 (-gv))) = W3 at KA HB3 ⊢
              go_roundg (k - (i + 1))
              case measure => omega
              case rel => exact ⟨i + 1, by go_num, by omega, by omega, KA, HB3⟩
            · have hltz4 : ¬ (i : Int) < (k : Int) := by omega
              have hik : i = k := by omega
              subst hik
              have hAt : At wr w.heap.size 0 (partL (-s) W l n) := by
                intro t ht
                have ht2 : t < l.length := by rw [← partL_length (-s) W l n]; exact ht
                rw [partL_neg s W l t ht2, partL_get, Nat.zero_add, HUP.out]
                obtain ⟨v, cv, hv⟩ := BA.out.cell t (by rw [← HL.out]; exact ht2)
                rw [cv, hv (by rw [← HL.out]; exact ht2), if_pos (by rw [← HL.out]; exact ht2), HG.out]
              have AT : Aside (At wr w.heap.size 0 (partL (-s) W l n)) := hAt
              clear hAt
              go_wp2
              go_ret2
              exact ⟨_, rfl, AT.out, by omega, BA.out.lt, HB.out⟩
end Go.Proofs.YtamccmeibnihpaaGreatDoor
