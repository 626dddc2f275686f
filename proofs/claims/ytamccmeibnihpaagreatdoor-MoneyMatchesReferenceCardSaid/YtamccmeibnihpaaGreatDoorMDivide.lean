/-
  The walk of money.divide.
-/
import Derived.Test.YtamccmeibnihpaaGreatDoorMPartsMath
import Derived.RegionTactic
import Derived.Deep.RegionWith
namespace Go.Proofs.YtamccmeibnihpaaGreatDoor
open Go.RowKit Go.Lib Go.Sort Go.Shelf Go.Proofs.YtamccmeibnihpaaGreatDoor.MSort

variable {n : Nat}

/-- What one round computes of a weight. -/
theorem step_facts (c W : Int) (l : List Int) (k : Nat) (hk : k < l.length) (hok : l.all wok = true) (hW0 : 0 < W) (hW1 : W ≤ 64000000) (c0 : -1000000000 ≤ c) (c1 : c ≤ 1000000000) :
    ∃ ex q rr : Int, c * l[k] = ex ∧ ex.tdiv W = q ∧ ex.tmod W = rr ∧ pq c W l[k] = q ∧ -1000000000000000 ≤ ex ∧ ex ≤ 1000000000000000 ∧ -1000000000000000 ≤ q ∧ q ≤ 1000000000000000 ∧ -64000000 < rr ∧ rr < 64000000 := by
  have hx := (wok_iff _).1 (List.all_eq_true.1 hok l[k] (List.getElem_mem hk))
  obtain ⟨x, hx'⟩ : ∃ x, x = l[k] := ⟨_, rfl⟩
  rw [← hx'] at hx ⊢
  have h1 : (c * x).natAbs ≤ 1000000000 * 1000000 := by rw [Int.natAbs_mul]; exact Nat.mul_le_mul (by omega) (by omega)
  refine ⟨c * x, (c * x).tdiv W, (c * x).tmod W, rfl, rfl, rfl, rfl, by omega, by omega, ?_, ?_, ?_, ?_⟩
  all_goals
    have h2 : ((c * x).tdiv W).natAbs ≤ 1000000000 * 1000000 := by rw [Int.natAbs_tdiv]; exact Nat.le_trans (Nat.div_le_self _ _) h1
    have h3 : ((c * x).tmod W).natAbs < W.natAbs := by rw [Int.natAbs_tmod]; exact Nat.mod_lt _ (by omega)
    omega

theorem gj_bounds (c W : Int) (l : List Int) (o : List Nat) (k : Nat) (hk : k < l.length) (hok : l.all wok = true) (hW0 : 0 < W) (hW1 : W ≤ 64000000) (c0 : -1000000000 ≤ c) (c1 : c ≤ 1000000000) :
    -1000000000000001 ≤ gj c W l o k ∧ gj c W l o k ≤ 1000000000000001 := by
  obtain ⟨ex, q, rr, _, _, _, e4, _, _, q0, q1, _, _⟩ := step_facts c W l k hk hok hW0 hW1 c0 c1
  have hs := sgn_le c
  unfold gj
  rw [List.getD_eq_getElem?_getD, List.getElem?_eq_getElem hk]
  dsimp only [Option.getD]
  rw [e4]
  split <;> omega

/-- One more of the order is taken. -/
theorem ord_step {n : Nat} (c W : Int) (l : List Int) (r : Rests n) {d : Array (Fin (n + 1))} (hd : d.toList = ordL r) (j : Nat) (hj : j < d.size) (k : Nat) :
    gj c W l (((ordL r).take (j + 1)).map (·.val)) k = gj c W l (((ordL r).take j).map (·.val)) k + if k = d[j]!.val then sgn c else 0 := by
  have hjl : j < (ordL r).length := by rw [← hd]; simpa using hj
  have e : (ordL r)[j] = d[j]! := by
    rw [getElem!_pos d j hj]
    have : d.toList[j]'(by simpa using hj) = d[j] := by simp
    rw [← this]; congr 1; exact hd.symm
  rw [List.take_succ_eq_append_getElem hjl, List.map_append, List.map_cons, List.map_nil, e]
  refine gj_step c W l _ _ k ?_
  intro hm
  obtain ⟨y, hy, hye⟩ := List.mem_map.1 hm
  have hyx : y = (ordL r)[j] := by rw [e]; exact Fin.ext hye
  have hn := ordL_nodup r
  rw [hyx] at hy
  obtain ⟨i, hi, hie⟩ := List.mem_iff_getElem.1 hy
  rw [List.getElem_take] at hie
  have hi2 : i < j := by simp at hi; omega
  exact (List.pairwise_iff_getElem.1 hn) i j (by omega) hjl hi2 hie

set_option maxHeartbeats 4000000 in
set_option maxRecDepth 100000 in
theorem divide_any (c W : Int) (l : List Int) (b off cap sz : Nat) (w : World) (hl : l.length = sz) (hsz : sz = n + 1) (h64 : sz ≤ 64) (hok : l.all wok = true) (hW : l.sum = W) (hW0 : 0 < W) (hW1 : W ≤ 64000000) (c0 : -1000000000 ≤ c) (c1 : c ≤ 1000000000) (hA : At w b off l) (hb : b < w.heap.size) :
    Calls Tryz.prog 24 #[.int .i64 c, .slice (some ⟨b, off, none⟩) sz cap, .int .i64 W] w fun e w' =>
      ∃ blk, e = .returned (.slice (some ⟨blk, 0, none⟩) sz sz) ∧ At w' blk 0 (partL c W l n) ∧ w.heap.size ≤ blk ∧ blk < w'.heap.size ∧ RowKit.Below w.heap.size w w' := by
  have HL : Hid (l.length = sz) := hl
  have HS : Hid (sz = n + 1) := hsz
  have HA : Aside (At w b off l) := hA
  have HO : Hid (l.all wok = true) := hok
  have HW : Hid (l.sum = W) := hW
  have hs1 : 1 ≤ sz := by omega
  have hmk := run_make_row' (P := Tryz.prog) 22 3 (.int .i64 0) 8 Tryz.underlying22 info_int rfl .i64 .i64 sz (by omega) (by omega)
  clear hl hsz hA hok hW
  go_enter Tryz.func24, Tryz.ntmps24
  go_wp2
  go_region
  · go_wp2
    clear hmk
    have b0 : Buf ((w.alloc (.cells (madeCells #[.int .i64 0] sz) 3)).alloc (.cells (madeCells #[.int .i64 0] sz) 3)).drew w.heap.size sz 0 (fun k => pq c W (l.getD k 0)) := ((Buf.made w sz _).below ((RowKit.Below.refl _ _).alloc (Nat.le_refl _) _) (by simp)).drew
    have b1 : Buf ((w.alloc (.cells (madeCells #[.int .i64 0] sz) 3)).alloc (.cells (madeCells #[.int .i64 0] sz) 3)).drew (w.heap.size + 1) sz 0 (fun k => pr c W (l.getD k 0)) := by
      have := (Buf.made (w.alloc (.cells (madeCells #[.int .i64 0] sz) 3)) sz (fun k => pr c W (l.getD k 0))).drew
      simpa using this
    have HB0 : Aside (RowKit.Below w.heap.size w ((w.alloc (.cells (madeCells #[.int .i64 0] sz) 3)).alloc (.cells (madeCells #[.int .i64 0] sz) 3)).drew) := ((((RowKit.Below.refl _ _).alloc (Nat.le_refl _) _).alloc (by simp) _)).drew
    have BA : Aside (Buf _ w.heap.size sz 0 (fun k => pq c W (l.getD k 0))) := b0
    have BB : Aside (Buf _ (w.heap.size + 1) sz 0 (fun k => pr c W (l.getD k 0))) := b1
    clear b0 b1
    generalize ((w.alloc (.cells (madeCells #[.int .i64 0] sz) 3)).alloc (.cells (madeCells #[.int .i64 0] sz) 3)).drew = W1 at BA BB HB0 ⊢
    go_loopg [9, 23] sz (fun kx vm vi wr => ∃ (k : Nat) (m : Int), vi = .int .i64 k ∧ vm = .int .i64 m ∧ k ≤ sz ∧ sz - k ≤ kx ∧ Hid (m = c - ((l.take k).map (pq c W)).sum) ∧ -(1000000000 + (k : Int) * 1000000000000000) ≤ m ∧ m ≤ 1000000000 + (k : Int) * 1000000000000000 ∧ Aside (Buf wr w.heap.size sz k (fun k => pq c W (l.getD k 0))) ∧ Aside (Buf wr (w.heap.size + 1) sz k (fun k => pr c W (l.getD k 0))) ∧ Aside (RowKit.Below w.heap.size w wr))
    case atStart => exact ⟨0, c, rfl, rfl, by omega, by omega, (show _ = _ by simp), by omega, by omega, BA, BB, HB0⟩
    case round =>
      clear BA BB HB0
      obtain ⟨k, m, rfl, rfl, hk, hkx, HM, hm0, hm1, BA, BB, HB⟩ := hrel
      by_cases hlt : k < sz
      · have hltz : (k : Int) < (sz : Int) := by omega
        have p0 : (0 : Int) ≤ (k : Int) := by omega
        have hkl : k < l.length := by rw [HL.out]; exact hlt
        obtain ⟨x, hx⟩ : ∃ x, x = l[k] := ⟨_, rfl⟩
        have hc := (HB.out.cell (p := ⟨b, off + k, none⟩) hb).trans (HA.out k hkl)
        rw [← hx] at hc
        have F := step_facts c W l k hkl HO.out hW0 hW1 c0 c1
        rw [← hx] at F
        obtain ⟨ex, q, rr, e1, e2, e3, e4, F⟩ := F
        obtain ⟨x0, x1, q0, q1, r0, r1⟩ := F
        have E4 : Hid (pq c W l[k] = q) := by rw [← hx]; exact e4
        have E5 : Hid (pr c W l[k] = ab rr) := by show pr c W l[k] = ab rr; unfold pr; rw [← hx, e1, e3]
        obtain ⟨va, ca, _⟩ := BA.out.cell k hlt
        obtain ⟨vb, cb, _⟩ := BB.out.cell k hlt
        have fa := BA.out.free k hlt
        have fb := BB.out.free k hlt
        have cb2 : ∀ v : Value, (wr.setCell ⟨w.heap.size, k, none⟩ v).cell? ⟨(w.heap.size + 1), k, none⟩ = some vb := fun v => (World.cell?_setCell_other _ _ _ _ (by intro e'; simp only [Addr.mk.injEq] at e'; omega)).trans cb
        have cb3 := cb2 (.int .i64 q)
        have ca2 : ((wr.setCell ⟨w.heap.size, k, none⟩ (.int .i64 q)).setCell ⟨(w.heap.size + 1), k, none⟩ (.int .i64 (ab rr))).cell? ⟨w.heap.size, k, none⟩ = some (.int .i64 q) := (World.cell?_setCell_other _ _ _ _ (by intro e'; simp only [Addr.mk.injEq] at e'; omega)).trans (World.cell?_setCell_same _ _ _ ca)
        have rq : IntKind.i64.wrap q = q := by rw [IntKind.wrap_i64]; omega
        have rrr : IntKind.i64.wrap rr = rr := by rw [IntKind.wrap_i64]; omega
        have HAR : Hid (ab rr ≤ 64000000) := by show ab rr ≤ _; unfold ab; split <;> omega
        clear cb2 hx e4
        go_wp2_with fail
        go_region_with (go_at_call 26; refine (abs_any _ _ (by omega) (by omega)).mono ?_; rintro e w' ⟨rfl, rfl⟩)
        all_goals
          have BA2 := (((BA.out.set (v := q) (by rw [List.getD_eq_getElem?_getD, List.getElem?_eq_getElem hkl]; exact E4.out.symm)).other (B := (w.heap.size + 1)) (o := k) (v := .int .i64 (ab rr)) (by omega)).drew)
          have BB2 := (((BB.out.other (B := w.heap.size) (o := k) (v := .int .i64 q) (by omega)).set (v := ab rr) (by rw [List.getD_eq_getElem?_getD, List.getElem?_eq_getElem hkl]; exact E5.out.symm)).drew)
          have HB2 : Aside (RowKit.Below w.heap.size w _) := ((HB.out.setCell (p := ⟨w.heap.size, k, none⟩) (by simp) (.int .i64 q)).setCell (p := ⟨(w.heap.size + 1), k, none⟩) (by simp) (.int .i64 (ab rr))).drew
          have KA : Aside _ := BA2
          have KB : Aside _ := BB2
          have HM2 : Hid (m - q = c - ((l.take (k + 1)).map (pq c W)).sum) := by
            show _ = _
            rw [List.take_succ_eq_append_getElem hkl, List.map_append, List.sum_append, HM.out]
            simp only [List.map_cons, List.map_nil, List.sum_cons, List.sum_nil]
            rw [E4.out]; omega
          clear BA2 BB2 HM E4 E5 BA BB HB
          go_wp2
          clear ca cb cb3 ca2 fa fb
          generalize ((wr.setCell ⟨w.heap.size, k, none⟩ (.int .i64 q)).setCell ⟨(w.heap.size + 1), k, none⟩ (.int .i64 (ab rr))).drew = W2 at KA KB HB2 ⊢
          go_roundg (sz - (k + 1))
          case measure => omega
          case rel => exact ⟨k + 1, m - q, by go_num, rfl, by omega, by omega, HM2, by omega, by omega, KA, KB, HB2⟩
      · have hltz : ¬ (k : Int) < (sz : Int) := by omega
        have hks : k = sz := by omega
        have HMz : Hid (m = miss c W l) := by
          show _ = _
          rw [HM.out, List.take_of_length_le (by rw [HL.out]; omega)]; rfl
        subst hks
        have hr : ∀ x : Fin (n + 1), wr.cell? ⟨(w.heap.size + 1), x.val, none⟩ = some (.int .i64 (rsR c W l n x)) := fun x => by
          obtain ⟨v, cv, hv⟩ := BB.out.cell x.val (by rw [HS.out]; exact x.isLt)
          rw [cv, hv (by rw [HS.out]; exact x.isLt)]; rfl
        have hla := largest_any (rsR c W l n) k (w.heap.size + 1) k wr hr BB.out.lt HS.out h64
        have K := Lib.hid hla
        have hmm : ab m ≤ l.length := by rw [HMz.out]; exact miss_le c W l HW.out hW0
        have habs : 0 ≤ ab m := by unfold ab; split <;> omega
        obtain ⟨mm, hmme⟩ : ∃ mm : Nat, (mm : Int) = ab m := ⟨(ab m).toNat, by omega⟩
        have hmk2 : mm ≤ k := by have := HL.out; omega
        have HUP : Hid (upL c W l n = (ordL (rsR c W l n)).take mm) := by show _ = _; unfold upL; rw [← HMz.out, ← hmme]; rfl
        have hab : ∀ w : World, Calls Tryz.prog 26 #[.int .i64 m] w fun e w' => e = .returned (.int .i64 mm) ∧ w = w' := fun w => by rw [hmme]; exact abs_any m w (by omega) (by omega)
        have KAB := Lib.hid hab
        clear hr hla hmm habs hmme hab HM BB
        go_wp2_with fail
        refine K.out.mono ?_
        rintro e' w2 ⟨blk, d, rfl, hd, hH, hblk, hblk2, hB2⟩
        have EH : Aside (Holds en w2 blk 0 d) := hH
        have ED : Hid (d.toList = ordL (rsR c W l n)) := hd
        have BA2 : Aside (Buf w2 w.heap.size k k (fun k => pq c W (l.getD k 0))) := BA.out.below hB2 BA.out.lt
        have HB2 : Aside (RowKit.Below w.heap.size w w2) := HB.out.trans (hB2.mono HB.out.size)
        have hAb : w.heap.size < blk := Nat.lt_of_lt_of_le BA.out.lt hblk
        have hwb : w.heap.size ≤ blk := Nat.le_trans HB.out.size hblk
        have hds : d.size = n + 1 := by rw [← Array.length_toList, hd, ordL_length]
        have HDS : Hid (d.size = n + 1) := hds
        clear hd hH hB2 BA HB K hds hblk
        go_wp2_with fail
        refine (KAB.out _).mono ?_
        rintro e' w' ⟨rfl, rfl⟩
        obtain ⟨sg, hsg⟩ : ∃ sg, sg = sgn c := ⟨_, rfl⟩
        have hsb := sgn_le c
        rw [← hsg] at hsb
        have HSG : Hid (sg = sgn c) := hsg
        have hks : ∀ w : World, Calls Tryz.prog 36 #[.int .i64 c] w fun e w' => e = .returned (.int .i64 sg) ∧ w = w' := fun w => by rw [hsg]; exact sign_any c w
        have KS := Lib.hid hks
        have G0 : Aside (Buf w2 w.heap.size k k (gj c W l (((ordL (rsR c W l n)).take 0).map (·.val)))) := BA2.out.congr (fun j _ => by rw [List.take_zero, List.map_nil, gj_nil])
        have O0 : Aside (∀ t, t < k → w2.cell? ⟨blk, 0 + t, none⟩ = some (en d[t]!)) := fun t ht => (EH.out t (by rw [HDS.out, ← HS.out]; exact ht)).1
        clear hsg hks BA2 EH KAB
        go_wp2
        go_loopg [58] k (fun kx vj wr => ∃ (j : Nat), vj = .int .i64 j ∧ j ≤ mm ∧ mm - j ≤ kx ∧ Aside (Buf wr w.heap.size k k (gj c W l (((ordL (rsR c W l n)).take j).map (·.val)))) ∧ Aside (∀ t, t < k → wr.cell? ⟨blk, 0 + t, none⟩ = some (en d[t]!)) ∧ Aside (RowKit.Below w.heap.size w wr))
        case atStart => exact ⟨0, rfl, by omega, by omega, G0, O0, HB2⟩
        case round =>
          clear G0 O0 HB2
          obtain ⟨j, rfl, hj, hjx, BA, OC, HB⟩ := hrel
          by_cases hlt2 : j < mm
          · have hltz2 : (j : Int) < (mm : Int) := by omega
            have pj : (0 : Int) ≤ (j : Int) := by omega
            obtain ⟨xN, hxN⟩ : ∃ q, q = (d[j]!).val := ⟨_, rfl⟩
            have hoc := OC.out j (by omega)
            have hoc2 : wr.cell? ⟨blk, 0 + j, none⟩ = some (.int .i64 (xN : Int)) := by rw [hoc, hxN]; rfl
            rw [Nat.zero_add] at hoc2
            have hxk : xN < k := by rw [hxN, HS.out]; exact (d[j]!).isLt
            obtain ⟨v, cv, hv⟩ := BA.out.cell xN hxk
            have hv2 := hv hxk
            obtain ⟨gv, hgv⟩ : ∃ gv, gv = gj c W l (((ordL (rsR c W l n)).take j).map (·.val)) xN := ⟨_, rfl⟩
            rw [← hgv] at hv2
            subst hv2
            have hgb := gj_bounds c W l (((ordL (rsR c W l n)).take j).map (·.val)) xN (by rw [HL.out]; exact hxk) HO.out hW0 hW1 c0 c1
            rw [← hgv] at hgb
            have fv := BA.out.free xN hxk
            have rgv : IntKind.i64.wrap (gv + sg) = gv + sg := by rw [IntKind.wrap_i64]; omega
            have px : (0 : Int) ≤ (xN : Int) := by omega
            have bx : (xN : Int) < (k : Int) := by omega
            have HXN : Hid (xN = (d[j]!).val) := hxN
            have HGV : Hid (gv = gj c W l (((ordL (rsR c W l n)).take j).map (·.val)) xN) := hgv
            clear hxN hgv hoc hv
            go_wp2_with fail
            go_region_with (go_at_call 36; refine (KS.out _).mono ?_; rintro e w' ⟨rfl, rfl⟩)
            all_goals
              have P2 := BA.out.put (x := xN) (v := gv + sg) (g' := gj c W l (((ordL (rsR c W l n)).take (j + 1)).map (·.val))) (by
                rw [ord_step c W l _ ED.out j (by rw [HDS.out, ← HS.out]; omega), ← HGV.out, if_pos HXN.out, HSG.out]) (fun t _ hne => by
                rw [ord_step c W l _ ED.out j (by rw [HDS.out, ← HS.out]; omega), if_neg (by rw [← HXN.out]; exact hne)]; omega)
              have K2 : Aside _ := P2.drew
              have O2 : Aside (∀ t, t < k → ((wr.setCell ⟨w.heap.size, xN, none⟩ (.int .i64 (gv + sg))).drew).cell? ⟨blk, 0 + t, none⟩ = some (en d[t]!)) := fun t ht => (World.cell?_setCell_other _ _ _ _ (by intro e'; simp only [Addr.mk.injEq] at e'; omega)).trans (OC.out t ht)
              have HB3 : Aside (RowKit.Below w.heap.size w _) := (HB.out.setCell (p := ⟨w.heap.size, xN, none⟩) (by simp) (.int .i64 (gv + sg))).drew
              clear P2 BA OC HB
              go_wp2
              clear cv fv rgv
              generalize (wr.setCell ⟨w.heap.size, xN, none⟩ (.int .i64 (gv + sg))).drew = W3 at K2 O2 HB3 ⊢
              go_roundg (mm - (j + 1))
              case measure => omega
              case rel => exact ⟨j + 1, by go_num, by omega, by omega, K2, O2, HB3⟩
          · have hltz2 : ¬ (j : Int) < (mm : Int) := by omega
            have hjm : j = mm := by omega
            subst hjm
            have hAt : At wr w.heap.size 0 (partL c W l n) := by
              intro t ht
              rw [partL_get, Nat.zero_add, HUP.out]
              obtain ⟨v, cv, hv⟩ := BA.out.cell t (by rw [← HL.out, ← partL_length c W l n]; exact ht)
              rw [cv, hv (by rw [← HL.out, ← partL_length c W l n]; exact ht)]
            have AT : Aside (At wr w.heap.size 0 (partL c W l n)) := hAt
            clear hAt OC
            go_wp2
            go_ret
            exact ⟨_, rfl, AT.out, by omega, BA.out.lt, HB.out⟩
  · go_wp2
    clear hmk
    have b0 : Buf ((w.alloc (.cells (madeCells #[.int .i64 0] sz) 3)).alloc (.cells (madeCells #[.int .i64 0] sz) 3)).drew w.heap.size sz 0 (fun k => pr c W (l.getD k 0)) := ((Buf.made w sz _).below ((RowKit.Below.refl _ _).alloc (Nat.le_refl _) _) (by simp)).drew
    have b1 : Buf ((w.alloc (.cells (madeCells #[.int .i64 0] sz) 3)).alloc (.cells (madeCells #[.int .i64 0] sz) 3)).drew (w.heap.size + 1) sz 0 (fun k => pq c W (l.getD k 0)) := by
      have := (Buf.made (w.alloc (.cells (madeCells #[.int .i64 0] sz) 3)) sz (fun k => pq c W (l.getD k 0))).drew
      simpa using this
    have HB0 : Aside (RowKit.Below w.heap.size w ((w.alloc (.cells (madeCells #[.int .i64 0] sz) 3)).alloc (.cells (madeCells #[.int .i64 0] sz) 3)).drew) := ((((RowKit.Below.refl _ _).alloc (Nat.le_refl _) _).alloc (by simp) _)).drew
    have BA : Aside (Buf _ (w.heap.size + 1) sz 0 (fun k => pq c W (l.getD k 0))) := b1
    have BB : Aside (Buf _ w.heap.size sz 0 (fun k => pr c W (l.getD k 0))) := b0
    clear b0 b1
    generalize ((w.alloc (.cells (madeCells #[.int .i64 0] sz) 3)).alloc (.cells (madeCells #[.int .i64 0] sz) 3)).drew = W1 at BA BB HB0 ⊢
    go_loopg [9, 23] sz (fun kx vm vi wr => ∃ (k : Nat) (m : Int), vi = .int .i64 k ∧ vm = .int .i64 m ∧ k ≤ sz ∧ sz - k ≤ kx ∧ Hid (m = c - ((l.take k).map (pq c W)).sum) ∧ -(1000000000 + (k : Int) * 1000000000000000) ≤ m ∧ m ≤ 1000000000 + (k : Int) * 1000000000000000 ∧ Aside (Buf wr (w.heap.size + 1) sz k (fun k => pq c W (l.getD k 0))) ∧ Aside (Buf wr w.heap.size sz k (fun k => pr c W (l.getD k 0))) ∧ Aside (RowKit.Below w.heap.size w wr))
    case atStart => exact ⟨0, c, rfl, rfl, by omega, by omega, (show _ = _ by simp), by omega, by omega, BA, BB, HB0⟩
    case round =>
      clear BA BB HB0
      obtain ⟨k, m, rfl, rfl, hk, hkx, HM, hm0, hm1, BA, BB, HB⟩ := hrel
      by_cases hlt : k < sz
      · have hltz : (k : Int) < (sz : Int) := by omega
        have p0 : (0 : Int) ≤ (k : Int) := by omega
        have hkl : k < l.length := by rw [HL.out]; exact hlt
        obtain ⟨x, hx⟩ : ∃ x, x = l[k] := ⟨_, rfl⟩
        have hc := (HB.out.cell (p := ⟨b, off + k, none⟩) hb).trans (HA.out k hkl)
        rw [← hx] at hc
        have F := step_facts c W l k hkl HO.out hW0 hW1 c0 c1
        rw [← hx] at F
        obtain ⟨ex, q, rr, e1, e2, e3, e4, F⟩ := F
        obtain ⟨x0, x1, q0, q1, r0, r1⟩ := F
        have E4 : Hid (pq c W l[k] = q) := by rw [← hx]; exact e4
        have E5 : Hid (pr c W l[k] = ab rr) := by show pr c W l[k] = ab rr; unfold pr; rw [← hx, e1, e3]
        obtain ⟨va, ca, _⟩ := BA.out.cell k hlt
        obtain ⟨vb, cb, _⟩ := BB.out.cell k hlt
        have fa := BA.out.free k hlt
        have fb := BB.out.free k hlt
        have cb2 : ∀ v : Value, (wr.setCell ⟨(w.heap.size + 1), k, none⟩ v).cell? ⟨w.heap.size, k, none⟩ = some vb := fun v => (World.cell?_setCell_other _ _ _ _ (by intro e'; simp only [Addr.mk.injEq] at e'; omega)).trans cb
        have cb3 := cb2 (.int .i64 q)
        have ca2 : ((wr.setCell ⟨(w.heap.size + 1), k, none⟩ (.int .i64 q)).setCell ⟨w.heap.size, k, none⟩ (.int .i64 (ab rr))).cell? ⟨(w.heap.size + 1), k, none⟩ = some (.int .i64 q) := (World.cell?_setCell_other _ _ _ _ (by intro e'; simp only [Addr.mk.injEq] at e'; omega)).trans (World.cell?_setCell_same _ _ _ ca)
        have rq : IntKind.i64.wrap q = q := by rw [IntKind.wrap_i64]; omega
        have rrr : IntKind.i64.wrap rr = rr := by rw [IntKind.wrap_i64]; omega
        have HAR : Hid (ab rr ≤ 64000000) := by show ab rr ≤ _; unfold ab; split <;> omega
        clear cb2 hx e4
        go_wp2_with fail
        go_region_with (go_at_call 26; refine (abs_any _ _ (by omega) (by omega)).mono ?_; rintro e w' ⟨rfl, rfl⟩)
        all_goals
          have BA2 := (((BA.out.set (v := q) (by rw [List.getD_eq_getElem?_getD, List.getElem?_eq_getElem hkl]; exact E4.out.symm)).other (B := w.heap.size) (o := k) (v := .int .i64 (ab rr)) (by omega)).drew)
          have BB2 := (((BB.out.other (B := (w.heap.size + 1)) (o := k) (v := .int .i64 q) (by omega)).set (v := ab rr) (by rw [List.getD_eq_getElem?_getD, List.getElem?_eq_getElem hkl]; exact E5.out.symm)).drew)
          have HB2 : Aside (RowKit.Below w.heap.size w _) := ((HB.out.setCell (p := ⟨(w.heap.size + 1), k, none⟩) (by simp) (.int .i64 q)).setCell (p := ⟨w.heap.size, k, none⟩) (by simp) (.int .i64 (ab rr))).drew
          have KA : Aside _ := BA2
          have KB : Aside _ := BB2
          have HM2 : Hid (m - q = c - ((l.take (k + 1)).map (pq c W)).sum) := by
            show _ = _
            rw [List.take_succ_eq_append_getElem hkl, List.map_append, List.sum_append, HM.out]
            simp only [List.map_cons, List.map_nil, List.sum_cons, List.sum_nil]
            rw [E4.out]; omega
          clear BA2 BB2 HM E4 E5 BA BB HB
          go_wp2
          clear ca cb cb3 ca2 fa fb
          generalize ((wr.setCell ⟨(w.heap.size + 1), k, none⟩ (.int .i64 q)).setCell ⟨w.heap.size, k, none⟩ (.int .i64 (ab rr))).drew = W2 at KA KB HB2 ⊢
          go_roundg (sz - (k + 1))
          case measure => omega
          case rel => exact ⟨k + 1, m - q, by go_num, rfl, by omega, by omega, HM2, by omega, by omega, KA, KB, HB2⟩
      · have hltz : ¬ (k : Int) < (sz : Int) := by omega
        have hks : k = sz := by omega
        have HMz : Hid (m = miss c W l) := by
          show _ = _
          rw [HM.out, List.take_of_length_le (by rw [HL.out]; omega)]; rfl
        subst hks
        have hr : ∀ x : Fin (n + 1), wr.cell? ⟨w.heap.size, x.val, none⟩ = some (.int .i64 (rsR c W l n x)) := fun x => by
          obtain ⟨v, cv, hv⟩ := BB.out.cell x.val (by rw [HS.out]; exact x.isLt)
          rw [cv, hv (by rw [HS.out]; exact x.isLt)]; rfl
        have hla := largest_any (rsR c W l n) k w.heap.size k wr hr BB.out.lt HS.out h64
        have K := Lib.hid hla
        have hmm : ab m ≤ l.length := by rw [HMz.out]; exact miss_le c W l HW.out hW0
        have habs : 0 ≤ ab m := by unfold ab; split <;> omega
        obtain ⟨mm, hmme⟩ : ∃ mm : Nat, (mm : Int) = ab m := ⟨(ab m).toNat, by omega⟩
        have hmk2 : mm ≤ k := by have := HL.out; omega
        have HUP : Hid (upL c W l n = (ordL (rsR c W l n)).take mm) := by show _ = _; unfold upL; rw [← HMz.out, ← hmme]; rfl
        have hab : ∀ w : World, Calls Tryz.prog 26 #[.int .i64 m] w fun e w' => e = .returned (.int .i64 mm) ∧ w = w' := fun w => by rw [hmme]; exact abs_any m w (by omega) (by omega)
        have KAB := Lib.hid hab
        clear hr hla hmm habs hmme hab HM BB
        go_wp2_with fail
        refine K.out.mono ?_
        rintro e' w2 ⟨blk, d, rfl, hd, hH, hblk, hblk2, hB2⟩
        have EH : Aside (Holds en w2 blk 0 d) := hH
        have ED : Hid (d.toList = ordL (rsR c W l n)) := hd
        have BA2 : Aside (Buf w2 (w.heap.size + 1) k k (fun k => pq c W (l.getD k 0))) := BA.out.below hB2 BA.out.lt
        have HB2 : Aside (RowKit.Below w.heap.size w w2) := HB.out.trans (hB2.mono HB.out.size)
        have hAb : (w.heap.size + 1) < blk := Nat.lt_of_lt_of_le BA.out.lt hblk
        have hwb : w.heap.size ≤ blk := Nat.le_trans HB.out.size hblk
        have hds : d.size = n + 1 := by rw [← Array.length_toList, hd, ordL_length]
        have HDS : Hid (d.size = n + 1) := hds
        clear hd hH hB2 BA HB K hds hblk
        go_wp2_with fail
        refine (KAB.out _).mono ?_
        rintro e' w' ⟨rfl, rfl⟩
        obtain ⟨sg, hsg⟩ : ∃ sg, sg = sgn c := ⟨_, rfl⟩
        have hsb := sgn_le c
        rw [← hsg] at hsb
        have HSG : Hid (sg = sgn c) := hsg
        have hks : ∀ w : World, Calls Tryz.prog 36 #[.int .i64 c] w fun e w' => e = .returned (.int .i64 sg) ∧ w = w' := fun w => by rw [hsg]; exact sign_any c w
        have KS := Lib.hid hks
        have G0 : Aside (Buf w2 (w.heap.size + 1) k k (gj c W l (((ordL (rsR c W l n)).take 0).map (·.val)))) := BA2.out.congr (fun j _ => by rw [List.take_zero, List.map_nil, gj_nil])
        have O0 : Aside (∀ t, t < k → w2.cell? ⟨blk, 0 + t, none⟩ = some (en d[t]!)) := fun t ht => (EH.out t (by rw [HDS.out, ← HS.out]; exact ht)).1
        clear hsg hks BA2 EH KAB
        go_wp2
        go_loopg [58] k (fun kx vj wr => ∃ (j : Nat), vj = .int .i64 j ∧ j ≤ mm ∧ mm - j ≤ kx ∧ Aside (Buf wr (w.heap.size + 1) k k (gj c W l (((ordL (rsR c W l n)).take j).map (·.val)))) ∧ Aside (∀ t, t < k → wr.cell? ⟨blk, 0 + t, none⟩ = some (en d[t]!)) ∧ Aside (RowKit.Below w.heap.size w wr))
        case atStart => exact ⟨0, rfl, by omega, by omega, G0, O0, HB2⟩
        case round =>
          clear G0 O0 HB2
          obtain ⟨j, rfl, hj, hjx, BA, OC, HB⟩ := hrel
          by_cases hlt2 : j < mm
          · have hltz2 : (j : Int) < (mm : Int) := by omega
            have pj : (0 : Int) ≤ (j : Int) := by omega
            obtain ⟨xN, hxN⟩ : ∃ q, q = (d[j]!).val := ⟨_, rfl⟩
            have hoc := OC.out j (by omega)
            have hoc2 : wr.cell? ⟨blk, 0 + j, none⟩ = some (.int .i64 (xN : Int)) := by rw [hoc, hxN]; rfl
            rw [Nat.zero_add] at hoc2
            have hxk : xN < k := by rw [hxN, HS.out]; exact (d[j]!).isLt
            obtain ⟨v, cv, hv⟩ := BA.out.cell xN hxk
            have hv2 := hv hxk
            obtain ⟨gv, hgv⟩ : ∃ gv, gv = gj c W l (((ordL (rsR c W l n)).take j).map (·.val)) xN := ⟨_, rfl⟩
            rw [← hgv] at hv2
            subst hv2
            have hgb := gj_bounds c W l (((ordL (rsR c W l n)).take j).map (·.val)) xN (by rw [HL.out]; exact hxk) HO.out hW0 hW1 c0 c1
            rw [← hgv] at hgb
            have fv := BA.out.free xN hxk
            have rgv : IntKind.i64.wrap (gv + sg) = gv + sg := by rw [IntKind.wrap_i64]; omega
            have px : (0 : Int) ≤ (xN : Int) := by omega
            have bx : (xN : Int) < (k : Int) := by omega
            have HXN : Hid (xN = (d[j]!).val) := hxN
            have HGV : Hid (gv = gj c W l (((ordL (rsR c W l n)).take j).map (·.val)) xN) := hgv
            clear hxN hgv hoc hv
            go_wp2_with fail
            go_region_with (go_at_call 36; refine (KS.out _).mono ?_; rintro e w' ⟨rfl, rfl⟩)
            all_goals
              have P2 := BA.out.put (x := xN) (v := gv + sg) (g' := gj c W l (((ordL (rsR c W l n)).take (j + 1)).map (·.val))) (by
                rw [ord_step c W l _ ED.out j (by rw [HDS.out, ← HS.out]; omega), ← HGV.out, if_pos HXN.out, HSG.out]) (fun t _ hne => by
                rw [ord_step c W l _ ED.out j (by rw [HDS.out, ← HS.out]; omega), if_neg (by rw [← HXN.out]; exact hne)]; omega)
              have K2 : Aside _ := P2.drew
              have O2 : Aside (∀ t, t < k → ((wr.setCell ⟨(w.heap.size + 1), xN, none⟩ (.int .i64 (gv + sg))).drew).cell? ⟨blk, 0 + t, none⟩ = some (en d[t]!)) := fun t ht => (World.cell?_setCell_other _ _ _ _ (by intro e'; simp only [Addr.mk.injEq] at e'; omega)).trans (OC.out t ht)
              have HB3 : Aside (RowKit.Below w.heap.size w _) := (HB.out.setCell (p := ⟨(w.heap.size + 1), xN, none⟩) (by simp) (.int .i64 (gv + sg))).drew
              clear P2 BA OC HB
              go_wp2
              clear cv fv rgv
              generalize (wr.setCell ⟨(w.heap.size + 1), xN, none⟩ (.int .i64 (gv + sg))).drew = W3 at K2 O2 HB3 ⊢
              go_roundg (mm - (j + 1))
              case measure => omega
              case rel => exact ⟨j + 1, by go_num, by omega, by omega, K2, O2, HB3⟩
          · have hltz2 : ¬ (j : Int) < (mm : Int) := by omega
            have hjm : j = mm := by omega
            subst hjm
            have hAt : At wr (w.heap.size + 1) 0 (partL c W l n) := by
              intro t ht
              rw [partL_get, Nat.zero_add, HUP.out]
              obtain ⟨v, cv, hv⟩ := BA.out.cell t (by rw [← HL.out, ← partL_length c W l n]; exact ht)
              rw [cv, hv (by rw [← HL.out, ← partL_length c W l n]; exact ht)]
            have AT : Aside (At wr (w.heap.size + 1) 0 (partL c W l n)) := hAt
            clear hAt OC
            go_wp2
            go_ret
            exact ⟨_, rfl, AT.out, by omega, BA.out.lt, HB.out⟩
end Go.Proofs.YtamccmeibnihpaaGreatDoor
