/-
  Contract of slices.CompactFunc at sections, and of reduced.
-/
import Derived.Test.YtmjdolgcgbiajaaPRedS
namespace Go.Proofs.Ytmjdolgcgbiajaa
open Go.RowKit Pw

set_option maxRecDepth 100000 in
set_option maxHeartbeats 400000 in
theorem eqc_raw (f b r d f' b' r' d' : Int) (c : Bool) (w : World)
    (K : Hid (∀ w, Calls Try.prog 68 #[.agg #[.int .i64 b, .int .i64 r, .int .i64 d], .agg #[.int .i64 b', .int .i64 r', .int .i64 d']] w fun e w' => e = .returned (.bool c) ∧ RowKit.Below w.heap.size w w')) :
    Calls Try.prog 67 #[.agg #[.int .i64 f, .int .i64 b, .int .i64 r, .int .i64 d], .agg #[.int .i64 f', .int .i64 b', .int .i64 r', .int .i64 d']] w fun e w' => e = .returned (.bool c) ∧ RowKit.Below w.heap.size w w' := by
  go_enter Try.func67, Try.ntmps67
  go_wp2_with fail
  refine (K.out _).mono ?_
  rintro _ w1 ⟨rfl, hb⟩
  have HB := Lib.hid ((((Below.refl _ w).alloc (Nat.le_refl _) (.cells #[.int .i64 f, .int .i64 b, .int .i64 r, .int .i64 d] 71)).alloc (by simp) (.cells #[.int .i64 f', .int .i64 b', .int .i64 r', .int .i64 d'] 71)).trans (hb.mono (by simp; omega)))
  clear hb
  go_wp2
  go_ret
  exact ⟨rfl, HB.out⟩
theorem SP.Ok.ln {s : SP} (h : s.Ok) : Ln s.b s.r s.d := ⟨by have := h.2.2.1; omega, by have := h.2.2.2.1; omega, h.2.2.2.2.1, h.2.2.2.2.2⟩
theorem eqc_any (s t : SP) (w : World) (hs : s.Ok) (ht : t.Ok) : Calls Try.prog 67 #[s.V, t.V] w fun e w' => e = .returned (.bool (sameS s t)) ∧ RowKit.Below w.heap.size w w' :=
  eqc_raw s.f s.b s.r s.d t.f t.b t.r t.d _ w (fun w => same_any s.b s.r s.d t.b t.r t.d w hs.ln ht.ln)

def CompactTo (w : World) (g cap : Nat) (l : List SP) (e : Ending) (w' : World) : Prop := ∃ n, e = .returned (.slice (some ⟨g, 0, none⟩) n cap) ∧ SlS w' (some ⟨g, 0, none⟩) g n l ∧ But g w w'

/-- What stands in the row while it is being reduced: the reduced beginning, and behind it what stood there. -/
structure CInv (L dk : List SP) (m kk : Nat) : Prop where
  len : dk.length = L.length
  head : dk.take kk = redS (L.take m)
  keq : kk = (redS (L.take m)).length
  lt : kk + 1 ≤ m
  tail : ∀ j, kk ≤ j → dk[j]? = L[j]?
theorem CInv.start {L : List SP} {k : Nat} (h0 : 0 < k) (hk : k < L.length) (hd : ∀ (j : Nat) (h : j < L.length), 0 < j → j < k → sameS L[j] (L[j - 1]'(by omega)) = false) (hs : sameS L[k] (L[k - 1]'(by omega)) = true) : CInv L L (k + 1) k := by
  have e : redS (L.take (k + 1)) = L.take k := by rw [redS_take h0 hk, if_pos hs, redS_all (by omega) hd]
  exact ⟨rfl, e.symm, by rw [e, List.length_take]; omega, by omega, fun _ _ => rfl⟩
theorem CInv.skip {L dk : List SP} {m kk : Nat} (h : CInv L dk m kk) (h0 : 0 < m) (hm : m < L.length) (hs : sameS L[m] (L[m - 1]'(by omega)) = true) : CInv L dk (m + 1) kk := by
  have e : redS (L.take (m + 1)) = redS (L.take m) := by rw [redS_take h0 hm, if_pos hs]
  exact ⟨h.len, by rw [e]; exact h.head, by rw [e]; exact h.keq, by have := h.lt; omega, h.tail⟩
theorem CInv.keep {L dk : List SP} {m kk : Nat} (h : CInv L dk m kk) (h0 : 0 < m) (hm : m < L.length) (hs : sameS L[m] (L[m - 1]'(by omega)) = false) : CInv L (dk.set kk L[m]) (m + 1) (kk + 1) := by
  have e : redS (L.take (m + 1)) = redS (L.take m) ++ [L[m]] := by rw [redS_take h0 hm, if_neg (by rw [hs]; simp)]
  have hl := h.lt
  have hdl := h.len
  refine ⟨by rw [List.length_set]; exact h.len, ?_, by rw [e, List.length_append, ← h.keq]; rfl, by omega, fun j hj => ?_⟩
  · rw [e, ← h.head, List.take_succ_eq_append_getElem (by rw [List.length_set]; omega), List.take_set_of_le (Nat.le_refl _), List.getElem_set_self]
  · rw [List.getElem?_set_ne (by omega)]
    exact h.tail j (by omega)
theorem CInv.get {L dk : List SP} {m kk : Nat} (h : CInv L dk m kk) {j : Nat} (hj : kk ≤ j) (hl : j < L.length) : dk[j]'(by rw [h.len]; exact hl) = L[j] := by
  have := h.tail j hj
  rw [List.getElem?_eq_getElem (by rw [h.len]; exact hl), List.getElem?_eq_getElem hl] at this
  exact Option.some.inj this

set_option maxRecDepth 100000 in
set_option maxHeartbeats 4000000 in
theorem compact_any (L : List SP) (g n cap base : Nat) (w : World) (hO : OwnS w base (.slice (some ⟨g, 0, none⟩) n cap) L) (hn : L.length = n) (hok : ∀ s, s ∈ L → s.Ok) :
    Calls Try.prog 66 #[.slice (some ⟨g, 0, none⟩) n cap, .func (.func 67) #[] #[]] w fun e w' => CompactTo w g cap (redS L) e w' := by
  obtain ⟨hcap, _, hg, hcm⟩ := hO.le hn
  have HO := Lib.hid hO
  have HN := Lib.hid hn
  have HK := Lib.hid (fun (i j : Nat) (hi : i < L.length) (hj : j < L.length) (w : World) => eqc_any L[i] L[j] w (hok _ (List.getElem_mem hi)) (hok _ (List.getElem_mem hj)))
  unfold SP.V at HK
  clear hO hn hok
  by_cases h2 : n < 2
  · have h2z : (n : Int) < 2 := by omega
    have E := Lib.hid (show redS L = L from by
      have := HN.out
      have := redS_all (l := L) (m := L.length) (Nat.le_refl _) (fun j h h1 h2 => by omega)
      rwa [List.take_length] at this)
    go_enter Try.func66, Try.ntmps66
    go_wp2
    go_ret
    refine ⟨n, rfl, ?_, But.refl _ _⟩
    rw [E.out]
    exact SlS.of HO.out HN.out
  · have h2z : ¬ (n : Int) < 2 := by omega
    go_enter Try.func66, Try.ntmps66
    go_wp2_with fail
    go_loopg [5] n (fun q s5 wr => ∃ k : Nat, s5 = .int .i64 k ∧ 1 ≤ k ∧ k ≤ n ∧ n - k ≤ q ∧ Hid (RowKit.Below w.heap.size w wr) ∧ Hid (∀ (j : Nat) (h : j < L.length), 0 < j → j < k → sameS L[j] (L[j - 1]'(by omega)) = false))
    case atStart => exact ⟨1, rfl, by omega, by omega, by omega, Below.refl _ _, fun j h h1 h2 => by omega⟩
    case round =>
      obtain ⟨k, rfl, hk1, hk, hkq, HB, HD⟩ := hrel
      by_cases hlt : k < n
      · have hltz : (k : Int) < (n : Int) := by omega
        have hk1z : (1 : Int) ≤ (k : Int) := by omega
        have hkl : k < L.length := by rw [HN.out]; exact hlt
        have hkl' : k - 1 < L.length := by omega
        have HS := Lib.hid ((SlS.of HO.out HN.out).below HB.out)
        have hgr : g < wr.heap.size := by have := HB.out.size; omega
        have KX := Lib.hid (HK.out k (k - 1) hkl hkl')
        obtain ⟨x0, x1, x2, x3⟩ := HS.out.at hkl
        obtain ⟨y0, y1, y2, y3⟩ := HS.out.at hkl'
        obtain ⟨c, hc⟩ : ∃ c, c = sameS L[k] L[k - 1] := ⟨_, rfl⟩
        rw [← hc] at KX
        have HC := Lib.hid hc
        clear hc
        generalize L[k].f = a0 at *
        generalize L[k].b = a1 at *
        generalize L[k].r = a2 at *
        generalize L[k].d = a3 at *
        generalize L[k - 1].f = b0 at *
        generalize L[k - 1].b = b1 at *
        generalize L[k - 1].r = b2 at *
        generalize L[k - 1].d = b3 at *
        have l0 := cell_bw hgr x0
        have l1 := cell_bw hgr x1
        have l2 := cell_bw hgr x2
        have l3 := cell_bw hgr x3
        have m0 := cell_bw hgr y0
        have m1 := cell_bw hgr y1
        have m2 := cell_bw hgr y2
        have m3 := cell_bw hgr y3
        clear x0 x1 x2 x3 y0 y1 y2 y3
        cases c with
        | false =>
          have HD2 : Hid (∀ (j : Nat) (h : j < L.length), 0 < j → j < k + 1 → sameS L[j] (L[j - 1]'(by omega)) = false) := fun j h h1 h2 => by
            by_cases e : j = k
            · subst e; exact HC.out.symm
            · exact HD.out j h h1 (by omega)
          clear HC HD HS
          go_wp2_with fail
          refine wp_region_bw mixed (by kernel_rfl) ?_
          repeat (go_big_quiet_step ((with_reducible refine Calls.bw_of (KX.out _))))
          refine wpQuiet_nil ?_
          intro W HW
          replace HW := bw_out HW
          go_wp2
          go_roundg (n - (k + 1))
          case measure => omega
          case rel => exact ⟨k + 1, by go_num, by omega, by omega, by omega, HB.out.trans (HW.mono HB.out.size), HD2⟩
        | true =>
          go_wp2_with fail
          refine wp_region_bw mixed (by kernel_rfl) ?_
          repeat (go_big_quiet_step ((with_reducible refine Calls.bw_of (KX.out _))))
          refine wpQuiet_nil ?_
          intro W HW
          replace HW := bw_out HW
          have HB2 := Lib.hid (HB.out.trans (HW.mono HB.out.size))
          clear HB HW l0 l1 l2 l3 m0 m1 m2 m3
          have hck : ¬ cap = k := by omega
          have HO2 := Lib.hid (HO.out.below HB2.out)
          have HI0 := Lib.hid (CInv.start (L := L) (k := k) (by omega) hkl HD.out HC.out.symm)
          have HB3 : Hid (But g w W) := But.of HB2.out
          clear HD HC HS KX HB2
          go_wp2_with fail
          go_loopg [5, 7] n (fun q s5 s7 wi => ∃ (kk k2 : Nat) (dk : List SP), s5 = .int .i64 kk ∧ s7 = .int .i64 k2 ∧ 1 ≤ k2 ∧ k + k2 ≤ n ∧ n - (k + k2) ≤ q ∧ kk + 1 ≤ k + k2 ∧ Hid (OwnS wi base (.slice (some ⟨g, 0, none⟩) n cap) dk) ∧ Hid (But g w wi) ∧ Hid (CInv L dk (k + k2) kk))
          case atStart => exact ⟨k, 1, L, rfl, rfl, by omega, by omega, by omega, by omega, HO2.out, HB3.out, HI0.out⟩
          case round =>
            obtain ⟨kk, k2, dk, rfl, rfl, h1, hle, hq2, hkk, HOi, HBi, HI⟩ := hrel
            have hdn : dk.length = n := by rw [HI.out.len]; exact HN.out
            have HDN := Lib.hid hdn
            by_cases hlt2 : k + k2 < n
            · have hz2 : (k2 : Int) < ((n - k : Nat) : Int) := by omega
              have h1z : (1 : Int) ≤ (k2 : Int) := by omega
              have hml : k + k2 < L.length := by rw [HN.out]; exact hlt2
              have hml' : k + k2 - 1 < L.length := by omega
              have HSi := Lib.hid (SlS.of HOi.out hdn)
              have hgi := (HOi.out.le hdn).2.2.1
              have KX := Lib.hid (HK.out (k + k2) (k + k2 - 1) hml hml')
              have gx := HI.out.get (j := k + k2) (by omega) hml
              have gy := HI.out.get (j := k + k2 - 1) (by omega) hml'
              obtain ⟨x0, x1, x2, x3⟩ := HSi.out.at (k := k + k2) (by omega)
              obtain ⟨y0, y1, y2, y3⟩ := HSi.out.at (k := k + k2 - 1) (by omega)
              obtain ⟨z0, z1, z2, z3⟩ := HSi.out.at (k := kk) (by omega)
              rw [gx] at x0 x1 x2 x3
              rw [gy] at y0 y1 y2 y3
              rw [show (k + k2) * 4 = k * 4 + k2 * 4 by omega] at x0 x1 x2 x3
              rw [show (k + k2 - 1) * 4 = k * 4 + (k2 - 1) * 4 by omega] at y0 y1 y2 y3
              obtain ⟨c, hc⟩ : ∃ c, c = sameS L[k + k2] L[k + k2 - 1] := ⟨_, rfl⟩
              rw [← hc] at KX
              have HC := Lib.hid hc
              obtain ⟨X, hX⟩ : ∃ X, X = L[k + k2] := ⟨_, rfl⟩
              rw [← hX] at x0 x1 x2 x3 KX
              have HX := Lib.hid hX
              clear hc gx gy hX
              generalize L[k + k2 - 1].f = b0 at *
              generalize L[k + k2 - 1].b = b1 at *
              generalize L[k + k2 - 1].r = b2 at *
              generalize L[k + k2 - 1].d = b3 at *
              generalize dk[kk].f = e0 at *
              generalize dk[kk].b = e1 at *
              generalize dk[kk].r = e2 at *
              generalize dk[kk].d = e3 at *
              clear hdn
              have l0 := cell_bw hgi x0
              have l1 := cell_bw hgi x1
              have l2 := cell_bw hgi x2
              have l3 := cell_bw hgi x3
              have m0 := cell_bw hgi y0
              have m1 := cell_bw hgi y1
              have m2 := cell_bw hgi y2
              have m3 := cell_bw hgi y3
              have n0 := cell_bw hgi z0
              have n1 := cell_bw hgi z1
              have n2 := cell_bw hgi z2
              have n3 := cell_bw hgi z3
              clear x0 x1 x2 x3 y0 y1 y2 y3 z0 z1 z2 z3
              cases c with
              | true =>
                have HI2 := Lib.hid (HI.out.skip (by omega) hml HC.out.symm)
                clear HC HI n0 n1 n2 n3
                go_wp2_with fail
                refine wp_region_bw mixed (by kernel_rfl) ?_
                repeat (go_big_quiet_step ((with_reducible refine Calls.bw_of (KX.out _))))
                refine wpQuiet_nil ?_
                intro W HW
                replace HW := bw_out HW
                go_wp2
                go_roundg (n - (k + (k2 + 1)))
                case measure => omega
                case rel => exact ⟨kk, k2 + 1, dk, rfl, by go_num, by omega, by omega, Nat.le_refl _, by omega, HOi.out.below HW, HBi.out.more HW, HI2.out⟩
              | false =>
                have HI2 := Lib.hid (HI.out.keep (by omega) hml HC.out.symm)
                clear HC HI
                go_wp2_with fail
                refine wp_region_bw mixed (by kernel_rfl) ?_
                repeat (go_big_quiet_step ((with_reducible refine Calls.bw_of (KX.out _))))
                refine wpQuiet_nil ?_
                intro W HW
                replace HW := bw_out HW
                have x0 := l0 ⟨W, HW⟩
                have x1 := l1 ⟨W, HW⟩
                have x2 := l2 ⟨W, HW⟩
                have x3 := l3 ⟨W, HW⟩
                have z0 := n0 ⟨W, HW⟩
                have z1 := n1 ⟨W, HW⟩
                have z2 := n2 ⟨W, HW⟩
                have z3 := n3 ⟨W, HW⟩
                dsimp only at x0 x1 x2 x3 z0 z1 z2 z3
                have HOw := Lib.hid (HOi.out.below HW)
                have f0 := HOw.out.fz HDN.out (kk * 4)
                have f1 := HOw.out.fz HDN.out (kk * 4 + 1)
                have f2 := HOw.out.fz HDN.out (kk * 4 + 2)
                have f3 := HOw.out.fz HDN.out (kk * 4 + 3)
                have HBw : Hid (But g w W) := HBi.out.more HW
                clear l0 l1 l2 l3 m0 m1 m2 m3 n0 n1 n2 n3 HW
                go_wp2
                go_roundg (n - (k + (k2 + 1)))
                case measure => omega
                case rel =>
                  refine ⟨kk + 1, k2 + 1, dk.set kk X, by go_num, by go_num, by omega, by omega, Nat.le_refl _, by omega, HOw.out.put HDN.out kk X (by have := HDN.out; omega), ?_, by rw [HX.out]; exact HI2.out⟩
                  exact (((HBw.out.setCell _ _).setCell _ _).setCell _ _).setCell _ _
            · have hend : k + k2 = n := by omega
              have hz2 : ¬ (k2 : Int) < ((n - k : Nat) : Int) := by omega
              have hck2 : ¬ cap = kk := by omega
              have hkn : kk < n := by omega
              have hcl : ∀ ty, (Builtin.clear_ #[62] ty #[.slice (some ⟨g, kk * 4, none⟩) (n - kk) (cap - kk)]).run Try.prog wr = .ok (.tuple #[]) (wr.setCells g (kk * 4) (List.replicate ((n - kk) * 4) (.int .i64 0))) :=
                fun ty => run_clearS wr ty g (kk * 4) (n - kk) (cap - kk) (by omega) (fun j hj => by
                  have := (SlS.of HOi.out hdn).cells (kk * 4 + j) ((flS dk)[kk * 4 + j]'(by rw [flS_len, hdn]; omega)) (List.getElem?_eq_getElem _)
                  rw [this]; rfl) (fun j => HOi.out.fz hdn j)
              have HS2 : Hid (SlS (wr.setCells g (kk * 4) (List.replicate ((n - kk) * 4) (.int .i64 0))) (some ⟨g, 0, none⟩) g kk (redS L)) := by
                have hI := HI.out
                have e1 : L.take (k + k2) = L := by rw [hend]; exact List.take_of_length_le (by have := HN.out; omega)
                have h3 := hI.head
                have h4 := hI.keq
                rw [e1] at h3 h4
                refine ⟨h4.symm, fun _ => rfl, fun j u hu => ?_, fun _ => ?_⟩
                · have hj := (List.getElem?_eq_some_iff.1 hu).1
                  rw [flS_len, ← h4] at hj
                  rw [World.cell?_setCells_out g _ _ _ _ (fun _ _ => .inl hj)]
                  refine (SlS.of HOi.out hdn).cells j u ?_
                  have e5 : dk = dk.take kk ++ dk.drop kk := (List.take_append_drop kk dk).symm
                  rw [e5, flS_app, h3, List.getElem?_append_left (by rw [flS_len, ← h4]; exact hj)]
                  exact hu
                · have := (HOi.out.le hdn).2.2.1
                  exact Nat.lt_of_lt_of_le this (below_sets (B := 0) (a := wr) (Nat.zero_le _) _ _ _ (Below.refl _ _)).size
              have HB4 := Lib.hid (But.sets (List.replicate ((n - kk) * 4) (.int .i64 0)) (kk * 4) wr HBi.out)
              generalize (wr.setCells g (kk * 4) (List.replicate ((n - kk) * 4) (.int .i64 0))) = W9 at *
              clear hdn HI
              go_wp2
              go_ret
              exact ⟨kk, rfl, HS2.out, HB4.out⟩
      · obtain rfl : k = n := by omega
        have hltz : ¬ (k : Int) < (k : Int) := by omega
        have E := Lib.hid (show redS L = L from by
          have := HN.out
          have := redS_all (l := L) (m := L.length) (Nat.le_refl _) (fun j h h1 h2 => HD.out j h h1 (by omega))
          rwa [List.take_length] at this)
        go_wp2
        go_ret
        refine ⟨k, rfl, ?_, But.of HB.out⟩
        rw [E.out]
        exact (SlS.of HO.out HN.out).below HB.out

set_option maxRecDepth 100000 in
set_option maxHeartbeats 400000 in
theorem reduced_any (L : List SP) (g n cap base : Nat) (w : World) (hO : OwnS w base (.slice (some ⟨g, 0, none⟩) n cap) L) (hn : L.length = n) (hok : ∀ s, s ∈ L → s.Ok) :
    Calls Try.prog 48 #[.slice (some ⟨g, 0, none⟩) n cap] w fun e w' => CompactTo w g cap (redS L) e w' := by
  have K := Lib.hid (compact_any L g n cap base w hO hn hok)
  clear hO hn hok
  go_enter Try.func48, Try.ntmps48
  go_wp2_with fail
  refine K.out.mono ?_
  rintro _ w1 ⟨m, rfl, hs, hb⟩
  have HS := Lib.hid hs
  have HB := Lib.hid hb
  clear hs hb
  go_wp2
  go_ret
  exact ⟨m, rfl, HS.out, HB.out⟩
end Go.Proofs.Ytmjdolgcgbiajaa
