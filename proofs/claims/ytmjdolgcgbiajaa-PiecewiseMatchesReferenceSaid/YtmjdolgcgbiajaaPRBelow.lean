/-
  Contract of the reference's Below.
-/
import Derived.Test.YtmjdolgcgbiajaaPRLeast
import Derived.Test.YtmjdolgcgbiajaaPBelowW
namespace Go.Proofs.Ytmjdolgcgbiajaa
open Go.RowKit Go.Shelf Pw

set_option maxRecDepth 100000 in
set_option maxHeartbeats 1000000 in
theorem rbelow_bad (f g : List RP) (pf pg : Option Addr) (bf of cf lf bg og cg lg : Nat) (lo hi : Int) (w : World) (hS : SlP w pf bf of lf f) (hS' : SlP w pg bg og lg g) (b1 b2 : Bool) (hv : vR f = b1) (hv' : vR g = b2)
    (hx : b1 = false ∨ b1 = true ∧ b2 = false ∨ b1 = true ∧ b2 = true ∧ lo < 0 ∨ b1 = true ∧ b2 = true ∧ ¬ lo < 0 ∧ hi < lo ∨ b1 = true ∧ b2 = true ∧ ¬ lo < 0 ∧ ¬ hi < lo ∧ 100000 < hi) : Calls Try.prog 24 #[.slice pf lf cf, .slice pg lg cg, .agg #[.int .i64 lo, .int .i64 hi]] w fun e w' =>
    e = .returned (.tuple #[.int .i64 0, .bool false, .int .i64 1]) ∧ RowKit.Below w.heap.size w w' := by
  have K := Lib.hid (fun w' (h : RowKit.Below w.heap.size w w') => rvalid_b f b1 hv pf bf of cf lf w' (hS.below h))
  have K' := Lib.hid (fun w' (h : RowKit.Below w.heap.size w w') => rvalid_b g b2 hv' pg bg og cg lg w' (hS'.below h))
  clear hS hv hS' hv'
  go_enter Try.func24, Try.ntmps24
  go_wp2_with fail
  obtain ⟨W0, hW0⟩ : ∃ W0, W0 = w.alloc (.cells #[.int .i64 lo, .int .i64 hi] 26) := ⟨_, rfl⟩
  have z1 : W0.heap[w.heap.size]? = some (.cells #[.int .i64 lo, .int .i64 hi] 26 (0, 0)) := by rw [hW0]; exact World.alloc_heap_new w _
  have zB : RowKit.Below w.heap.size w W0 := by rw [hW0]; exact (Below.refl _ _).alloc (Nat.le_refl _) _
  have hz1 : w.heap.size < W0.heap.size := by rw [hW0]; simp
  rw [← hW0]
  clear hW0
  refine (K.out W0 zB).mono ?_
  rintro _ w1 ⟨rfl, hb⟩
  have z11 : w1.heap[w.heap.size]? = _ := (hb.block _ hz1).trans z1
  have HB := Lib.hid (zB.trans (hb.mono zB.size))
  have hz11 : w.heap.size < w1.heap.size := (Array.getElem?_eq_some_iff.1 z11).1
  clear hb z1 zB
  go_wp2_with fail
  refine (K'.out w1 HB.out).mono ?_
  rintro _ w2 ⟨rfl, hb⟩
  obtain ⟨r0, r1⟩ := rng_cells ((hb.block _ hz11).trans z11)
  have HB2 := Lib.hid (HB.out.trans (hb.mono HB.out.size))
  clear hb HB z11 hz11 hz1
  obtain rfl | ⟨rfl, rfl⟩ | ⟨rfl, rfl, h0⟩ | ⟨rfl, rfl, h0, h1⟩ | ⟨rfl, rfl, h0, h1, h2⟩ := hx
  all_goals
    go_wp2
    go_ret3
    exact ⟨rfl, HB2.out⟩

theorem Seg.lss {f g : List RP} {X Y : Nat} (h : Seg f g X Y) {z : Int} (h1 : (X : Int) ≤ z) (h2 : z < Y) : Pw.lss (AA f) (AA g) z = decide ((pA (AA f) X).at z < (pA (AA g) X).at z) := by
  obtain ⟨e1, e2⟩ := h.const h1 h2
  unfold Pw.lss vl
  rw [e1, e2]
/-- Between two places where pieces begin the order turns at most once. -/
theorem Seg.once {f g : List RP} {X Y : Nat} (h : Seg f g X Y) {a b c : Int} (h1 : (X : Int) ≤ a) (h2 : a ≤ b) (h3 : b ≤ c) (h4 : c < Y) (ha : Pw.lss (AA f) (AA g) a = false) (hb : Pw.lss (AA f) (AA g) b = true) : Pw.lss (AA f) (AA g) c = true := by
  rw [h.lss (by omega) (by omega)] at ha hb ⊢
  rw [less_mono (x := a) (y := b) (z := c) h2 h3 (by rw [ha, hb]; simp), hb]

set_option maxRecDepth 100000 in
set_option maxHeartbeats 6000000 in
theorem rbelow_yes (f g : List RP) (pf pg : Option Addr) (bf of cf lf bg og cg lg lo hi : Nat) (w : World) (hS : SlP w pf bf of lf f) (hS' : SlP w pg bg og lg g) (hf : VR f) (hg : VR g) (h1 : lo ≤ hi) (h2 : hi ≤ 100000) :
    Calls Try.prog 24 #[.slice pf lf cf, .slice pg lg cg, .agg #[.int .i64 lo, .int .i64 hi]] w fun e w' => e = .returned (.tuple #[.int .i64 (belR (AA f) (AA g) lo hi).1, .bool (belR (AA f) (AA g) lo hi).2, .int .i64 0]) ∧ RowKit.Below w.heap.size w w' := by
  have K := Lib.hid (fun w' (h : RowKit.Below w.heap.size w w') => rvalid_b f true (vR_iff.2 hf) pf bf of cf lf w' (hS.below h))
  have K' := Lib.hid (fun w' (h : RowKit.Below w.heap.size w w') => rvalid_b g true (vR_iff.2 hg) pg bg og cg lg w' (hS'.below h))
  have KS := Lib.hid (fun w' (h : RowKit.Below w.heap.size w w') => rstarts_any f g pf pg bf of cf lf bg og cg lg w' (hS.below h) (hS'.below h) hf hg)
  have HS := Lib.hid hS
  have HS' := Lib.hid hS'
  have HVf := Lib.hid hf
  have HVg := Lib.hid hg
  obtain ⟨RX, hRX⟩ : ∃ R1, R1 = (belR (AA f) (AA g) lo hi).1 := ⟨_, rfl⟩
  obtain ⟨RB, hRB⟩ : ∃ R2, R2 = (belR (AA f) (AA g) lo hi).2 := ⟨_, rfl⟩
  rw [← hRX, ← hRB]
  have HR := Lib.hid (And.intro hRX hRB)
  obtain ⟨M, hM⟩ : ∃ M : Nat, M = 100001 := ⟨_, rfl⟩
  have hlen := ps_len (P := isS (AA f) (AA g)) (n := 100001)
  have hseg := fun (k : Nat) (h : k < (ps (isS (AA f) (AA g)) 100001).length) => seg_at (f := f) (g := g) h
  have hpos : 0 < (ps (isS (AA f) (AA g)) 100001).length := List.length_pos_of_mem (ps_mem.2 ⟨Int.le_refl 0, by omega, by unfold isS; rw [hf.va.zero]; rfl⟩)
  have hzero : ∀ X : Nat, (ps (isS (AA f) (AA g)) 100001)[0]'hpos = X → X = 0 := fun X hX => by
    obtain ⟨Y, h1, h2, h3, h4, _⟩ := ps_get hpos
    rw [h1] at hX
    obtain rfl : Y = X := by omega
    apply Decidable.byContradiction
    intro hn
    have : (0 : Int) ∈ ps (isS (AA f) (AA g)) Y := ps_mem.2 ⟨Int.le_refl 0, by omega, by unfold isS; rw [hf.va.zero]; rfl⟩
    rw [← h4] at this
    simp at this
  generalize ps (isS (AA f) (AA g)) 100001 = S at *
  have HLEN := Lib.hid hlen
  have HSEG := Lib.hid hseg
  have HZERO := Lib.hid hzero
  have HMM := Lib.hid hM
  have h0 : ¬ (lo : Int) < 0 := by omega
  have h1z : ¬ (hi : Int) < (lo : Int) := by omega
  have h2z : ¬ 100000 < (hi : Int) := by omega
  clear hS hS' hf hg hRX hRB hlen hseg hzero hM
  go_enter Try.func24, Try.ntmps24
  go_wp2_with fail
  obtain ⟨W0, hW0⟩ : ∃ W0, W0 = w.alloc (.cells #[.int .i64 lo, .int .i64 hi] 26) := ⟨_, rfl⟩
  have z0 : W0.heap[w.heap.size]? = some (.cells #[.int .i64 lo, .int .i64 hi] 26 (0, 0)) := by rw [hW0]; exact World.alloc_heap_new w _
  have zB : RowKit.Below w.heap.size w W0 := by rw [hW0]; exact (Below.refl _ _).alloc (Nat.le_refl _) _
  have hz0 : w.heap.size < W0.heap.size := by rw [hW0]; simp
  rw [← hW0]
  clear hW0
  refine (K.out W0 zB).mono ?_
  rintro _ w1 ⟨rfl, hb⟩
  have z1 : w1.heap[w.heap.size]? = _ := (hb.block _ hz0).trans z0
  have HB := Lib.hid (zB.trans (hb.mono zB.size))
  clear hb zB z0 hz0
  go_wp2_with fail
  refine (K'.out w1 HB.out).mono ?_
  rintro _ w2 ⟨rfl, hb⟩
  have z2 : w2.heap[w.heap.size]? = _ := (hb.block _ (Array.getElem?_eq_some_iff.1 z1).1).trans z1
  have HB2 := Lib.hid (HB.out.trans (hb.mono HB.out.size))
  clear hb HB z1
  obtain ⟨r0, r1⟩ := rng_cells z2
  go_wp2_with fail
  refine (KS.out _ HB2.out).mono ?_
  rintro _ w3 ⟨ps', bs, cs, rfl, hs, hb⟩
  have HB3 := Lib.hid (HB2.out.trans (hb.mono HB2.out.size))
  have HZ3 : Hid (w3.heap[w.heap.size]? = some (.cells #[.int .i64 lo, .int .i64 hi] 26 (0, 0))) := (hb.block _ (Array.getElem?_eq_some_iff.1 z2).1).trans z2
  have HSS := Lib.hid hs
  have hps := hs.ptr
  obtain ⟨m, hm⟩ : ∃ m, m = S.length := ⟨_, rfl⟩
  rw [← hm] at HSS hps hpos ⊢
  have HM := Lib.hid hm
  have hm1 : m ≤ 100001 := by have := HLEN.out; omega
  clear hb hs hm HB2 K K' KS r0 r1 z2
  go_wp2_with fail
  go_loopg [12] m (fun q s12 wr => ∃ k X : Nat, s12 = .int .i64 k ∧ k ≤ m ∧ m - k ≤ q ∧ X ≤ 100001 ∧ (∀ h : k < S.length, S[k] = X) ∧ (¬ k < S.length → X = M) ∧ Hid (RowKit.Below w3.heap.size w3 wr) ∧ Hid (∀ y : Int, (lo : Int) ≤ y → y < X → y ≤ hi → Pw.lss (AA f) (AA g) y = false))
  case atStart =>
    obtain ⟨X, Y, h1, _⟩ := HSEG.out 0 (by rw [← HM.out]; exact hpos)
    have e := HZERO.out X h1
    subst e
    exact ⟨0, 0, rfl, by omega, by omega, by omega, fun _ => h1, fun h => absurd (by rw [← HM.out]; exact hpos) h, Below.refl _ _, fun y a b => absurd b (by omega)⟩
  case round =>
    obtain ⟨k, X, rfl, hk, hkq, hX, hXk, hXM, HBr, HI⟩ := hrel
    by_cases hlt : k < m
    · have hltz : (k : Int) < (m : Int) := by omega
      have hp := hps (by omega)
      subst hp
      have hkl : k < S.length := by rw [← HM.out]; exact hlt
      obtain ⟨X', Y, s1, s2, s3, sg⟩ := HSEG.out k hkl
      have eX : X' = X := by have := hXk hkl; omega
      subst eX
      have x0 := (HSS.out.below HBr.out).cells k hkl
      have hZw : w.heap.size < wr.heap.size := Nat.lt_of_lt_of_le (Array.getElem?_eq_some_iff.1 HZ3.out).1 HBr.out.size
      have hSw : bs < wr.heap.size := Nat.lt_of_lt_of_le (HSS.out.lt (by omega)) HBr.out.size
      rw [s1] at x0
      obtain ⟨r0, r1⟩ := rng_cells ((HBr.out.block _ (Array.getElem?_eq_some_iff.1 HZ3.out).1).trans HZ3.out)
      have hY1 := sg.lt
      have hY2 := sg.le
      obtain ⟨Z, hZ⟩ : ∃ Z : Nat, Y = Z + 1 := ⟨Y - 1, by omega⟩
      have HSG := Lib.hid sg
      have HNX := Lib.hid (And.intro s2 s3)
      have HXX := Lib.hid (And.intro hXk hXM)
      clear sg s1 hXk hXM
      by_cases hF : lo ≤ X'
      · have hFz : (lo : Int) ≤ (X' : Int) := by omega
        go_wp2_with fail
        replace r0 := cell_bw hZw r0
        replace r1 := cell_bw hZw r1
        replace x0 := cell_bw hSw x0
        refine wp_region_bw mixed (by kernel_rfl) ?_
        repeat (go_big_quiet_step (fail))
        refine wpQuiet_nil ?_
        intro W HW
        replace HW := bw_out HW
        clear r0 r1 x0
        have HB9 := Lib.hid (HBr.out.trans (HW.mono HBr.out.size))
        obtain ⟨r0, r1⟩ := rng_cells ((HB9.out.block _ (Array.getElem?_eq_some_iff.1 HZ3.out).1).trans HZ3.out)
        have hSr := HSS.out.below HB9.out
        clear HW hZw hSw
        by_cases hnx : k + 1 < m
        · have hnxz : (k : Int) + 1 < (m : Int) := by omega
          have y0 := hSr.cells (k + 1) (by rw [← HM.out]; exact hnx)
          rw [s2 (by rw [← HM.out]; exact hnx), hZ] at y0
          have y1 : W.cell? ⟨bs, k + 1, none⟩ = some (.int .i64 ((Z : Int) + 1)) := y0
          clear s2 s3 y0 hSr
          by_cases hL : hi ≤ Z
          · have hLz : (hi : Int) ≤ (Z : Int) := by omega
            by_cases hfl : hi < X'
            · have hflz : (hi : Int) < (X' : Int) := by omega
              have HI2 : Hid (∀ y : Int, (lo : Int) ≤ y → y < Y → y ≤ hi → Pw.lss (AA f) (AA g) y = false) := fun y a b c => by
                by_cases hy : y < X'
                · exact HI.out y a hy c
                · omega
              go_wp2
              go_roundg (m - (k + 1))
              case measure => omega
              case rel => exact ⟨k + 1, Y, by go_num, by omega, by omega, hY2, fun h => HNX.out.1 h, fun h => by rw [HMM.out]; exact HNX.out.2 h, HB9.out, HI2.out⟩
            · have hflz : ¬ (hi : Int) < (X' : Int) := by omega
              obtain ⟨n1, hn1⟩ : ∃ n, n = (vl (AA f) (X' : Nat)).num := ⟨_, rfl⟩
              obtain ⟨d1, hd1⟩ : ∃ d : Int, d = (vl (AA f) (X' : Nat)).den := ⟨_, rfl⟩
              obtain ⟨n2, hn2⟩ : ∃ n, n = (vl (AA g) (X' : Nat)).num := ⟨_, rfl⟩
              obtain ⟨d2, hd2⟩ : ∃ d : Int, d = (vl (AA g) (X' : Nat)).den := ⟨_, rfl⟩
              obtain ⟨z1, hz1⟩ : ∃ z, z = cm (vl (AA f) (X' : Nat)) (vl (AA g) (X' : Nat)) := ⟨_, rfl⟩
              have KC := Lib.hid (fun w => rcompare_c hn1 hd1 hn2 hd2 hz1 (vl_bd HVf.out (x := (X' : Nat)) (by omega) (by omega)) (vl_bd HVg.out (x := (X' : Nat)) (by omega) (by omega)) w)
              have hl1 : z1 < 0 ↔ Pw.lss (AA f) (AA g) (X' : Nat) = true := by rw [hz1, cm_neg]; unfold Pw.lss; rw [decide_eq_true_eq]
              have HN1 := Lib.hid hn1
              have HD1 := Lib.hid hd1
              have HN2 := Lib.hid hn2
              have HD2 := Lib.hid hd2
              clear hn1 hd1 hn2 hd2 hz1
              by_cases hz : z1 < 0
              · have hyes := belR_yes (F := AA f) (G := AA g) (lo := lo) (hi := hi) (x := (X' : Nat)) (hl1.1 hz) (by omega) (by omega) fun y a b => HI.out y a (by omega) (by omega)
                have HE : Hid (RX = (X' : Nat) ∧ RB = true) := ⟨by rw [HR.out.1, hyes], by rw [HR.out.2, hyes]⟩
                clear hyes hl1
                go_wp2_with fail
                refine (val_n HVf.out HN1.out HD1.out (x := (X' : Nat)) (by omega) (by omega) _ _ _ _ _ _ (HS.out.below (HB3.out.trans (HB9.out.mono HB3.out.size)))).mono ?_
                rintro _ u0a ⟨rfl, hb⟩
                have HBs0a := Lib.hid (HB9.out.trans (hb.mono HB9.out.size))
                clear hb
                go_wp2_with fail
                refine (val_n HVg.out HN2.out HD2.out (x := (X' : Nat)) (by omega) (by omega) _ _ _ _ _ _ (HS'.out.below (HB3.out.trans (HBs0a.out.mono HB3.out.size)))).mono ?_
                rintro _ u1a ⟨rfl, hb⟩
                have HBs1a := Lib.hid (HBs0a.out.trans (hb.mono HBs0a.out.size))
                clear hb
                go_wp2_with fail
                refine (KC.out _).mono ?_
                rintro _ u2a ⟨rfl, hb⟩
                have HBa := Lib.hid (HBs1a.out.trans (hb.mono HBs1a.out.size))
                clear hb
                go_wp2
                go_ret3
                exact ⟨by have h1 := HE.out.1; have h2 := HE.out.2; subst h1 h2; rfl, (HB3.out.trans (HBa.out.mono HB3.out.size))⟩
              · have hf1 : Pw.lss (AA f) (AA g) (X' : Nat) = false := by
                  cases h : Pw.lss (AA f) (AA g) (X' : Nat) with
                  | false => rfl
                  | true => exact absurd (hl1.2 h) hz
                clear hl1
                obtain ⟨n3, hn3⟩ : ∃ n, n = (vl (AA f) (hi : Nat)).num := ⟨_, rfl⟩
                obtain ⟨d3, hd3⟩ : ∃ d : Int, d = (vl (AA f) (hi : Nat)).den := ⟨_, rfl⟩
                obtain ⟨n4, hn4⟩ : ∃ n, n = (vl (AA g) (hi : Nat)).num := ⟨_, rfl⟩
                obtain ⟨d4, hd4⟩ : ∃ d : Int, d = (vl (AA g) (hi : Nat)).den := ⟨_, rfl⟩
                obtain ⟨z2, hz2⟩ : ∃ z, z = cm (vl (AA f) (hi : Nat)) (vl (AA g) (hi : Nat)) := ⟨_, rfl⟩
                have KC2 := Lib.hid (fun w => rcompare_c hn3 hd3 hn4 hd4 hz2 (vl_bd HVf.out (x := (hi : Nat)) (by omega) (by omega)) (vl_bd HVg.out (x := (hi : Nat)) (by omega) (by omega)) w)
                have hl2 : z2 < 0 ↔ Pw.lss (AA f) (AA g) (hi : Nat) = true := by rw [hz2, cm_neg]; unfold Pw.lss; rw [decide_eq_true_eq]
                have HN3 := Lib.hid hn3
                have HD3 := Lib.hid hd3
                have HN4 := Lib.hid hn4
                have HD4 := Lib.hid hd4
                clear hn3 hd3 hn4 hd4 hz2
                by_cases hzz : 0 ≤ z2
                · have HI2 : Hid (∀ y : Int, (lo : Int) ≤ y → y < Y → y ≤ hi → Pw.lss (AA f) (AA g) y = false) := fun y a b c => by
                    by_cases hy : y < X'
                    · exact HI.out y a hy c
                    · cases h : Pw.lss (AA f) (AA g) y with
                      | false => rfl
                      | true => exact absurd (hl2.2 (HSG.out.once (a := (X' : Nat)) (b := y) (c := (hi : Nat)) (by omega) (by omega) (by omega) (by omega) hf1 h)) (by omega)
                  clear hf1 hl2
                  go_wp2_with fail
                  refine (val_n HVf.out HN1.out HD1.out (x := (X' : Nat)) (by omega) (by omega) _ _ _ _ _ _ (HS.out.below (HB3.out.trans (HB9.out.mono HB3.out.size)))).mono ?_
                  rintro _ u0a ⟨rfl, hb⟩
                  have HBs0a := Lib.hid (HB9.out.trans (hb.mono HB9.out.size))
                  clear hb
                  go_wp2_with fail
                  refine (val_n HVg.out HN2.out HD2.out (x := (X' : Nat)) (by omega) (by omega) _ _ _ _ _ _ (HS'.out.below (HB3.out.trans (HBs0a.out.mono HB3.out.size)))).mono ?_
                  rintro _ u1a ⟨rfl, hb⟩
                  have HBs1a := Lib.hid (HBs0a.out.trans (hb.mono HBs0a.out.size))
                  clear hb
                  go_wp2_with fail
                  refine (KC.out _).mono ?_
                  rintro _ u2a ⟨rfl, hb⟩
                  have HBa := Lib.hid (HBs1a.out.trans (hb.mono HBs1a.out.size))
                  clear hb
                  go_wp2_with fail
                  refine (val_n HVf.out HN3.out HD3.out (x := (hi : Nat)) (by omega) (by omega) _ _ _ _ _ _ (HS.out.below (HB3.out.trans (HBa.out.mono HB3.out.size)))).mono ?_
                  rintro _ u0b ⟨rfl, hb⟩
                  have HBs0b := Lib.hid (HBa.out.trans (hb.mono HBa.out.size))
                  clear hb
                  go_wp2_with fail
                  refine (val_n HVg.out HN4.out HD4.out (x := (hi : Nat)) (by omega) (by omega) _ _ _ _ _ _ (HS'.out.below (HB3.out.trans (HBs0b.out.mono HB3.out.size)))).mono ?_
                  rintro _ u1b ⟨rfl, hb⟩
                  have HBs1b := Lib.hid (HBs0b.out.trans (hb.mono HBs0b.out.size))
                  clear hb
                  go_wp2_with fail
                  refine (KC2.out _).mono ?_
                  rintro _ u2b ⟨rfl, hb⟩
                  have HBb := Lib.hid (HBs1b.out.trans (hb.mono HBs1b.out.size))
                  clear hb
                  go_wp2
                  go_roundg (m - (k + 1))
                  case measure => omega
                  case rel => exact ⟨k + 1, Y, by go_num, by omega, by omega, hY2, fun h => HNX.out.1 h, fun h => by rw [HMM.out]; exact HNX.out.2 h, HBb.out, HI2.out⟩
                · have hL2 : Pw.lss (AA f) (AA g) (hi : Nat) = true := hl2.1 (by omega)
                  have hne : X' ≠ hi := fun e => by rw [e, hL2] at hf1; cases hf1
                  have HF0 := Lib.hid hf1
                  have HL0 := Lib.hid hL2
                  clear hf1 hl2 hL2
                  go_wp2_with fail
                  refine (val_n HVf.out HN1.out HD1.out (x := (X' : Nat)) (by omega) (by omega) _ _ _ _ _ _ (HS.out.below (HB3.out.trans (HB9.out.mono HB3.out.size)))).mono ?_
                  rintro _ u0a ⟨rfl, hb⟩
                  have HBs0a := Lib.hid (HB9.out.trans (hb.mono HB9.out.size))
                  clear hb
                  go_wp2_with fail
                  refine (val_n HVg.out HN2.out HD2.out (x := (X' : Nat)) (by omega) (by omega) _ _ _ _ _ _ (HS'.out.below (HB3.out.trans (HBs0a.out.mono HB3.out.size)))).mono ?_
                  rintro _ u1a ⟨rfl, hb⟩
                  have HBs1a := Lib.hid (HBs0a.out.trans (hb.mono HBs0a.out.size))
                  clear hb
                  go_wp2_with fail
                  refine (KC.out _).mono ?_
                  rintro _ u2a ⟨rfl, hb⟩
                  have HBa := Lib.hid (HBs1a.out.trans (hb.mono HBs1a.out.size))
                  clear hb
                  go_wp2_with fail
                  refine (val_n HVf.out HN3.out HD3.out (x := (hi : Nat)) (by omega) (by omega) _ _ _ _ _ _ (HS.out.below (HB3.out.trans (HBa.out.mono HB3.out.size)))).mono ?_
                  rintro _ u0b ⟨rfl, hb⟩
                  have HBs0b := Lib.hid (HBa.out.trans (hb.mono HBa.out.size))
                  clear hb
                  go_wp2_with fail
                  refine (val_n HVg.out HN4.out HD4.out (x := (hi : Nat)) (by omega) (by omega) _ _ _ _ _ _ (HS'.out.below (HB3.out.trans (HBs0b.out.mono HB3.out.size)))).mono ?_
                  rintro _ u1b ⟨rfl, hb⟩
                  have HBs1b := Lib.hid (HBs0b.out.trans (hb.mono HBs0b.out.size))
                  clear hb
                  go_wp2_with fail
                  refine (KC2.out _).mono ?_
                  rintro _ u2b ⟨rfl, hb⟩
                  have HBb := Lib.hid (HBs1b.out.trans (hb.mono HBs1b.out.size))
                  clear hb
                  go_wp2_with fail
                  go_loopg [13, 14] (hi - X') (fun q s13 s14 wo => ∃ a b : Nat, s13 = .int .i64 a ∧ s14 = .int .i64 b ∧ X' ≤ a ∧ a < b ∧ b ≤ hi ∧ b - a ≤ q ∧ Hid (RowKit.Below w3.heap.size w3 wo) ∧ Hid (Pw.lss (AA f) (AA g) a = false) ∧ Hid (Pw.lss (AA f) (AA g) b = true))
                  case atStart => exact ⟨X', hi, rfl, rfl, by omega, by omega, by omega, by omega, HBb.out, HF0.out, HL0.out⟩
                  case round =>
                    obtain ⟨a, b, rfl, rfl, ha, hab, hb', hq2, HBi, HLa, HLb⟩ := hrel
                    by_cases hgt : 1 < b - a
                    · have hgtz : (1 : Int) < (b : Int) - (a : Int) := by omega
                      have hlt2 : (((a + b) / 2 : Nat) : Int) = ((a : Int) + (b : Int)) / 2 := by omega
                      obtain ⟨c, hc⟩ : ∃ c, c = (a + b) / 2 := ⟨_, rfl⟩
                      rw [← hc] at hlt2
                      have hcb : a < c ∧ c < b := by omega
                      have HC := Lib.hid hlt2
                      obtain ⟨n5, hn5⟩ : ∃ n, n = (vl (AA f) (c : Nat)).num := ⟨_, rfl⟩
                      obtain ⟨d5, hd5⟩ : ∃ d : Int, d = (vl (AA f) (c : Nat)).den := ⟨_, rfl⟩
                      obtain ⟨n6, hn6⟩ : ∃ n, n = (vl (AA g) (c : Nat)).num := ⟨_, rfl⟩
                      obtain ⟨d6, hd6⟩ : ∃ d : Int, d = (vl (AA g) (c : Nat)).den := ⟨_, rfl⟩
                      obtain ⟨z3, hz3⟩ : ∃ z, z = cm (vl (AA f) (c : Nat)) (vl (AA g) (c : Nat)) := ⟨_, rfl⟩
                      have KC3 := Lib.hid (fun w => rcompare_c hn5 hd5 hn6 hd6 hz3 (vl_bd HVf.out (x := (c : Nat)) (by omega) (by omega)) (vl_bd HVg.out (x := (c : Nat)) (by omega) (by omega)) w)
                      have hl3 : z3 < 0 ↔ Pw.lss (AA f) (AA g) (c : Nat) = true := by rw [hz3, cm_neg]; unfold Pw.lss; rw [decide_eq_true_eq]
                      have HN5 := Lib.hid hn5
                      have HD5 := Lib.hid hd5
                      have HN6 := Lib.hid hn6
                      have HD6 := Lib.hid hd6
                      clear hn5 hd5 hn6 hd6 hz3 hlt2 hc
                      by_cases hz3 : z3 < 0
                      · have HLc := Lib.hid (hl3.1 hz3)
                        clear hl3
                        go_wp2_with fail
                        rw [← HC.out]
                        refine (val_n HVf.out HN5.out HD5.out (x := (c : Nat)) (by omega) (by omega) _ _ _ _ _ _ (HS.out.below (HB3.out.trans (HBi.out.mono HB3.out.size)))).mono ?_
                        rintro _ u0d ⟨rfl, hb⟩
                        have HBs0d := Lib.hid (HBi.out.trans (hb.mono HBi.out.size))
                        clear hb
                        go_wp2_with fail
                        refine (val_n HVg.out HN6.out HD6.out (x := (c : Nat)) (by omega) (by omega) _ _ _ _ _ _ (HS'.out.below (HB3.out.trans (HBs0d.out.mono HB3.out.size)))).mono ?_
                        rintro _ u1d ⟨rfl, hb⟩
                        have HBs1d := Lib.hid (HBs0d.out.trans (hb.mono HBs0d.out.size))
                        clear hb
                        go_wp2_with fail
                        refine (KC3.out _).mono ?_
                        rintro _ u2d ⟨rfl, hb⟩
                        have HBd := Lib.hid (HBs1d.out.trans (hb.mono HBs1d.out.size))
                        clear hb
                        go_wp2
                        go_roundg (c - a)
                        case measure => omega
                        case rel => exact ⟨a, c, rfl, rfl, by omega, by omega, by omega, Nat.le_refl _, HBd.out, HLa.out, HLc.out⟩
                      · have HLc : Hid (Pw.lss (AA f) (AA g) (c : Nat) = false) := by
                          show _ = _
                          cases h : Pw.lss (AA f) (AA g) (c : Nat) with
                          | false => rfl
                          | true => exact absurd (hl3.2 h) hz3
                        clear hl3
                        go_wp2_with fail
                        rw [← HC.out]
                        refine (val_n HVf.out HN5.out HD5.out (x := (c : Nat)) (by omega) (by omega) _ _ _ _ _ _ (HS.out.below (HB3.out.trans (HBi.out.mono HB3.out.size)))).mono ?_
                        rintro _ u0d ⟨rfl, hb⟩
                        have HBs0d := Lib.hid (HBi.out.trans (hb.mono HBi.out.size))
                        clear hb
                        go_wp2_with fail
                        refine (val_n HVg.out HN6.out HD6.out (x := (c : Nat)) (by omega) (by omega) _ _ _ _ _ _ (HS'.out.below (HB3.out.trans (HBs0d.out.mono HB3.out.size)))).mono ?_
                        rintro _ u1d ⟨rfl, hb⟩
                        have HBs1d := Lib.hid (HBs0d.out.trans (hb.mono HBs0d.out.size))
                        clear hb
                        go_wp2_with fail
                        refine (KC3.out _).mono ?_
                        rintro _ u2d ⟨rfl, hb⟩
                        have HBd := Lib.hid (HBs1d.out.trans (hb.mono HBs1d.out.size))
                        clear hb
                        go_wp2
                        go_roundg (b - c)
                        case measure => omega
                        case rel => exact ⟨c, b, rfl, rfl, by omega, by omega, by omega, Nat.le_refl _, HBd.out, HLc.out, HLb.out⟩
                    · have hgtz : ¬ (1 : Int) < (b : Int) - (a : Int) := by omega
                      have hyes := belR_yes (F := AA f) (G := AA g) (lo := lo) (hi := hi) (x := (b : Nat)) HLb.out (by omega) (by omega) fun y y1 y2 => by
                        by_cases hy : y < X'
                        · exact HI.out y y1 hy (by omega)
                        · cases h : Pw.lss (AA f) (AA g) y with
                          | false => rfl
                          | true =>
                            have h' := HSG.out.once (a := (X' : Nat)) (b := y) (c := (a : Nat)) (by omega) (by omega) (by omega) (by omega) HF0.out h
                            rw [HLa.out] at h'
                            cases h'
                      have HE : Hid (RX = (b : Nat) ∧ RB = true) := ⟨by rw [HR.out.1, hyes], by rw [HR.out.2, hyes]⟩
                      clear hyes
                      go_wp2
                      go_ret3
                      exact ⟨by have h1 := HE.out.1; have h2 := HE.out.2; subst h1 h2; rfl, (HB3.out.trans (HBi.out.mono HB3.out.size))⟩
          · have hLz : ¬ (hi : Int) ≤ (Z : Int) := by omega
            have hLz2 : (Z : Int) < (hi : Int) := by omega
            by_cases hfl : Z < X'
            · have hflz : (Z : Int) < (X' : Int) := by omega
              have HI2 : Hid (∀ y : Int, (lo : Int) ≤ y → y < Y → y ≤ hi → Pw.lss (AA f) (AA g) y = false) := fun y a b c => by
                by_cases hy : y < X'
                · exact HI.out y a hy c
                · omega
              exfalso; omega
            · have hflz : ¬ (Z : Int) < (X' : Int) := by omega
              obtain ⟨n1, hn1⟩ : ∃ n, n = (vl (AA f) (X' : Nat)).num := ⟨_, rfl⟩
              obtain ⟨d1, hd1⟩ : ∃ d : Int, d = (vl (AA f) (X' : Nat)).den := ⟨_, rfl⟩
              obtain ⟨n2, hn2⟩ : ∃ n, n = (vl (AA g) (X' : Nat)).num := ⟨_, rfl⟩
              obtain ⟨d2, hd2⟩ : ∃ d : Int, d = (vl (AA g) (X' : Nat)).den := ⟨_, rfl⟩
              obtain ⟨z1, hz1⟩ : ∃ z, z = cm (vl (AA f) (X' : Nat)) (vl (AA g) (X' : Nat)) := ⟨_, rfl⟩
              have KC := Lib.hid (fun w => rcompare_c hn1 hd1 hn2 hd2 hz1 (vl_bd HVf.out (x := (X' : Nat)) (by omega) (by omega)) (vl_bd HVg.out (x := (X' : Nat)) (by omega) (by omega)) w)
              have hl1 : z1 < 0 ↔ Pw.lss (AA f) (AA g) (X' : Nat) = true := by rw [hz1, cm_neg]; unfold Pw.lss; rw [decide_eq_true_eq]
              have HN1 := Lib.hid hn1
              have HD1 := Lib.hid hd1
              have HN2 := Lib.hid hn2
              have HD2 := Lib.hid hd2
              clear hn1 hd1 hn2 hd2 hz1
              by_cases hz : z1 < 0
              · have hyes := belR_yes (F := AA f) (G := AA g) (lo := lo) (hi := hi) (x := (X' : Nat)) (hl1.1 hz) (by omega) (by omega) fun y a b => HI.out y a (by omega) (by omega)
                have HE : Hid (RX = (X' : Nat) ∧ RB = true) := ⟨by rw [HR.out.1, hyes], by rw [HR.out.2, hyes]⟩
                clear hyes hl1
                go_wp2_with fail
                refine (val_n HVf.out HN1.out HD1.out (x := (X' : Nat)) (by omega) (by omega) _ _ _ _ _ _ (HS.out.below (HB3.out.trans (HB9.out.mono HB3.out.size)))).mono ?_
                rintro _ u0a ⟨rfl, hb⟩
                have HBs0a := Lib.hid (HB9.out.trans (hb.mono HB9.out.size))
                clear hb
                go_wp2_with fail
                refine (val_n HVg.out HN2.out HD2.out (x := (X' : Nat)) (by omega) (by omega) _ _ _ _ _ _ (HS'.out.below (HB3.out.trans (HBs0a.out.mono HB3.out.size)))).mono ?_
                rintro _ u1a ⟨rfl, hb⟩
                have HBs1a := Lib.hid (HBs0a.out.trans (hb.mono HBs0a.out.size))
                clear hb
                go_wp2_with fail
                refine (KC.out _).mono ?_
                rintro _ u2a ⟨rfl, hb⟩
                have HBa := Lib.hid (HBs1a.out.trans (hb.mono HBs1a.out.size))
                clear hb
                go_wp2
                go_ret3
                exact ⟨by have h1 := HE.out.1; have h2 := HE.out.2; subst h1 h2; rfl, (HB3.out.trans (HBa.out.mono HB3.out.size))⟩
              · have hf1 : Pw.lss (AA f) (AA g) (X' : Nat) = false := by
                  cases h : Pw.lss (AA f) (AA g) (X' : Nat) with
                  | false => rfl
                  | true => exact absurd (hl1.2 h) hz
                clear hl1
                obtain ⟨n3, hn3⟩ : ∃ n, n = (vl (AA f) (Z : Nat)).num := ⟨_, rfl⟩
                obtain ⟨d3, hd3⟩ : ∃ d : Int, d = (vl (AA f) (Z : Nat)).den := ⟨_, rfl⟩
                obtain ⟨n4, hn4⟩ : ∃ n, n = (vl (AA g) (Z : Nat)).num := ⟨_, rfl⟩
                obtain ⟨d4, hd4⟩ : ∃ d : Int, d = (vl (AA g) (Z : Nat)).den := ⟨_, rfl⟩
                obtain ⟨z2, hz2⟩ : ∃ z, z = cm (vl (AA f) (Z : Nat)) (vl (AA g) (Z : Nat)) := ⟨_, rfl⟩
                have KC2 := Lib.hid (fun w => rcompare_c hn3 hd3 hn4 hd4 hz2 (vl_bd HVf.out (x := (Z : Nat)) (by omega) (by omega)) (vl_bd HVg.out (x := (Z : Nat)) (by omega) (by omega)) w)
                have hl2 : z2 < 0 ↔ Pw.lss (AA f) (AA g) (Z : Nat) = true := by rw [hz2, cm_neg]; unfold Pw.lss; rw [decide_eq_true_eq]
                have HN3 := Lib.hid hn3
                have HD3 := Lib.hid hd3
                have HN4 := Lib.hid hn4
                have HD4 := Lib.hid hd4
                clear hn3 hd3 hn4 hd4 hz2
                by_cases hzz : 0 ≤ z2
                · have HI2 : Hid (∀ y : Int, (lo : Int) ≤ y → y < Y → y ≤ hi → Pw.lss (AA f) (AA g) y = false) := fun y a b c => by
                    by_cases hy : y < X'
                    · exact HI.out y a hy c
                    · cases h : Pw.lss (AA f) (AA g) y with
                      | false => rfl
                      | true => exact absurd (hl2.2 (HSG.out.once (a := (X' : Nat)) (b := y) (c := (Z : Nat)) (by omega) (by omega) (by omega) (by omega) hf1 h)) (by omega)
                  clear hf1 hl2
                  go_wp2_with fail
                  refine (val_n HVf.out HN1.out HD1.out (x := (X' : Nat)) (by omega) (by omega) _ _ _ _ _ _ (HS.out.below (HB3.out.trans (HB9.out.mono HB3.out.size)))).mono ?_
                  rintro _ u0a ⟨rfl, hb⟩
                  have HBs0a := Lib.hid (HB9.out.trans (hb.mono HB9.out.size))
                  clear hb
                  go_wp2_with fail
                  refine (val_n HVg.out HN2.out HD2.out (x := (X' : Nat)) (by omega) (by omega) _ _ _ _ _ _ (HS'.out.below (HB3.out.trans (HBs0a.out.mono HB3.out.size)))).mono ?_
                  rintro _ u1a ⟨rfl, hb⟩
                  have HBs1a := Lib.hid (HBs0a.out.trans (hb.mono HBs0a.out.size))
                  clear hb
                  go_wp2_with fail
                  refine (KC.out _).mono ?_
                  rintro _ u2a ⟨rfl, hb⟩
                  have HBa := Lib.hid (HBs1a.out.trans (hb.mono HBs1a.out.size))
                  clear hb
                  go_wp2_with fail
                  refine (val_n HVf.out HN3.out HD3.out (x := (Z : Nat)) (by omega) (by omega) _ _ _ _ _ _ (HS.out.below (HB3.out.trans (HBa.out.mono HB3.out.size)))).mono ?_
                  rintro _ u0b ⟨rfl, hb⟩
                  have HBs0b := Lib.hid (HBa.out.trans (hb.mono HBa.out.size))
                  clear hb
                  go_wp2_with fail
                  refine (val_n HVg.out HN4.out HD4.out (x := (Z : Nat)) (by omega) (by omega) _ _ _ _ _ _ (HS'.out.below (HB3.out.trans (HBs0b.out.mono HB3.out.size)))).mono ?_
                  rintro _ u1b ⟨rfl, hb⟩
                  have HBs1b := Lib.hid (HBs0b.out.trans (hb.mono HBs0b.out.size))
                  clear hb
                  go_wp2_with fail
                  refine (KC2.out _).mono ?_
                  rintro _ u2b ⟨rfl, hb⟩
                  have HBb := Lib.hid (HBs1b.out.trans (hb.mono HBs1b.out.size))
                  clear hb
                  go_wp2
                  go_roundg (m - (k + 1))
                  case measure => omega
                  case rel => exact ⟨k + 1, Y, by go_num, by omega, by omega, hY2, fun h => HNX.out.1 h, fun h => by rw [HMM.out]; exact HNX.out.2 h, HBb.out, HI2.out⟩
                · have hL2 : Pw.lss (AA f) (AA g) (Z : Nat) = true := hl2.1 (by omega)
                  have hne : X' ≠ Z := fun e => by rw [e, hL2] at hf1; cases hf1
                  have HF0 := Lib.hid hf1
                  have HL0 := Lib.hid hL2
                  clear hf1 hl2 hL2
                  go_wp2_with fail
                  refine (val_n HVf.out HN1.out HD1.out (x := (X' : Nat)) (by omega) (by omega) _ _ _ _ _ _ (HS.out.below (HB3.out.trans (HB9.out.mono HB3.out.size)))).mono ?_
                  rintro _ u0a ⟨rfl, hb⟩
                  have HBs0a := Lib.hid (HB9.out.trans (hb.mono HB9.out.size))
                  clear hb
                  go_wp2_with fail
                  refine (val_n HVg.out HN2.out HD2.out (x := (X' : Nat)) (by omega) (by omega) _ _ _ _ _ _ (HS'.out.below (HB3.out.trans (HBs0a.out.mono HB3.out.size)))).mono ?_
                  rintro _ u1a ⟨rfl, hb⟩
                  have HBs1a := Lib.hid (HBs0a.out.trans (hb.mono HBs0a.out.size))
                  clear hb
                  go_wp2_with fail
                  refine (KC.out _).mono ?_
                  rintro _ u2a ⟨rfl, hb⟩
                  have HBa := Lib.hid (HBs1a.out.trans (hb.mono HBs1a.out.size))
                  clear hb
                  go_wp2_with fail
                  refine (val_n HVf.out HN3.out HD3.out (x := (Z : Nat)) (by omega) (by omega) _ _ _ _ _ _ (HS.out.below (HB3.out.trans (HBa.out.mono HB3.out.size)))).mono ?_
                  rintro _ u0b ⟨rfl, hb⟩
                  have HBs0b := Lib.hid (HBa.out.trans (hb.mono HBa.out.size))
                  clear hb
                  go_wp2_with fail
                  refine (val_n HVg.out HN4.out HD4.out (x := (Z : Nat)) (by omega) (by omega) _ _ _ _ _ _ (HS'.out.below (HB3.out.trans (HBs0b.out.mono HB3.out.size)))).mono ?_
                  rintro _ u1b ⟨rfl, hb⟩
                  have HBs1b := Lib.hid (HBs0b.out.trans (hb.mono HBs0b.out.size))
                  clear hb
                  go_wp2_with fail
                  refine (KC2.out _).mono ?_
                  rintro _ u2b ⟨rfl, hb⟩
                  have HBb := Lib.hid (HBs1b.out.trans (hb.mono HBs1b.out.size))
                  clear hb
                  go_wp2_with fail
                  go_loopg [13, 14] (Z - X') (fun q s13 s14 wo => ∃ a b : Nat, s13 = .int .i64 a ∧ s14 = .int .i64 b ∧ X' ≤ a ∧ a < b ∧ b ≤ Z ∧ b - a ≤ q ∧ Hid (RowKit.Below w3.heap.size w3 wo) ∧ Hid (Pw.lss (AA f) (AA g) a = false) ∧ Hid (Pw.lss (AA f) (AA g) b = true))
                  case atStart => exact ⟨X', Z, rfl, rfl, by omega, by omega, by omega, by omega, HBb.out, HF0.out, HL0.out⟩
                  case round =>
                    obtain ⟨a, b, rfl, rfl, ha, hab, hb', hq2, HBi, HLa, HLb⟩ := hrel
                    by_cases hgt : 1 < b - a
                    · have hgtz : (1 : Int) < (b : Int) - (a : Int) := by omega
                      have hlt2 : (((a + b) / 2 : Nat) : Int) = ((a : Int) + (b : Int)) / 2 := by omega
                      obtain ⟨c, hc⟩ : ∃ c, c = (a + b) / 2 := ⟨_, rfl⟩
                      rw [← hc] at hlt2
                      have hcb : a < c ∧ c < b := by omega
                      have HC := Lib.hid hlt2
                      obtain ⟨n5, hn5⟩ : ∃ n, n = (vl (AA f) (c : Nat)).num := ⟨_, rfl⟩
                      obtain ⟨d5, hd5⟩ : ∃ d : Int, d = (vl (AA f) (c : Nat)).den := ⟨_, rfl⟩
                      obtain ⟨n6, hn6⟩ : ∃ n, n = (vl (AA g) (c : Nat)).num := ⟨_, rfl⟩
                      obtain ⟨d6, hd6⟩ : ∃ d : Int, d = (vl (AA g) (c : Nat)).den := ⟨_, rfl⟩
                      obtain ⟨z3, hz3⟩ : ∃ z, z = cm (vl (AA f) (c : Nat)) (vl (AA g) (c : Nat)) := ⟨_, rfl⟩
                      have KC3 := Lib.hid (fun w => rcompare_c hn5 hd5 hn6 hd6 hz3 (vl_bd HVf.out (x := (c : Nat)) (by omega) (by omega)) (vl_bd HVg.out (x := (c : Nat)) (by omega) (by omega)) w)
                      have hl3 : z3 < 0 ↔ Pw.lss (AA f) (AA g) (c : Nat) = true := by rw [hz3, cm_neg]; unfold Pw.lss; rw [decide_eq_true_eq]
                      have HN5 := Lib.hid hn5
                      have HD5 := Lib.hid hd5
                      have HN6 := Lib.hid hn6
                      have HD6 := Lib.hid hd6
                      clear hn5 hd5 hn6 hd6 hz3 hlt2 hc
                      by_cases hz3 : z3 < 0
                      · have HLc := Lib.hid (hl3.1 hz3)
                        clear hl3
                        go_wp2_with fail
                        rw [← HC.out]
                        refine (val_n HVf.out HN5.out HD5.out (x := (c : Nat)) (by omega) (by omega) _ _ _ _ _ _ (HS.out.below (HB3.out.trans (HBi.out.mono HB3.out.size)))).mono ?_
                        rintro _ u0d ⟨rfl, hb⟩
                        have HBs0d := Lib.hid (HBi.out.trans (hb.mono HBi.out.size))
                        clear hb
                        go_wp2_with fail
                        refine (val_n HVg.out HN6.out HD6.out (x := (c : Nat)) (by omega) (by omega) _ _ _ _ _ _ (HS'.out.below (HB3.out.trans (HBs0d.out.mono HB3.out.size)))).mono ?_
                        rintro _ u1d ⟨rfl, hb⟩
                        have HBs1d := Lib.hid (HBs0d.out.trans (hb.mono HBs0d.out.size))
                        clear hb
                        go_wp2_with fail
                        refine (KC3.out _).mono ?_
                        rintro _ u2d ⟨rfl, hb⟩
                        have HBd := Lib.hid (HBs1d.out.trans (hb.mono HBs1d.out.size))
                        clear hb
                        go_wp2
                        go_roundg (c - a)
                        case measure => omega
                        case rel => exact ⟨a, c, rfl, rfl, by omega, by omega, by omega, Nat.le_refl _, HBd.out, HLa.out, HLc.out⟩
                      · have HLc : Hid (Pw.lss (AA f) (AA g) (c : Nat) = false) := by
                          show _ = _
                          cases h : Pw.lss (AA f) (AA g) (c : Nat) with
                          | false => rfl
                          | true => exact absurd (hl3.2 h) hz3
                        clear hl3
                        go_wp2_with fail
                        rw [← HC.out]
                        refine (val_n HVf.out HN5.out HD5.out (x := (c : Nat)) (by omega) (by omega) _ _ _ _ _ _ (HS.out.below (HB3.out.trans (HBi.out.mono HB3.out.size)))).mono ?_
                        rintro _ u0d ⟨rfl, hb⟩
                        have HBs0d := Lib.hid (HBi.out.trans (hb.mono HBi.out.size))
                        clear hb
                        go_wp2_with fail
                        refine (val_n HVg.out HN6.out HD6.out (x := (c : Nat)) (by omega) (by omega) _ _ _ _ _ _ (HS'.out.below (HB3.out.trans (HBs0d.out.mono HB3.out.size)))).mono ?_
                        rintro _ u1d ⟨rfl, hb⟩
                        have HBs1d := Lib.hid (HBs0d.out.trans (hb.mono HBs0d.out.size))
                        clear hb
                        go_wp2_with fail
                        refine (KC3.out _).mono ?_
                        rintro _ u2d ⟨rfl, hb⟩
                        have HBd := Lib.hid (HBs1d.out.trans (hb.mono HBs1d.out.size))
                        clear hb
                        go_wp2
                        go_roundg (b - c)
                        case measure => omega
                        case rel => exact ⟨c, b, rfl, rfl, by omega, by omega, by omega, Nat.le_refl _, HBd.out, HLc.out, HLb.out⟩
                    · have hgtz : ¬ (1 : Int) < (b : Int) - (a : Int) := by omega
                      have hyes := belR_yes (F := AA f) (G := AA g) (lo := lo) (hi := hi) (x := (b : Nat)) HLb.out (by omega) (by omega) fun y y1 y2 => by
                        by_cases hy : y < X'
                        · exact HI.out y y1 hy (by omega)
                        · cases h : Pw.lss (AA f) (AA g) y with
                          | false => rfl
                          | true =>
                            have h' := HSG.out.once (a := (X' : Nat)) (b := y) (c := (a : Nat)) (by omega) (by omega) (by omega) (by omega) HF0.out h
                            rw [HLa.out] at h'
                            cases h'
                      have HE : Hid (RX = (b : Nat) ∧ RB = true) := ⟨by rw [HR.out.1, hyes], by rw [HR.out.2, hyes]⟩
                      clear hyes
                      go_wp2
                      go_ret3
                      exact ⟨by have h1 := HE.out.1; have h2 := HE.out.2; subst h1 h2; rfl, (HB3.out.trans (HBi.out.mono HB3.out.size))⟩
        · have hnxz : ¬ (k : Int) + 1 < (m : Int) := by omega
          have hY3 := s3 (by rw [← HM.out]; exact hnx)
          have hL : hi ≤ Z := by omega
          clear s2 s3 hSr
          by_cases hfl : hi < X'
          · have hflz : (hi : Int) < (X' : Int) := by omega
            have HI2 : Hid (∀ y : Int, (lo : Int) ≤ y → y < Y → y ≤ hi → Pw.lss (AA f) (AA g) y = false) := fun y a b c => by
              by_cases hy : y < X'
              · exact HI.out y a hy c
              · omega
            go_wp2
            go_roundg (m - (k + 1))
            case measure => omega
            case rel => exact ⟨k + 1, Y, by go_num, by omega, by omega, hY2, fun h => HNX.out.1 h, fun h => by rw [HMM.out]; exact HNX.out.2 h, HB9.out, HI2.out⟩
          · have hflz : ¬ (hi : Int) < (X' : Int) := by omega
            obtain ⟨n1, hn1⟩ : ∃ n, n = (vl (AA f) (X' : Nat)).num := ⟨_, rfl⟩
            obtain ⟨d1, hd1⟩ : ∃ d : Int, d = (vl (AA f) (X' : Nat)).den := ⟨_, rfl⟩
            obtain ⟨n2, hn2⟩ : ∃ n, n = (vl (AA g) (X' : Nat)).num := ⟨_, rfl⟩
            obtain ⟨d2, hd2⟩ : ∃ d : Int, d = (vl (AA g) (X' : Nat)).den := ⟨_, rfl⟩
            obtain ⟨z1, hz1⟩ : ∃ z, z = cm (vl (AA f) (X' : Nat)) (vl (AA g) (X' : Nat)) := ⟨_, rfl⟩
            have KC := Lib.hid (fun w => rcompare_c hn1 hd1 hn2 hd2 hz1 (vl_bd HVf.out (x := (X' : Nat)) (by omega) (by omega)) (vl_bd HVg.out (x := (X' : Nat)) (by omega) (by omega)) w)
            have hl1 : z1 < 0 ↔ Pw.lss (AA f) (AA g) (X' : Nat) = true := by rw [hz1, cm_neg]; unfold Pw.lss; rw [decide_eq_true_eq]
            have HN1 := Lib.hid hn1
            have HD1 := Lib.hid hd1
            have HN2 := Lib.hid hn2
            have HD2 := Lib.hid hd2
            clear hn1 hd1 hn2 hd2 hz1
            by_cases hz : z1 < 0
            · have hyes := belR_yes (F := AA f) (G := AA g) (lo := lo) (hi := hi) (x := (X' : Nat)) (hl1.1 hz) (by omega) (by omega) fun y a b => HI.out y a (by omega) (by omega)
              have HE : Hid (RX = (X' : Nat) ∧ RB = true) := ⟨by rw [HR.out.1, hyes], by rw [HR.out.2, hyes]⟩
              clear hyes hl1
              go_wp2_with fail
              refine (val_n HVf.out HN1.out HD1.out (x := (X' : Nat)) (by omega) (by omega) _ _ _ _ _ _ (HS.out.below (HB3.out.trans (HB9.out.mono HB3.out.size)))).mono ?_
              rintro _ u0a ⟨rfl, hb⟩
              have HBs0a := Lib.hid (HB9.out.trans (hb.mono HB9.out.size))
              clear hb
              go_wp2_with fail
              refine (val_n HVg.out HN2.out HD2.out (x := (X' : Nat)) (by omega) (by omega) _ _ _ _ _ _ (HS'.out.below (HB3.out.trans (HBs0a.out.mono HB3.out.size)))).mono ?_
              rintro _ u1a ⟨rfl, hb⟩
              have HBs1a := Lib.hid (HBs0a.out.trans (hb.mono HBs0a.out.size))
              clear hb
              go_wp2_with fail
              refine (KC.out _).mono ?_
              rintro _ u2a ⟨rfl, hb⟩
              have HBa := Lib.hid (HBs1a.out.trans (hb.mono HBs1a.out.size))
              clear hb
              go_wp2
              go_ret3
              exact ⟨by have h1 := HE.out.1; have h2 := HE.out.2; subst h1 h2; rfl, (HB3.out.trans (HBa.out.mono HB3.out.size))⟩
            · have hf1 : Pw.lss (AA f) (AA g) (X' : Nat) = false := by
                cases h : Pw.lss (AA f) (AA g) (X' : Nat) with
                | false => rfl
                | true => exact absurd (hl1.2 h) hz
              clear hl1
              obtain ⟨n3, hn3⟩ : ∃ n, n = (vl (AA f) (hi : Nat)).num := ⟨_, rfl⟩
              obtain ⟨d3, hd3⟩ : ∃ d : Int, d = (vl (AA f) (hi : Nat)).den := ⟨_, rfl⟩
              obtain ⟨n4, hn4⟩ : ∃ n, n = (vl (AA g) (hi : Nat)).num := ⟨_, rfl⟩
              obtain ⟨d4, hd4⟩ : ∃ d : Int, d = (vl (AA g) (hi : Nat)).den := ⟨_, rfl⟩
              obtain ⟨z2, hz2⟩ : ∃ z, z = cm (vl (AA f) (hi : Nat)) (vl (AA g) (hi : Nat)) := ⟨_, rfl⟩
              have KC2 := Lib.hid (fun w => rcompare_c hn3 hd3 hn4 hd4 hz2 (vl_bd HVf.out (x := (hi : Nat)) (by omega) (by omega)) (vl_bd HVg.out (x := (hi : Nat)) (by omega) (by omega)) w)
              have hl2 : z2 < 0 ↔ Pw.lss (AA f) (AA g) (hi : Nat) = true := by rw [hz2, cm_neg]; unfold Pw.lss; rw [decide_eq_true_eq]
              have HN3 := Lib.hid hn3
              have HD3 := Lib.hid hd3
              have HN4 := Lib.hid hn4
              have HD4 := Lib.hid hd4
              clear hn3 hd3 hn4 hd4 hz2
              by_cases hzz : 0 ≤ z2
              · have HI2 : Hid (∀ y : Int, (lo : Int) ≤ y → y < Y → y ≤ hi → Pw.lss (AA f) (AA g) y = false) := fun y a b c => by
                  by_cases hy : y < X'
                  · exact HI.out y a hy c
                  · cases h : Pw.lss (AA f) (AA g) y with
                    | false => rfl
                    | true => exact absurd (hl2.2 (HSG.out.once (a := (X' : Nat)) (b := y) (c := (hi : Nat)) (by omega) (by omega) (by omega) (by omega) hf1 h)) (by omega)
                clear hf1 hl2
                go_wp2_with fail
                refine (val_n HVf.out HN1.out HD1.out (x := (X' : Nat)) (by omega) (by omega) _ _ _ _ _ _ (HS.out.below (HB3.out.trans (HB9.out.mono HB3.out.size)))).mono ?_
                rintro _ u0a ⟨rfl, hb⟩
                have HBs0a := Lib.hid (HB9.out.trans (hb.mono HB9.out.size))
                clear hb
                go_wp2_with fail
                refine (val_n HVg.out HN2.out HD2.out (x := (X' : Nat)) (by omega) (by omega) _ _ _ _ _ _ (HS'.out.below (HB3.out.trans (HBs0a.out.mono HB3.out.size)))).mono ?_
                rintro _ u1a ⟨rfl, hb⟩
                have HBs1a := Lib.hid (HBs0a.out.trans (hb.mono HBs0a.out.size))
                clear hb
                go_wp2_with fail
                refine (KC.out _).mono ?_
                rintro _ u2a ⟨rfl, hb⟩
                have HBa := Lib.hid (HBs1a.out.trans (hb.mono HBs1a.out.size))
                clear hb
                go_wp2_with fail
                refine (val_n HVf.out HN3.out HD3.out (x := (hi : Nat)) (by omega) (by omega) _ _ _ _ _ _ (HS.out.below (HB3.out.trans (HBa.out.mono HB3.out.size)))).mono ?_
                rintro _ u0b ⟨rfl, hb⟩
                have HBs0b := Lib.hid (HBa.out.trans (hb.mono HBa.out.size))
                clear hb
                go_wp2_with fail
                refine (val_n HVg.out HN4.out HD4.out (x := (hi : Nat)) (by omega) (by omega) _ _ _ _ _ _ (HS'.out.below (HB3.out.trans (HBs0b.out.mono HB3.out.size)))).mono ?_
                rintro _ u1b ⟨rfl, hb⟩
                have HBs1b := Lib.hid (HBs0b.out.trans (hb.mono HBs0b.out.size))
                clear hb
                go_wp2_with fail
                refine (KC2.out _).mono ?_
                rintro _ u2b ⟨rfl, hb⟩
                have HBb := Lib.hid (HBs1b.out.trans (hb.mono HBs1b.out.size))
                clear hb
                go_wp2
                go_roundg (m - (k + 1))
                case measure => omega
                case rel => exact ⟨k + 1, Y, by go_num, by omega, by omega, hY2, fun h => HNX.out.1 h, fun h => by rw [HMM.out]; exact HNX.out.2 h, HBb.out, HI2.out⟩
              · have hL2 : Pw.lss (AA f) (AA g) (hi : Nat) = true := hl2.1 (by omega)
                have hne : X' ≠ hi := fun e => by rw [e, hL2] at hf1; cases hf1
                have HF0 := Lib.hid hf1
                have HL0 := Lib.hid hL2
                clear hf1 hl2 hL2
                go_wp2_with fail
                refine (val_n HVf.out HN1.out HD1.out (x := (X' : Nat)) (by omega) (by omega) _ _ _ _ _ _ (HS.out.below (HB3.out.trans (HB9.out.mono HB3.out.size)))).mono ?_
                rintro _ u0a ⟨rfl, hb⟩
                have HBs0a := Lib.hid (HB9.out.trans (hb.mono HB9.out.size))
                clear hb
                go_wp2_with fail
                refine (val_n HVg.out HN2.out HD2.out (x := (X' : Nat)) (by omega) (by omega) _ _ _ _ _ _ (HS'.out.below (HB3.out.trans (HBs0a.out.mono HB3.out.size)))).mono ?_
                rintro _ u1a ⟨rfl, hb⟩
                have HBs1a := Lib.hid (HBs0a.out.trans (hb.mono HBs0a.out.size))
                clear hb
                go_wp2_with fail
                refine (KC.out _).mono ?_
                rintro _ u2a ⟨rfl, hb⟩
                have HBa := Lib.hid (HBs1a.out.trans (hb.mono HBs1a.out.size))
                clear hb
                go_wp2_with fail
                refine (val_n HVf.out HN3.out HD3.out (x := (hi : Nat)) (by omega) (by omega) _ _ _ _ _ _ (HS.out.below (HB3.out.trans (HBa.out.mono HB3.out.size)))).mono ?_
                rintro _ u0b ⟨rfl, hb⟩
                have HBs0b := Lib.hid (HBa.out.trans (hb.mono HBa.out.size))
                clear hb
                go_wp2_with fail
                refine (val_n HVg.out HN4.out HD4.out (x := (hi : Nat)) (by omega) (by omega) _ _ _ _ _ _ (HS'.out.below (HB3.out.trans (HBs0b.out.mono HB3.out.size)))).mono ?_
                rintro _ u1b ⟨rfl, hb⟩
                have HBs1b := Lib.hid (HBs0b.out.trans (hb.mono HBs0b.out.size))
                clear hb
                go_wp2_with fail
                refine (KC2.out _).mono ?_
                rintro _ u2b ⟨rfl, hb⟩
                have HBb := Lib.hid (HBs1b.out.trans (hb.mono HBs1b.out.size))
                clear hb
                go_wp2_with fail
                go_loopg [13, 14] (hi - X') (fun q s13 s14 wo => ∃ a b : Nat, s13 = .int .i64 a ∧ s14 = .int .i64 b ∧ X' ≤ a ∧ a < b ∧ b ≤ hi ∧ b - a ≤ q ∧ Hid (RowKit.Below w3.heap.size w3 wo) ∧ Hid (Pw.lss (AA f) (AA g) a = false) ∧ Hid (Pw.lss (AA f) (AA g) b = true))
                case atStart => exact ⟨X', hi, rfl, rfl, by omega, by omega, by omega, by omega, HBb.out, HF0.out, HL0.out⟩
                case round =>
                  obtain ⟨a, b, rfl, rfl, ha, hab, hb', hq2, HBi, HLa, HLb⟩ := hrel
                  by_cases hgt : 1 < b - a
                  · have hgtz : (1 : Int) < (b : Int) - (a : Int) := by omega
                    have hlt2 : (((a + b) / 2 : Nat) : Int) = ((a : Int) + (b : Int)) / 2 := by omega
                    obtain ⟨c, hc⟩ : ∃ c, c = (a + b) / 2 := ⟨_, rfl⟩
                    rw [← hc] at hlt2
                    have hcb : a < c ∧ c < b := by omega
                    have HC := Lib.hid hlt2
                    obtain ⟨n5, hn5⟩ : ∃ n, n = (vl (AA f) (c : Nat)).num := ⟨_, rfl⟩
                    obtain ⟨d5, hd5⟩ : ∃ d : Int, d = (vl (AA f) (c : Nat)).den := ⟨_, rfl⟩
                    obtain ⟨n6, hn6⟩ : ∃ n, n = (vl (AA g) (c : Nat)).num := ⟨_, rfl⟩
                    obtain ⟨d6, hd6⟩ : ∃ d : Int, d = (vl (AA g) (c : Nat)).den := ⟨_, rfl⟩
                    obtain ⟨z3, hz3⟩ : ∃ z, z = cm (vl (AA f) (c : Nat)) (vl (AA g) (c : Nat)) := ⟨_, rfl⟩
                    have KC3 := Lib.hid (fun w => rcompare_c hn5 hd5 hn6 hd6 hz3 (vl_bd HVf.out (x := (c : Nat)) (by omega) (by omega)) (vl_bd HVg.out (x := (c : Nat)) (by omega) (by omega)) w)
                    have hl3 : z3 < 0 ↔ Pw.lss (AA f) (AA g) (c : Nat) = true := by rw [hz3, cm_neg]; unfold Pw.lss; rw [decide_eq_true_eq]
                    have HN5 := Lib.hid hn5
                    have HD5 := Lib.hid hd5
                    have HN6 := Lib.hid hn6
                    have HD6 := Lib.hid hd6
                    clear hn5 hd5 hn6 hd6 hz3 hlt2 hc
                    by_cases hz3 : z3 < 0
                    · have HLc := Lib.hid (hl3.1 hz3)
                      clear hl3
                      go_wp2_with fail
                      rw [← HC.out]
                      refine (val_n HVf.out HN5.out HD5.out (x := (c : Nat)) (by omega) (by omega) _ _ _ _ _ _ (HS.out.below (HB3.out.trans (HBi.out.mono HB3.out.size)))).mono ?_
                      rintro _ u0d ⟨rfl, hb⟩
                      have HBs0d := Lib.hid (HBi.out.trans (hb.mono HBi.out.size))
                      clear hb
                      go_wp2_with fail
                      refine (val_n HVg.out HN6.out HD6.out (x := (c : Nat)) (by omega) (by omega) _ _ _ _ _ _ (HS'.out.below (HB3.out.trans (HBs0d.out.mono HB3.out.size)))).mono ?_
                      rintro _ u1d ⟨rfl, hb⟩
                      have HBs1d := Lib.hid (HBs0d.out.trans (hb.mono HBs0d.out.size))
                      clear hb
                      go_wp2_with fail
                      refine (KC3.out _).mono ?_
                      rintro _ u2d ⟨rfl, hb⟩
                      have HBd := Lib.hid (HBs1d.out.trans (hb.mono HBs1d.out.size))
                      clear hb
                      go_wp2
                      go_roundg (c - a)
                      case measure => omega
                      case rel => exact ⟨a, c, rfl, rfl, by omega, by omega, by omega, Nat.le_refl _, HBd.out, HLa.out, HLc.out⟩
                    · have HLc : Hid (Pw.lss (AA f) (AA g) (c : Nat) = false) := by
                        show _ = _
                        cases h : Pw.lss (AA f) (AA g) (c : Nat) with
                        | false => rfl
                        | true => exact absurd (hl3.2 h) hz3
                      clear hl3
                      go_wp2_with fail
                      rw [← HC.out]
                      refine (val_n HVf.out HN5.out HD5.out (x := (c : Nat)) (by omega) (by omega) _ _ _ _ _ _ (HS.out.below (HB3.out.trans (HBi.out.mono HB3.out.size)))).mono ?_
                      rintro _ u0d ⟨rfl, hb⟩
                      have HBs0d := Lib.hid (HBi.out.trans (hb.mono HBi.out.size))
                      clear hb
                      go_wp2_with fail
                      refine (val_n HVg.out HN6.out HD6.out (x := (c : Nat)) (by omega) (by omega) _ _ _ _ _ _ (HS'.out.below (HB3.out.trans (HBs0d.out.mono HB3.out.size)))).mono ?_
                      rintro _ u1d ⟨rfl, hb⟩
                      have HBs1d := Lib.hid (HBs0d.out.trans (hb.mono HBs0d.out.size))
                      clear hb
                      go_wp2_with fail
                      refine (KC3.out _).mono ?_
                      rintro _ u2d ⟨rfl, hb⟩
                      have HBd := Lib.hid (HBs1d.out.trans (hb.mono HBs1d.out.size))
                      clear hb
                      go_wp2
                      go_roundg (b - c)
                      case measure => omega
                      case rel => exact ⟨c, b, rfl, rfl, by omega, by omega, by omega, Nat.le_refl _, HBd.out, HLc.out, HLb.out⟩
                  · have hgtz : ¬ (1 : Int) < (b : Int) - (a : Int) := by omega
                    have hyes := belR_yes (F := AA f) (G := AA g) (lo := lo) (hi := hi) (x := (b : Nat)) HLb.out (by omega) (by omega) fun y y1 y2 => by
                      by_cases hy : y < X'
                      · exact HI.out y y1 hy (by omega)
                      · cases h : Pw.lss (AA f) (AA g) y with
                        | false => rfl
                        | true =>
                          have h' := HSG.out.once (a := (X' : Nat)) (b := y) (c := (a : Nat)) (by omega) (by omega) (by omega) (by omega) HF0.out h
                          rw [HLa.out] at h'
                          cases h'
                    have HE : Hid (RX = (b : Nat) ∧ RB = true) := ⟨by rw [HR.out.1, hyes], by rw [HR.out.2, hyes]⟩
                    clear hyes
                    go_wp2
                    go_ret3
                    exact ⟨by have h1 := HE.out.1; have h2 := HE.out.2; subst h1 h2; rfl, (HB3.out.trans (HBi.out.mono HB3.out.size))⟩
      · have hFz : ¬ (lo : Int) ≤ (X' : Int) := by omega
        have hFz2 : (X' : Int) < (lo : Int) := by omega
        go_wp2_with fail
        replace r0 := cell_bw hZw r0
        replace r1 := cell_bw hZw r1
        replace x0 := cell_bw hSw x0
        refine wp_region_bw mixed (by kernel_rfl) ?_
        repeat (go_big_quiet_step (fail))
        refine wpQuiet_nil ?_
        intro W HW
        replace HW := bw_out HW
        clear r0 r1 x0
        have HB9 := Lib.hid (HBr.out.trans (HW.mono HBr.out.size))
        obtain ⟨r0, r1⟩ := rng_cells ((HB9.out.block _ (Array.getElem?_eq_some_iff.1 HZ3.out).1).trans HZ3.out)
        have hSr := HSS.out.below HB9.out
        clear HW hZw hSw
        by_cases hnx : k + 1 < m
        · have hnxz : (k : Int) + 1 < (m : Int) := by omega
          have y0 := hSr.cells (k + 1) (by rw [← HM.out]; exact hnx)
          rw [s2 (by rw [← HM.out]; exact hnx), hZ] at y0
          have y1 : W.cell? ⟨bs, k + 1, none⟩ = some (.int .i64 ((Z : Int) + 1)) := y0
          clear s2 s3 y0 hSr
          by_cases hL : hi ≤ Z
          · have hLz : (hi : Int) ≤ (Z : Int) := by omega
            by_cases hfl : hi < lo
            · have hflz : (hi : Int) < (lo : Int) := by omega
              have HI2 : Hid (∀ y : Int, (lo : Int) ≤ y → y < Y → y ≤ hi → Pw.lss (AA f) (AA g) y = false) := fun y a b c => by
                by_cases hy : y < X'
                · exact HI.out y a hy c
                · omega
              exfalso; omega
            · have hflz : ¬ (hi : Int) < (lo : Int) := by omega
              obtain ⟨n1, hn1⟩ : ∃ n, n = (vl (AA f) (lo : Nat)).num := ⟨_, rfl⟩
              obtain ⟨d1, hd1⟩ : ∃ d : Int, d = (vl (AA f) (lo : Nat)).den := ⟨_, rfl⟩
              obtain ⟨n2, hn2⟩ : ∃ n, n = (vl (AA g) (lo : Nat)).num := ⟨_, rfl⟩
              obtain ⟨d2, hd2⟩ : ∃ d : Int, d = (vl (AA g) (lo : Nat)).den := ⟨_, rfl⟩
              obtain ⟨z1, hz1⟩ : ∃ z, z = cm (vl (AA f) (lo : Nat)) (vl (AA g) (lo : Nat)) := ⟨_, rfl⟩
              have KC := Lib.hid (fun w => rcompare_c hn1 hd1 hn2 hd2 hz1 (vl_bd HVf.out (x := (lo : Nat)) (by omega) (by omega)) (vl_bd HVg.out (x := (lo : Nat)) (by omega) (by omega)) w)
              have hl1 : z1 < 0 ↔ Pw.lss (AA f) (AA g) (lo : Nat) = true := by rw [hz1, cm_neg]; unfold Pw.lss; rw [decide_eq_true_eq]
              have HN1 := Lib.hid hn1
              have HD1 := Lib.hid hd1
              have HN2 := Lib.hid hn2
              have HD2 := Lib.hid hd2
              clear hn1 hd1 hn2 hd2 hz1
              by_cases hz : z1 < 0
              · have hyes := belR_yes (F := AA f) (G := AA g) (lo := lo) (hi := hi) (x := (lo : Nat)) (hl1.1 hz) (by omega) (by omega) fun y a b => HI.out y a (by omega) (by omega)
                have HE : Hid (RX = (lo : Nat) ∧ RB = true) := ⟨by rw [HR.out.1, hyes], by rw [HR.out.2, hyes]⟩
                clear hyes hl1
                go_wp2_with fail
                refine (val_n HVf.out HN1.out HD1.out (x := (lo : Nat)) (by omega) (by omega) _ _ _ _ _ _ (HS.out.below (HB3.out.trans (HB9.out.mono HB3.out.size)))).mono ?_
                rintro _ u0a ⟨rfl, hb⟩
                have HBs0a := Lib.hid (HB9.out.trans (hb.mono HB9.out.size))
                clear hb
                go_wp2_with fail
                refine (val_n HVg.out HN2.out HD2.out (x := (lo : Nat)) (by omega) (by omega) _ _ _ _ _ _ (HS'.out.below (HB3.out.trans (HBs0a.out.mono HB3.out.size)))).mono ?_
                rintro _ u1a ⟨rfl, hb⟩
                have HBs1a := Lib.hid (HBs0a.out.trans (hb.mono HBs0a.out.size))
                clear hb
                go_wp2_with fail
                refine (KC.out _).mono ?_
                rintro _ u2a ⟨rfl, hb⟩
                have HBa := Lib.hid (HBs1a.out.trans (hb.mono HBs1a.out.size))
                clear hb
                go_wp2
                go_ret3
                exact ⟨by have h1 := HE.out.1; have h2 := HE.out.2; subst h1 h2; rfl, (HB3.out.trans (HBa.out.mono HB3.out.size))⟩
              · have hf1 : Pw.lss (AA f) (AA g) (lo : Nat) = false := by
                  cases h : Pw.lss (AA f) (AA g) (lo : Nat) with
                  | false => rfl
                  | true => exact absurd (hl1.2 h) hz
                clear hl1
                obtain ⟨n3, hn3⟩ : ∃ n, n = (vl (AA f) (hi : Nat)).num := ⟨_, rfl⟩
                obtain ⟨d3, hd3⟩ : ∃ d : Int, d = (vl (AA f) (hi : Nat)).den := ⟨_, rfl⟩
                obtain ⟨n4, hn4⟩ : ∃ n, n = (vl (AA g) (hi : Nat)).num := ⟨_, rfl⟩
                obtain ⟨d4, hd4⟩ : ∃ d : Int, d = (vl (AA g) (hi : Nat)).den := ⟨_, rfl⟩
                obtain ⟨z2, hz2⟩ : ∃ z, z = cm (vl (AA f) (hi : Nat)) (vl (AA g) (hi : Nat)) := ⟨_, rfl⟩
                have KC2 := Lib.hid (fun w => rcompare_c hn3 hd3 hn4 hd4 hz2 (vl_bd HVf.out (x := (hi : Nat)) (by omega) (by omega)) (vl_bd HVg.out (x := (hi : Nat)) (by omega) (by omega)) w)
                have hl2 : z2 < 0 ↔ Pw.lss (AA f) (AA g) (hi : Nat) = true := by rw [hz2, cm_neg]; unfold Pw.lss; rw [decide_eq_true_eq]
                have HN3 := Lib.hid hn3
                have HD3 := Lib.hid hd3
                have HN4 := Lib.hid hn4
                have HD4 := Lib.hid hd4
                clear hn3 hd3 hn4 hd4 hz2
                by_cases hzz : 0 ≤ z2
                · have HI2 : Hid (∀ y : Int, (lo : Int) ≤ y → y < Y → y ≤ hi → Pw.lss (AA f) (AA g) y = false) := fun y a b c => by
                    by_cases hy : y < X'
                    · exact HI.out y a hy c
                    · cases h : Pw.lss (AA f) (AA g) y with
                      | false => rfl
                      | true => exact absurd (hl2.2 (HSG.out.once (a := (lo : Nat)) (b := y) (c := (hi : Nat)) (by omega) (by omega) (by omega) (by omega) hf1 h)) (by omega)
                  clear hf1 hl2
                  go_wp2_with fail
                  refine (val_n HVf.out HN1.out HD1.out (x := (lo : Nat)) (by omega) (by omega) _ _ _ _ _ _ (HS.out.below (HB3.out.trans (HB9.out.mono HB3.out.size)))).mono ?_
                  rintro _ u0a ⟨rfl, hb⟩
                  have HBs0a := Lib.hid (HB9.out.trans (hb.mono HB9.out.size))
                  clear hb
                  go_wp2_with fail
                  refine (val_n HVg.out HN2.out HD2.out (x := (lo : Nat)) (by omega) (by omega) _ _ _ _ _ _ (HS'.out.below (HB3.out.trans (HBs0a.out.mono HB3.out.size)))).mono ?_
                  rintro _ u1a ⟨rfl, hb⟩
                  have HBs1a := Lib.hid (HBs0a.out.trans (hb.mono HBs0a.out.size))
                  clear hb
                  go_wp2_with fail
                  refine (KC.out _).mono ?_
                  rintro _ u2a ⟨rfl, hb⟩
                  have HBa := Lib.hid (HBs1a.out.trans (hb.mono HBs1a.out.size))
                  clear hb
                  go_wp2_with fail
                  refine (val_n HVf.out HN3.out HD3.out (x := (hi : Nat)) (by omega) (by omega) _ _ _ _ _ _ (HS.out.below (HB3.out.trans (HBa.out.mono HB3.out.size)))).mono ?_
                  rintro _ u0b ⟨rfl, hb⟩
                  have HBs0b := Lib.hid (HBa.out.trans (hb.mono HBa.out.size))
                  clear hb
                  go_wp2_with fail
                  refine (val_n HVg.out HN4.out HD4.out (x := (hi : Nat)) (by omega) (by omega) _ _ _ _ _ _ (HS'.out.below (HB3.out.trans (HBs0b.out.mono HB3.out.size)))).mono ?_
                  rintro _ u1b ⟨rfl, hb⟩
                  have HBs1b := Lib.hid (HBs0b.out.trans (hb.mono HBs0b.out.size))
                  clear hb
                  go_wp2_with fail
                  refine (KC2.out _).mono ?_
                  rintro _ u2b ⟨rfl, hb⟩
                  have HBb := Lib.hid (HBs1b.out.trans (hb.mono HBs1b.out.size))
                  clear hb
                  go_wp2
                  go_roundg (m - (k + 1))
                  case measure => omega
                  case rel => exact ⟨k + 1, Y, by go_num, by omega, by omega, hY2, fun h => HNX.out.1 h, fun h => by rw [HMM.out]; exact HNX.out.2 h, HBb.out, HI2.out⟩
                · have hL2 : Pw.lss (AA f) (AA g) (hi : Nat) = true := hl2.1 (by omega)
                  have hne : lo ≠ hi := fun e => by rw [e, hL2] at hf1; cases hf1
                  have HF0 := Lib.hid hf1
                  have HL0 := Lib.hid hL2
                  clear hf1 hl2 hL2
                  go_wp2_with fail
                  refine (val_n HVf.out HN1.out HD1.out (x := (lo : Nat)) (by omega) (by omega) _ _ _ _ _ _ (HS.out.below (HB3.out.trans (HB9.out.mono HB3.out.size)))).mono ?_
                  rintro _ u0a ⟨rfl, hb⟩
                  have HBs0a := Lib.hid (HB9.out.trans (hb.mono HB9.out.size))
                  clear hb
                  go_wp2_with fail
                  refine (val_n HVg.out HN2.out HD2.out (x := (lo : Nat)) (by omega) (by omega) _ _ _ _ _ _ (HS'.out.below (HB3.out.trans (HBs0a.out.mono HB3.out.size)))).mono ?_
                  rintro _ u1a ⟨rfl, hb⟩
                  have HBs1a := Lib.hid (HBs0a.out.trans (hb.mono HBs0a.out.size))
                  clear hb
                  go_wp2_with fail
                  refine (KC.out _).mono ?_
                  rintro _ u2a ⟨rfl, hb⟩
                  have HBa := Lib.hid (HBs1a.out.trans (hb.mono HBs1a.out.size))
                  clear hb
                  go_wp2_with fail
                  refine (val_n HVf.out HN3.out HD3.out (x := (hi : Nat)) (by omega) (by omega) _ _ _ _ _ _ (HS.out.below (HB3.out.trans (HBa.out.mono HB3.out.size)))).mono ?_
                  rintro _ u0b ⟨rfl, hb⟩
                  have HBs0b := Lib.hid (HBa.out.trans (hb.mono HBa.out.size))
                  clear hb
                  go_wp2_with fail
                  refine (val_n HVg.out HN4.out HD4.out (x := (hi : Nat)) (by omega) (by omega) _ _ _ _ _ _ (HS'.out.below (HB3.out.trans (HBs0b.out.mono HB3.out.size)))).mono ?_
                  rintro _ u1b ⟨rfl, hb⟩
                  have HBs1b := Lib.hid (HBs0b.out.trans (hb.mono HBs0b.out.size))
                  clear hb
                  go_wp2_with fail
                  refine (KC2.out _).mono ?_
                  rintro _ u2b ⟨rfl, hb⟩
                  have HBb := Lib.hid (HBs1b.out.trans (hb.mono HBs1b.out.size))
                  clear hb
                  go_wp2_with fail
                  go_loopg [13, 14] (hi - lo) (fun q s13 s14 wo => ∃ a b : Nat, s13 = .int .i64 a ∧ s14 = .int .i64 b ∧ lo ≤ a ∧ a < b ∧ b ≤ hi ∧ b - a ≤ q ∧ Hid (RowKit.Below w3.heap.size w3 wo) ∧ Hid (Pw.lss (AA f) (AA g) a = false) ∧ Hid (Pw.lss (AA f) (AA g) b = true))
                  case atStart => exact ⟨lo, hi, rfl, rfl, by omega, by omega, by omega, by omega, HBb.out, HF0.out, HL0.out⟩
                  case round =>
                    obtain ⟨a, b, rfl, rfl, ha, hab, hb', hq2, HBi, HLa, HLb⟩ := hrel
                    by_cases hgt : 1 < b - a
                    · have hgtz : (1 : Int) < (b : Int) - (a : Int) := by omega
                      have hlt2 : (((a + b) / 2 : Nat) : Int) = ((a : Int) + (b : Int)) / 2 := by omega
                      obtain ⟨c, hc⟩ : ∃ c, c = (a + b) / 2 := ⟨_, rfl⟩
                      rw [← hc] at hlt2
                      have hcb : a < c ∧ c < b := by omega
                      have HC := Lib.hid hlt2
                      obtain ⟨n5, hn5⟩ : ∃ n, n = (vl (AA f) (c : Nat)).num := ⟨_, rfl⟩
                      obtain ⟨d5, hd5⟩ : ∃ d : Int, d = (vl (AA f) (c : Nat)).den := ⟨_, rfl⟩
                      obtain ⟨n6, hn6⟩ : ∃ n, n = (vl (AA g) (c : Nat)).num := ⟨_, rfl⟩
                      obtain ⟨d6, hd6⟩ : ∃ d : Int, d = (vl (AA g) (c : Nat)).den := ⟨_, rfl⟩
                      obtain ⟨z3, hz3⟩ : ∃ z, z = cm (vl (AA f) (c : Nat)) (vl (AA g) (c : Nat)) := ⟨_, rfl⟩
                      have KC3 := Lib.hid (fun w => rcompare_c hn5 hd5 hn6 hd6 hz3 (vl_bd HVf.out (x := (c : Nat)) (by omega) (by omega)) (vl_bd HVg.out (x := (c : Nat)) (by omega) (by omega)) w)
                      have hl3 : z3 < 0 ↔ Pw.lss (AA f) (AA g) (c : Nat) = true := by rw [hz3, cm_neg]; unfold Pw.lss; rw [decide_eq_true_eq]
                      have HN5 := Lib.hid hn5
                      have HD5 := Lib.hid hd5
                      have HN6 := Lib.hid hn6
                      have HD6 := Lib.hid hd6
                      clear hn5 hd5 hn6 hd6 hz3 hlt2 hc
                      by_cases hz3 : z3 < 0
                      · have HLc := Lib.hid (hl3.1 hz3)
                        clear hl3
                        go_wp2_with fail
                        rw [← HC.out]
                        refine (val_n HVf.out HN5.out HD5.out (x := (c : Nat)) (by omega) (by omega) _ _ _ _ _ _ (HS.out.below (HB3.out.trans (HBi.out.mono HB3.out.size)))).mono ?_
                        rintro _ u0d ⟨rfl, hb⟩
                        have HBs0d := Lib.hid (HBi.out.trans (hb.mono HBi.out.size))
                        clear hb
                        go_wp2_with fail
                        refine (val_n HVg.out HN6.out HD6.out (x := (c : Nat)) (by omega) (by omega) _ _ _ _ _ _ (HS'.out.below (HB3.out.trans (HBs0d.out.mono HB3.out.size)))).mono ?_
                        rintro _ u1d ⟨rfl, hb⟩
                        have HBs1d := Lib.hid (HBs0d.out.trans (hb.mono HBs0d.out.size))
                        clear hb
                        go_wp2_with fail
                        refine (KC3.out _).mono ?_
                        rintro _ u2d ⟨rfl, hb⟩
                        have HBd := Lib.hid (HBs1d.out.trans (hb.mono HBs1d.out.size))
                        clear hb
                        go_wp2
                        go_roundg (c - a)
                        case measure => omega
                        case rel => exact ⟨a, c, rfl, rfl, by omega, by omega, by omega, Nat.le_refl _, HBd.out, HLa.out, HLc.out⟩
                      · have HLc : Hid (Pw.lss (AA f) (AA g) (c : Nat) = false) := by
                          show _ = _
                          cases h : Pw.lss (AA f) (AA g) (c : Nat) with
                          | false => rfl
                          | true => exact absurd (hl3.2 h) hz3
                        clear hl3
                        go_wp2_with fail
                        rw [← HC.out]
                        refine (val_n HVf.out HN5.out HD5.out (x := (c : Nat)) (by omega) (by omega) _ _ _ _ _ _ (HS.out.below (HB3.out.trans (HBi.out.mono HB3.out.size)))).mono ?_
                        rintro _ u0d ⟨rfl, hb⟩
                        have HBs0d := Lib.hid (HBi.out.trans (hb.mono HBi.out.size))
                        clear hb
                        go_wp2_with fail
                        refine (val_n HVg.out HN6.out HD6.out (x := (c : Nat)) (by omega) (by omega) _ _ _ _ _ _ (HS'.out.below (HB3.out.trans (HBs0d.out.mono HB3.out.size)))).mono ?_
                        rintro _ u1d ⟨rfl, hb⟩
                        have HBs1d := Lib.hid (HBs0d.out.trans (hb.mono HBs0d.out.size))
                        clear hb
                        go_wp2_with fail
                        refine (KC3.out _).mono ?_
                        rintro _ u2d ⟨rfl, hb⟩
                        have HBd := Lib.hid (HBs1d.out.trans (hb.mono HBs1d.out.size))
                        clear hb
                        go_wp2
                        go_roundg (b - c)
                        case measure => omega
                        case rel => exact ⟨c, b, rfl, rfl, by omega, by omega, by omega, Nat.le_refl _, HBd.out, HLc.out, HLb.out⟩
                    · have hgtz : ¬ (1 : Int) < (b : Int) - (a : Int) := by omega
                      have hyes := belR_yes (F := AA f) (G := AA g) (lo := lo) (hi := hi) (x := (b : Nat)) HLb.out (by omega) (by omega) fun y y1 y2 => by
                        by_cases hy : y < X'
                        · exact HI.out y y1 hy (by omega)
                        · cases h : Pw.lss (AA f) (AA g) y with
                          | false => rfl
                          | true =>
                            have h' := HSG.out.once (a := (lo : Nat)) (b := y) (c := (a : Nat)) (by omega) (by omega) (by omega) (by omega) HF0.out h
                            rw [HLa.out] at h'
                            cases h'
                      have HE : Hid (RX = (b : Nat) ∧ RB = true) := ⟨by rw [HR.out.1, hyes], by rw [HR.out.2, hyes]⟩
                      clear hyes
                      go_wp2
                      go_ret3
                      exact ⟨by have h1 := HE.out.1; have h2 := HE.out.2; subst h1 h2; rfl, (HB3.out.trans (HBi.out.mono HB3.out.size))⟩
          · have hLz : ¬ (hi : Int) ≤ (Z : Int) := by omega
            have hLz2 : (Z : Int) < (hi : Int) := by omega
            by_cases hfl : Z < lo
            · have hflz : (Z : Int) < (lo : Int) := by omega
              have HI2 : Hid (∀ y : Int, (lo : Int) ≤ y → y < Y → y ≤ hi → Pw.lss (AA f) (AA g) y = false) := fun y a b c => by
                by_cases hy : y < X'
                · exact HI.out y a hy c
                · omega
              go_wp2
              go_roundg (m - (k + 1))
              case measure => omega
              case rel => exact ⟨k + 1, Y, by go_num, by omega, by omega, hY2, fun h => HNX.out.1 h, fun h => by rw [HMM.out]; exact HNX.out.2 h, HB9.out, HI2.out⟩
            · have hflz : ¬ (Z : Int) < (lo : Int) := by omega
              obtain ⟨n1, hn1⟩ : ∃ n, n = (vl (AA f) (lo : Nat)).num := ⟨_, rfl⟩
              obtain ⟨d1, hd1⟩ : ∃ d : Int, d = (vl (AA f) (lo : Nat)).den := ⟨_, rfl⟩
              obtain ⟨n2, hn2⟩ : ∃ n, n = (vl (AA g) (lo : Nat)).num := ⟨_, rfl⟩
              obtain ⟨d2, hd2⟩ : ∃ d : Int, d = (vl (AA g) (lo : Nat)).den := ⟨_, rfl⟩
              obtain ⟨z1, hz1⟩ : ∃ z, z = cm (vl (AA f) (lo : Nat)) (vl (AA g) (lo : Nat)) := ⟨_, rfl⟩
              have KC := Lib.hid (fun w => rcompare_c hn1 hd1 hn2 hd2 hz1 (vl_bd HVf.out (x := (lo : Nat)) (by omega) (by omega)) (vl_bd HVg.out (x := (lo : Nat)) (by omega) (by omega)) w)
              have hl1 : z1 < 0 ↔ Pw.lss (AA f) (AA g) (lo : Nat) = true := by rw [hz1, cm_neg]; unfold Pw.lss; rw [decide_eq_true_eq]
              have HN1 := Lib.hid hn1
              have HD1 := Lib.hid hd1
              have HN2 := Lib.hid hn2
              have HD2 := Lib.hid hd2
              clear hn1 hd1 hn2 hd2 hz1
              by_cases hz : z1 < 0
              · have hyes := belR_yes (F := AA f) (G := AA g) (lo := lo) (hi := hi) (x := (lo : Nat)) (hl1.1 hz) (by omega) (by omega) fun y a b => HI.out y a (by omega) (by omega)
                have HE : Hid (RX = (lo : Nat) ∧ RB = true) := ⟨by rw [HR.out.1, hyes], by rw [HR.out.2, hyes]⟩
                clear hyes hl1
                go_wp2_with fail
                refine (val_n HVf.out HN1.out HD1.out (x := (lo : Nat)) (by omega) (by omega) _ _ _ _ _ _ (HS.out.below (HB3.out.trans (HB9.out.mono HB3.out.size)))).mono ?_
                rintro _ u0a ⟨rfl, hb⟩
                have HBs0a := Lib.hid (HB9.out.trans (hb.mono HB9.out.size))
                clear hb
                go_wp2_with fail
                refine (val_n HVg.out HN2.out HD2.out (x := (lo : Nat)) (by omega) (by omega) _ _ _ _ _ _ (HS'.out.below (HB3.out.trans (HBs0a.out.mono HB3.out.size)))).mono ?_
                rintro _ u1a ⟨rfl, hb⟩
                have HBs1a := Lib.hid (HBs0a.out.trans (hb.mono HBs0a.out.size))
                clear hb
                go_wp2_with fail
                refine (KC.out _).mono ?_
                rintro _ u2a ⟨rfl, hb⟩
                have HBa := Lib.hid (HBs1a.out.trans (hb.mono HBs1a.out.size))
                clear hb
                go_wp2
                go_ret3
                exact ⟨by have h1 := HE.out.1; have h2 := HE.out.2; subst h1 h2; rfl, (HB3.out.trans (HBa.out.mono HB3.out.size))⟩
              · have hf1 : Pw.lss (AA f) (AA g) (lo : Nat) = false := by
                  cases h : Pw.lss (AA f) (AA g) (lo : Nat) with
                  | false => rfl
                  | true => exact absurd (hl1.2 h) hz
                clear hl1
                obtain ⟨n3, hn3⟩ : ∃ n, n = (vl (AA f) (Z : Nat)).num := ⟨_, rfl⟩
                obtain ⟨d3, hd3⟩ : ∃ d : Int, d = (vl (AA f) (Z : Nat)).den := ⟨_, rfl⟩
                obtain ⟨n4, hn4⟩ : ∃ n, n = (vl (AA g) (Z : Nat)).num := ⟨_, rfl⟩
                obtain ⟨d4, hd4⟩ : ∃ d : Int, d = (vl (AA g) (Z : Nat)).den := ⟨_, rfl⟩
                obtain ⟨z2, hz2⟩ : ∃ z, z = cm (vl (AA f) (Z : Nat)) (vl (AA g) (Z : Nat)) := ⟨_, rfl⟩
                have KC2 := Lib.hid (fun w => rcompare_c hn3 hd3 hn4 hd4 hz2 (vl_bd HVf.out (x := (Z : Nat)) (by omega) (by omega)) (vl_bd HVg.out (x := (Z : Nat)) (by omega) (by omega)) w)
                have hl2 : z2 < 0 ↔ Pw.lss (AA f) (AA g) (Z : Nat) = true := by rw [hz2, cm_neg]; unfold Pw.lss; rw [decide_eq_true_eq]
                have HN3 := Lib.hid hn3
                have HD3 := Lib.hid hd3
                have HN4 := Lib.hid hn4
                have HD4 := Lib.hid hd4
                clear hn3 hd3 hn4 hd4 hz2
                by_cases hzz : 0 ≤ z2
                · have HI2 : Hid (∀ y : Int, (lo : Int) ≤ y → y < Y → y ≤ hi → Pw.lss (AA f) (AA g) y = false) := fun y a b c => by
                    by_cases hy : y < X'
                    · exact HI.out y a hy c
                    · cases h : Pw.lss (AA f) (AA g) y with
                      | false => rfl
                      | true => exact absurd (hl2.2 (HSG.out.once (a := (lo : Nat)) (b := y) (c := (Z : Nat)) (by omega) (by omega) (by omega) (by omega) hf1 h)) (by omega)
                  clear hf1 hl2
                  go_wp2_with fail
                  refine (val_n HVf.out HN1.out HD1.out (x := (lo : Nat)) (by omega) (by omega) _ _ _ _ _ _ (HS.out.below (HB3.out.trans (HB9.out.mono HB3.out.size)))).mono ?_
                  rintro _ u0a ⟨rfl, hb⟩
                  have HBs0a := Lib.hid (HB9.out.trans (hb.mono HB9.out.size))
                  clear hb
                  go_wp2_with fail
                  refine (val_n HVg.out HN2.out HD2.out (x := (lo : Nat)) (by omega) (by omega) _ _ _ _ _ _ (HS'.out.below (HB3.out.trans (HBs0a.out.mono HB3.out.size)))).mono ?_
                  rintro _ u1a ⟨rfl, hb⟩
                  have HBs1a := Lib.hid (HBs0a.out.trans (hb.mono HBs0a.out.size))
                  clear hb
                  go_wp2_with fail
                  refine (KC.out _).mono ?_
                  rintro _ u2a ⟨rfl, hb⟩
                  have HBa := Lib.hid (HBs1a.out.trans (hb.mono HBs1a.out.size))
                  clear hb
                  go_wp2_with fail
                  refine (val_n HVf.out HN3.out HD3.out (x := (Z : Nat)) (by omega) (by omega) _ _ _ _ _ _ (HS.out.below (HB3.out.trans (HBa.out.mono HB3.out.size)))).mono ?_
                  rintro _ u0b ⟨rfl, hb⟩
                  have HBs0b := Lib.hid (HBa.out.trans (hb.mono HBa.out.size))
                  clear hb
                  go_wp2_with fail
                  refine (val_n HVg.out HN4.out HD4.out (x := (Z : Nat)) (by omega) (by omega) _ _ _ _ _ _ (HS'.out.below (HB3.out.trans (HBs0b.out.mono HB3.out.size)))).mono ?_
                  rintro _ u1b ⟨rfl, hb⟩
                  have HBs1b := Lib.hid (HBs0b.out.trans (hb.mono HBs0b.out.size))
                  clear hb
                  go_wp2_with fail
                  refine (KC2.out _).mono ?_
                  rintro _ u2b ⟨rfl, hb⟩
                  have HBb := Lib.hid (HBs1b.out.trans (hb.mono HBs1b.out.size))
                  clear hb
                  go_wp2
                  go_roundg (m - (k + 1))
                  case measure => omega
                  case rel => exact ⟨k + 1, Y, by go_num, by omega, by omega, hY2, fun h => HNX.out.1 h, fun h => by rw [HMM.out]; exact HNX.out.2 h, HBb.out, HI2.out⟩
                · have hL2 : Pw.lss (AA f) (AA g) (Z : Nat) = true := hl2.1 (by omega)
                  have hne : lo ≠ Z := fun e => by rw [e, hL2] at hf1; cases hf1
                  have HF0 := Lib.hid hf1
                  have HL0 := Lib.hid hL2
                  clear hf1 hl2 hL2
                  go_wp2_with fail
                  refine (val_n HVf.out HN1.out HD1.out (x := (lo : Nat)) (by omega) (by omega) _ _ _ _ _ _ (HS.out.below (HB3.out.trans (HB9.out.mono HB3.out.size)))).mono ?_
                  rintro _ u0a ⟨rfl, hb⟩
                  have HBs0a := Lib.hid (HB9.out.trans (hb.mono HB9.out.size))
                  clear hb
                  go_wp2_with fail
                  refine (val_n HVg.out HN2.out HD2.out (x := (lo : Nat)) (by omega) (by omega) _ _ _ _ _ _ (HS'.out.below (HB3.out.trans (HBs0a.out.mono HB3.out.size)))).mono ?_
                  rintro _ u1a ⟨rfl, hb⟩
                  have HBs1a := Lib.hid (HBs0a.out.trans (hb.mono HBs0a.out.size))
                  clear hb
                  go_wp2_with fail
                  refine (KC.out _).mono ?_
                  rintro _ u2a ⟨rfl, hb⟩
                  have HBa := Lib.hid (HBs1a.out.trans (hb.mono HBs1a.out.size))
                  clear hb
                  go_wp2_with fail
                  refine (val_n HVf.out HN3.out HD3.out (x := (Z : Nat)) (by omega) (by omega) _ _ _ _ _ _ (HS.out.below (HB3.out.trans (HBa.out.mono HB3.out.size)))).mono ?_
                  rintro _ u0b ⟨rfl, hb⟩
                  have HBs0b := Lib.hid (HBa.out.trans (hb.mono HBa.out.size))
                  clear hb
                  go_wp2_with fail
                  refine (val_n HVg.out HN4.out HD4.out (x := (Z : Nat)) (by omega) (by omega) _ _ _ _ _ _ (HS'.out.below (HB3.out.trans (HBs0b.out.mono HB3.out.size)))).mono ?_
                  rintro _ u1b ⟨rfl, hb⟩
                  have HBs1b := Lib.hid (HBs0b.out.trans (hb.mono HBs0b.out.size))
                  clear hb
                  go_wp2_with fail
                  refine (KC2.out _).mono ?_
                  rintro _ u2b ⟨rfl, hb⟩
                  have HBb := Lib.hid (HBs1b.out.trans (hb.mono HBs1b.out.size))
                  clear hb
                  go_wp2_with fail
                  go_loopg [13, 14] (Z - lo) (fun q s13 s14 wo => ∃ a b : Nat, s13 = .int .i64 a ∧ s14 = .int .i64 b ∧ lo ≤ a ∧ a < b ∧ b ≤ Z ∧ b - a ≤ q ∧ Hid (RowKit.Below w3.heap.size w3 wo) ∧ Hid (Pw.lss (AA f) (AA g) a = false) ∧ Hid (Pw.lss (AA f) (AA g) b = true))
                  case atStart => exact ⟨lo, Z, rfl, rfl, by omega, by omega, by omega, by omega, HBb.out, HF0.out, HL0.out⟩
                  case round =>
                    obtain ⟨a, b, rfl, rfl, ha, hab, hb', hq2, HBi, HLa, HLb⟩ := hrel
                    by_cases hgt : 1 < b - a
                    · have hgtz : (1 : Int) < (b : Int) - (a : Int) := by omega
                      have hlt2 : (((a + b) / 2 : Nat) : Int) = ((a : Int) + (b : Int)) / 2 := by omega
                      obtain ⟨c, hc⟩ : ∃ c, c = (a + b) / 2 := ⟨_, rfl⟩
                      rw [← hc] at hlt2
                      have hcb : a < c ∧ c < b := by omega
                      have HC := Lib.hid hlt2
                      obtain ⟨n5, hn5⟩ : ∃ n, n = (vl (AA f) (c : Nat)).num := ⟨_, rfl⟩
                      obtain ⟨d5, hd5⟩ : ∃ d : Int, d = (vl (AA f) (c : Nat)).den := ⟨_, rfl⟩
                      obtain ⟨n6, hn6⟩ : ∃ n, n = (vl (AA g) (c : Nat)).num := ⟨_, rfl⟩
                      obtain ⟨d6, hd6⟩ : ∃ d : Int, d = (vl (AA g) (c : Nat)).den := ⟨_, rfl⟩
                      obtain ⟨z3, hz3⟩ : ∃ z, z = cm (vl (AA f) (c : Nat)) (vl (AA g) (c : Nat)) := ⟨_, rfl⟩
                      have KC3 := Lib.hid (fun w => rcompare_c hn5 hd5 hn6 hd6 hz3 (vl_bd HVf.out (x := (c : Nat)) (by omega) (by omega)) (vl_bd HVg.out (x := (c : Nat)) (by omega) (by omega)) w)
                      have hl3 : z3 < 0 ↔ Pw.lss (AA f) (AA g) (c : Nat) = true := by rw [hz3, cm_neg]; unfold Pw.lss; rw [decide_eq_true_eq]
                      have HN5 := Lib.hid hn5
                      have HD5 := Lib.hid hd5
                      have HN6 := Lib.hid hn6
                      have HD6 := Lib.hid hd6
                      clear hn5 hd5 hn6 hd6 hz3 hlt2 hc
                      by_cases hz3 : z3 < 0
                      · have HLc := Lib.hid (hl3.1 hz3)
                        clear hl3
                        go_wp2_with fail
                        rw [← HC.out]
                        refine (val_n HVf.out HN5.out HD5.out (x := (c : Nat)) (by omega) (by omega) _ _ _ _ _ _ (HS.out.below (HB3.out.trans (HBi.out.mono HB3.out.size)))).mono ?_
                        rintro _ u0d ⟨rfl, hb⟩
                        have HBs0d := Lib.hid (HBi.out.trans (hb.mono HBi.out.size))
                        clear hb
                        go_wp2_with fail
                        refine (val_n HVg.out HN6.out HD6.out (x := (c : Nat)) (by omega) (by omega) _ _ _ _ _ _ (HS'.out.below (HB3.out.trans (HBs0d.out.mono HB3.out.size)))).mono ?_
                        rintro _ u1d ⟨rfl, hb⟩
                        have HBs1d := Lib.hid (HBs0d.out.trans (hb.mono HBs0d.out.size))
                        clear hb
                        go_wp2_with fail
                        refine (KC3.out _).mono ?_
                        rintro _ u2d ⟨rfl, hb⟩
                        have HBd := Lib.hid (HBs1d.out.trans (hb.mono HBs1d.out.size))
                        clear hb
                        go_wp2
                        go_roundg (c - a)
                        case measure => omega
                        case rel => exact ⟨a, c, rfl, rfl, by omega, by omega, by omega, Nat.le_refl _, HBd.out, HLa.out, HLc.out⟩
                      · have HLc : Hid (Pw.lss (AA f) (AA g) (c : Nat) = false) := by
                          show _ = _
                          cases h : Pw.lss (AA f) (AA g) (c : Nat) with
                          | false => rfl
                          | true => exact absurd (hl3.2 h) hz3
                        clear hl3
                        go_wp2_with fail
                        rw [← HC.out]
                        refine (val_n HVf.out HN5.out HD5.out (x := (c : Nat)) (by omega) (by omega) _ _ _ _ _ _ (HS.out.below (HB3.out.trans (HBi.out.mono HB3.out.size)))).mono ?_
                        rintro _ u0d ⟨rfl, hb⟩
                        have HBs0d := Lib.hid (HBi.out.trans (hb.mono HBi.out.size))
                        clear hb
                        go_wp2_with fail
                        refine (val_n HVg.out HN6.out HD6.out (x := (c : Nat)) (by omega) (by omega) _ _ _ _ _ _ (HS'.out.below (HB3.out.trans (HBs0d.out.mono HB3.out.size)))).mono ?_
                        rintro _ u1d ⟨rfl, hb⟩
                        have HBs1d := Lib.hid (HBs0d.out.trans (hb.mono HBs0d.out.size))
                        clear hb
                        go_wp2_with fail
                        refine (KC3.out _).mono ?_
                        rintro _ u2d ⟨rfl, hb⟩
                        have HBd := Lib.hid (HBs1d.out.trans (hb.mono HBs1d.out.size))
                        clear hb
                        go_wp2
                        go_roundg (b - c)
                        case measure => omega
                        case rel => exact ⟨c, b, rfl, rfl, by omega, by omega, by omega, Nat.le_refl _, HBd.out, HLc.out, HLb.out⟩
                    · have hgtz : ¬ (1 : Int) < (b : Int) - (a : Int) := by omega
                      have hyes := belR_yes (F := AA f) (G := AA g) (lo := lo) (hi := hi) (x := (b : Nat)) HLb.out (by omega) (by omega) fun y y1 y2 => by
                        by_cases hy : y < X'
                        · exact HI.out y y1 hy (by omega)
                        · cases h : Pw.lss (AA f) (AA g) y with
                          | false => rfl
                          | true =>
                            have h' := HSG.out.once (a := (lo : Nat)) (b := y) (c := (a : Nat)) (by omega) (by omega) (by omega) (by omega) HF0.out h
                            rw [HLa.out] at h'
                            cases h'
                      have HE : Hid (RX = (b : Nat) ∧ RB = true) := ⟨by rw [HR.out.1, hyes], by rw [HR.out.2, hyes]⟩
                      clear hyes
                      go_wp2
                      go_ret3
                      exact ⟨by have h1 := HE.out.1; have h2 := HE.out.2; subst h1 h2; rfl, (HB3.out.trans (HBi.out.mono HB3.out.size))⟩
        · have hnxz : ¬ (k : Int) + 1 < (m : Int) := by omega
          have hY3 := s3 (by rw [← HM.out]; exact hnx)
          have hL : hi ≤ Z := by omega
          clear s2 s3 hSr
          by_cases hfl : hi < lo
          · have hflz : (hi : Int) < (lo : Int) := by omega
            have HI2 : Hid (∀ y : Int, (lo : Int) ≤ y → y < Y → y ≤ hi → Pw.lss (AA f) (AA g) y = false) := fun y a b c => by
              by_cases hy : y < X'
              · exact HI.out y a hy c
              · omega
            exfalso; omega
          · have hflz : ¬ (hi : Int) < (lo : Int) := by omega
            obtain ⟨n1, hn1⟩ : ∃ n, n = (vl (AA f) (lo : Nat)).num := ⟨_, rfl⟩
            obtain ⟨d1, hd1⟩ : ∃ d : Int, d = (vl (AA f) (lo : Nat)).den := ⟨_, rfl⟩
            obtain ⟨n2, hn2⟩ : ∃ n, n = (vl (AA g) (lo : Nat)).num := ⟨_, rfl⟩
            obtain ⟨d2, hd2⟩ : ∃ d : Int, d = (vl (AA g) (lo : Nat)).den := ⟨_, rfl⟩
            obtain ⟨z1, hz1⟩ : ∃ z, z = cm (vl (AA f) (lo : Nat)) (vl (AA g) (lo : Nat)) := ⟨_, rfl⟩
            have KC := Lib.hid (fun w => rcompare_c hn1 hd1 hn2 hd2 hz1 (vl_bd HVf.out (x := (lo : Nat)) (by omega) (by omega)) (vl_bd HVg.out (x := (lo : Nat)) (by omega) (by omega)) w)
            have hl1 : z1 < 0 ↔ Pw.lss (AA f) (AA g) (lo : Nat) = true := by rw [hz1, cm_neg]; unfold Pw.lss; rw [decide_eq_true_eq]
            have HN1 := Lib.hid hn1
            have HD1 := Lib.hid hd1
            have HN2 := Lib.hid hn2
            have HD2 := Lib.hid hd2
            clear hn1 hd1 hn2 hd2 hz1
            by_cases hz : z1 < 0
            · have hyes := belR_yes (F := AA f) (G := AA g) (lo := lo) (hi := hi) (x := (lo : Nat)) (hl1.1 hz) (by omega) (by omega) fun y a b => HI.out y a (by omega) (by omega)
              have HE : Hid (RX = (lo : Nat) ∧ RB = true) := ⟨by rw [HR.out.1, hyes], by rw [HR.out.2, hyes]⟩
              clear hyes hl1
              go_wp2_with fail
              refine (val_n HVf.out HN1.out HD1.out (x := (lo : Nat)) (by omega) (by omega) _ _ _ _ _ _ (HS.out.below (HB3.out.trans (HB9.out.mono HB3.out.size)))).mono ?_
              rintro _ u0a ⟨rfl, hb⟩
              have HBs0a := Lib.hid (HB9.out.trans (hb.mono HB9.out.size))
              clear hb
              go_wp2_with fail
              refine (val_n HVg.out HN2.out HD2.out (x := (lo : Nat)) (by omega) (by omega) _ _ _ _ _ _ (HS'.out.below (HB3.out.trans (HBs0a.out.mono HB3.out.size)))).mono ?_
              rintro _ u1a ⟨rfl, hb⟩
              have HBs1a := Lib.hid (HBs0a.out.trans (hb.mono HBs0a.out.size))
              clear hb
              go_wp2_with fail
              refine (KC.out _).mono ?_
              rintro _ u2a ⟨rfl, hb⟩
              have HBa := Lib.hid (HBs1a.out.trans (hb.mono HBs1a.out.size))
              clear hb
              go_wp2
              go_ret3
              exact ⟨by have h1 := HE.out.1; have h2 := HE.out.2; subst h1 h2; rfl, (HB3.out.trans (HBa.out.mono HB3.out.size))⟩
            · have hf1 : Pw.lss (AA f) (AA g) (lo : Nat) = false := by
                cases h : Pw.lss (AA f) (AA g) (lo : Nat) with
                | false => rfl
                | true => exact absurd (hl1.2 h) hz
              clear hl1
              obtain ⟨n3, hn3⟩ : ∃ n, n = (vl (AA f) (hi : Nat)).num := ⟨_, rfl⟩
              obtain ⟨d3, hd3⟩ : ∃ d : Int, d = (vl (AA f) (hi : Nat)).den := ⟨_, rfl⟩
              obtain ⟨n4, hn4⟩ : ∃ n, n = (vl (AA g) (hi : Nat)).num := ⟨_, rfl⟩
              obtain ⟨d4, hd4⟩ : ∃ d : Int, d = (vl (AA g) (hi : Nat)).den := ⟨_, rfl⟩
              obtain ⟨z2, hz2⟩ : ∃ z, z = cm (vl (AA f) (hi : Nat)) (vl (AA g) (hi : Nat)) := ⟨_, rfl⟩
              have KC2 := Lib.hid (fun w => rcompare_c hn3 hd3 hn4 hd4 hz2 (vl_bd HVf.out (x := (hi : Nat)) (by omega) (by omega)) (vl_bd HVg.out (x := (hi : Nat)) (by omega) (by omega)) w)
              have hl2 : z2 < 0 ↔ Pw.lss (AA f) (AA g) (hi : Nat) = true := by rw [hz2, cm_neg]; unfold Pw.lss; rw [decide_eq_true_eq]
              have HN3 := Lib.hid hn3
              have HD3 := Lib.hid hd3
              have HN4 := Lib.hid hn4
              have HD4 := Lib.hid hd4
              clear hn3 hd3 hn4 hd4 hz2
              by_cases hzz : 0 ≤ z2
              · have HI2 : Hid (∀ y : Int, (lo : Int) ≤ y → y < Y → y ≤ hi → Pw.lss (AA f) (AA g) y = false) := fun y a b c => by
                  by_cases hy : y < X'
                  · exact HI.out y a hy c
                  · cases h : Pw.lss (AA f) (AA g) y with
                    | false => rfl
                    | true => exact absurd (hl2.2 (HSG.out.once (a := (lo : Nat)) (b := y) (c := (hi : Nat)) (by omega) (by omega) (by omega) (by omega) hf1 h)) (by omega)
                clear hf1 hl2
                go_wp2_with fail
                refine (val_n HVf.out HN1.out HD1.out (x := (lo : Nat)) (by omega) (by omega) _ _ _ _ _ _ (HS.out.below (HB3.out.trans (HB9.out.mono HB3.out.size)))).mono ?_
                rintro _ u0a ⟨rfl, hb⟩
                have HBs0a := Lib.hid (HB9.out.trans (hb.mono HB9.out.size))
                clear hb
                go_wp2_with fail
                refine (val_n HVg.out HN2.out HD2.out (x := (lo : Nat)) (by omega) (by omega) _ _ _ _ _ _ (HS'.out.below (HB3.out.trans (HBs0a.out.mono HB3.out.size)))).mono ?_
                rintro _ u1a ⟨rfl, hb⟩
                have HBs1a := Lib.hid (HBs0a.out.trans (hb.mono HBs0a.out.size))
                clear hb
                go_wp2_with fail
                refine (KC.out _).mono ?_
                rintro _ u2a ⟨rfl, hb⟩
                have HBa := Lib.hid (HBs1a.out.trans (hb.mono HBs1a.out.size))
                clear hb
                go_wp2_with fail
                refine (val_n HVf.out HN3.out HD3.out (x := (hi : Nat)) (by omega) (by omega) _ _ _ _ _ _ (HS.out.below (HB3.out.trans (HBa.out.mono HB3.out.size)))).mono ?_
                rintro _ u0b ⟨rfl, hb⟩
                have HBs0b := Lib.hid (HBa.out.trans (hb.mono HBa.out.size))
                clear hb
                go_wp2_with fail
                refine (val_n HVg.out HN4.out HD4.out (x := (hi : Nat)) (by omega) (by omega) _ _ _ _ _ _ (HS'.out.below (HB3.out.trans (HBs0b.out.mono HB3.out.size)))).mono ?_
                rintro _ u1b ⟨rfl, hb⟩
                have HBs1b := Lib.hid (HBs0b.out.trans (hb.mono HBs0b.out.size))
                clear hb
                go_wp2_with fail
                refine (KC2.out _).mono ?_
                rintro _ u2b ⟨rfl, hb⟩
                have HBb := Lib.hid (HBs1b.out.trans (hb.mono HBs1b.out.size))
                clear hb
                go_wp2
                go_roundg (m - (k + 1))
                case measure => omega
                case rel => exact ⟨k + 1, Y, by go_num, by omega, by omega, hY2, fun h => HNX.out.1 h, fun h => by rw [HMM.out]; exact HNX.out.2 h, HBb.out, HI2.out⟩
              · have hL2 : Pw.lss (AA f) (AA g) (hi : Nat) = true := hl2.1 (by omega)
                have hne : lo ≠ hi := fun e => by rw [e, hL2] at hf1; cases hf1
                have HF0 := Lib.hid hf1
                have HL0 := Lib.hid hL2
                clear hf1 hl2 hL2
                go_wp2_with fail
                refine (val_n HVf.out HN1.out HD1.out (x := (lo : Nat)) (by omega) (by omega) _ _ _ _ _ _ (HS.out.below (HB3.out.trans (HB9.out.mono HB3.out.size)))).mono ?_
                rintro _ u0a ⟨rfl, hb⟩
                have HBs0a := Lib.hid (HB9.out.trans (hb.mono HB9.out.size))
                clear hb
                go_wp2_with fail
                refine (val_n HVg.out HN2.out HD2.out (x := (lo : Nat)) (by omega) (by omega) _ _ _ _ _ _ (HS'.out.below (HB3.out.trans (HBs0a.out.mono HB3.out.size)))).mono ?_
                rintro _ u1a ⟨rfl, hb⟩
                have HBs1a := Lib.hid (HBs0a.out.trans (hb.mono HBs0a.out.size))
                clear hb
                go_wp2_with fail
                refine (KC.out _).mono ?_
                rintro _ u2a ⟨rfl, hb⟩
                have HBa := Lib.hid (HBs1a.out.trans (hb.mono HBs1a.out.size))
                clear hb
                go_wp2_with fail
                refine (val_n HVf.out HN3.out HD3.out (x := (hi : Nat)) (by omega) (by omega) _ _ _ _ _ _ (HS.out.below (HB3.out.trans (HBa.out.mono HB3.out.size)))).mono ?_
                rintro _ u0b ⟨rfl, hb⟩
                have HBs0b := Lib.hid (HBa.out.trans (hb.mono HBa.out.size))
                clear hb
                go_wp2_with fail
                refine (val_n HVg.out HN4.out HD4.out (x := (hi : Nat)) (by omega) (by omega) _ _ _ _ _ _ (HS'.out.below (HB3.out.trans (HBs0b.out.mono HB3.out.size)))).mono ?_
                rintro _ u1b ⟨rfl, hb⟩
                have HBs1b := Lib.hid (HBs0b.out.trans (hb.mono HBs0b.out.size))
                clear hb
                go_wp2_with fail
                refine (KC2.out _).mono ?_
                rintro _ u2b ⟨rfl, hb⟩
                have HBb := Lib.hid (HBs1b.out.trans (hb.mono HBs1b.out.size))
                clear hb
                go_wp2_with fail
                go_loopg [13, 14] (hi - lo) (fun q s13 s14 wo => ∃ a b : Nat, s13 = .int .i64 a ∧ s14 = .int .i64 b ∧ lo ≤ a ∧ a < b ∧ b ≤ hi ∧ b - a ≤ q ∧ Hid (RowKit.Below w3.heap.size w3 wo) ∧ Hid (Pw.lss (AA f) (AA g) a = false) ∧ Hid (Pw.lss (AA f) (AA g) b = true))
                case atStart => exact ⟨lo, hi, rfl, rfl, by omega, by omega, by omega, by omega, HBb.out, HF0.out, HL0.out⟩
                case round =>
                  obtain ⟨a, b, rfl, rfl, ha, hab, hb', hq2, HBi, HLa, HLb⟩ := hrel
                  by_cases hgt : 1 < b - a
                  · have hgtz : (1 : Int) < (b : Int) - (a : Int) := by omega
                    have hlt2 : (((a + b) / 2 : Nat) : Int) = ((a : Int) + (b : Int)) / 2 := by omega
                    obtain ⟨c, hc⟩ : ∃ c, c = (a + b) / 2 := ⟨_, rfl⟩
                    rw [← hc] at hlt2
                    have hcb : a < c ∧ c < b := by omega
                    have HC := Lib.hid hlt2
                    obtain ⟨n5, hn5⟩ : ∃ n, n = (vl (AA f) (c : Nat)).num := ⟨_, rfl⟩
                    obtain ⟨d5, hd5⟩ : ∃ d : Int, d = (vl (AA f) (c : Nat)).den := ⟨_, rfl⟩
                    obtain ⟨n6, hn6⟩ : ∃ n, n = (vl (AA g) (c : Nat)).num := ⟨_, rfl⟩
                    obtain ⟨d6, hd6⟩ : ∃ d : Int, d = (vl (AA g) (c : Nat)).den := ⟨_, rfl⟩
                    obtain ⟨z3, hz3⟩ : ∃ z, z = cm (vl (AA f) (c : Nat)) (vl (AA g) (c : Nat)) := ⟨_, rfl⟩
                    have KC3 := Lib.hid (fun w => rcompare_c hn5 hd5 hn6 hd6 hz3 (vl_bd HVf.out (x := (c : Nat)) (by omega) (by omega)) (vl_bd HVg.out (x := (c : Nat)) (by omega) (by omega)) w)
                    have hl3 : z3 < 0 ↔ Pw.lss (AA f) (AA g) (c : Nat) = true := by rw [hz3, cm_neg]; unfold Pw.lss; rw [decide_eq_true_eq]
                    have HN5 := Lib.hid hn5
                    have HD5 := Lib.hid hd5
                    have HN6 := Lib.hid hn6
                    have HD6 := Lib.hid hd6
                    clear hn5 hd5 hn6 hd6 hz3 hlt2 hc
                    by_cases hz3 : z3 < 0
                    · have HLc := Lib.hid (hl3.1 hz3)
                      clear hl3
                      go_wp2_with fail
                      rw [← HC.out]
                      refine (val_n HVf.out HN5.out HD5.out (x := (c : Nat)) (by omega) (by omega) _ _ _ _ _ _ (HS.out.below (HB3.out.trans (HBi.out.mono HB3.out.size)))).mono ?_
                      rintro _ u0d ⟨rfl, hb⟩
                      have HBs0d := Lib.hid (HBi.out.trans (hb.mono HBi.out.size))
                      clear hb
                      go_wp2_with fail
                      refine (val_n HVg.out HN6.out HD6.out (x := (c : Nat)) (by omega) (by omega) _ _ _ _ _ _ (HS'.out.below (HB3.out.trans (HBs0d.out.mono HB3.out.size)))).mono ?_
                      rintro _ u1d ⟨rfl, hb⟩
                      have HBs1d := Lib.hid (HBs0d.out.trans (hb.mono HBs0d.out.size))
                      clear hb
                      go_wp2_with fail
                      refine (KC3.out _).mono ?_
                      rintro _ u2d ⟨rfl, hb⟩
                      have HBd := Lib.hid (HBs1d.out.trans (hb.mono HBs1d.out.size))
                      clear hb
                      go_wp2
                      go_roundg (c - a)
                      case measure => omega
                      case rel => exact ⟨a, c, rfl, rfl, by omega, by omega, by omega, Nat.le_refl _, HBd.out, HLa.out, HLc.out⟩
                    · have HLc : Hid (Pw.lss (AA f) (AA g) (c : Nat) = false) := by
                        show _ = _
                        cases h : Pw.lss (AA f) (AA g) (c : Nat) with
                        | false => rfl
                        | true => exact absurd (hl3.2 h) hz3
                      clear hl3
                      go_wp2_with fail
                      rw [← HC.out]
                      refine (val_n HVf.out HN5.out HD5.out (x := (c : Nat)) (by omega) (by omega) _ _ _ _ _ _ (HS.out.below (HB3.out.trans (HBi.out.mono HB3.out.size)))).mono ?_
                      rintro _ u0d ⟨rfl, hb⟩
                      have HBs0d := Lib.hid (HBi.out.trans (hb.mono HBi.out.size))
                      clear hb
                      go_wp2_with fail
                      refine (val_n HVg.out HN6.out HD6.out (x := (c : Nat)) (by omega) (by omega) _ _ _ _ _ _ (HS'.out.below (HB3.out.trans (HBs0d.out.mono HB3.out.size)))).mono ?_
                      rintro _ u1d ⟨rfl, hb⟩
                      have HBs1d := Lib.hid (HBs0d.out.trans (hb.mono HBs0d.out.size))
                      clear hb
                      go_wp2_with fail
                      refine (KC3.out _).mono ?_
                      rintro _ u2d ⟨rfl, hb⟩
                      have HBd := Lib.hid (HBs1d.out.trans (hb.mono HBs1d.out.size))
                      clear hb
                      go_wp2
                      go_roundg (b - c)
                      case measure => omega
                      case rel => exact ⟨c, b, rfl, rfl, by omega, by omega, by omega, Nat.le_refl _, HBd.out, HLc.out, HLb.out⟩
                  · have hgtz : ¬ (1 : Int) < (b : Int) - (a : Int) := by omega
                    have hyes := belR_yes (F := AA f) (G := AA g) (lo := lo) (hi := hi) (x := (b : Nat)) HLb.out (by omega) (by omega) fun y y1 y2 => by
                      by_cases hy : y < X'
                      · exact HI.out y y1 hy (by omega)
                      · cases h : Pw.lss (AA f) (AA g) y with
                        | false => rfl
                        | true =>
                          have h' := HSG.out.once (a := (lo : Nat)) (b := y) (c := (a : Nat)) (by omega) (by omega) (by omega) (by omega) HF0.out h
                          rw [HLa.out] at h'
                          cases h'
                    have HE : Hid (RX = (b : Nat) ∧ RB = true) := ⟨by rw [HR.out.1, hyes], by rw [HR.out.2, hyes]⟩
                    clear hyes
                    go_wp2
                    go_ret3
                    exact ⟨by have h1 := HE.out.1; have h2 := HE.out.2; subst h1 h2; rfl, (HB3.out.trans (HBi.out.mono HB3.out.size))⟩
    · have hltz : ¬ (k : Int) < (m : Int) := by omega
      obtain rfl : X = M := hXM (by rw [← HM.out]; exact hlt)
      have hno : belR (AA f) (AA g) lo hi = (0, false) := belR_no fun y a b => HI.out y a (by have := HMM.out; omega) b
      have HE : Hid (RX = 0 ∧ RB = false) := ⟨by rw [HR.out.1, hno], by rw [HR.out.2, hno]⟩
      have HB4 := Lib.hid (HB3.out.trans (HBr.out.mono HB3.out.size))
      clear hno
      go_wp2
      go_ret3
      exact ⟨by have h1 := HE.out.1; have h2 := HE.out.2; subst h1 h2; rfl, HB4.out⟩
theorem rbelow_any (f g : List RP) (pf pg : Option Addr) (bf of cf lf bg og cg lg : Nat) (lo hi : Int) (w : World) (hS : SlP w pf bf of lf f) (hS' : SlP w pg bg og lg g) :
    Calls Try.prog 24 #[.slice pf lf cf, .slice pg lg cg, .agg #[.int .i64 lo, .int .i64 hi]] w fun e w' => e = .returned (.tuple #[.int .i64 (belV f g lo hi).1, .bool (belV f g lo hi).2.1, .int .i64 (belV f g lo hi).2.2]) ∧ RowKit.Below w.heap.size w w' := by
  by_cases h : VR f ∧ VR g ∧ 0 ≤ lo ∧ lo ≤ hi ∧ hi ≤ 100000
  · rw [show belV f g lo hi = _ from if_pos h]
    obtain ⟨h1, h2, h3, h4, h5⟩ := h
    obtain ⟨lo', rfl⟩ : ∃ n : Nat, lo = n := ⟨lo.toNat, by omega⟩
    obtain ⟨hi', rfl⟩ : ∃ n : Nat, hi = n := ⟨hi.toNat, by omega⟩
    exact rbelow_yes f g pf pg bf of cf lf bg og cg lg lo' hi' w hS hS' h1 h2 (by omega) (by omega)
  · rw [show belV f g lo hi = _ from if_neg h]
    refine rbelow_bad f g pf pg bf of cf lf bg og cg lg lo hi w hS hS' (vR f) (vR g) rfl rfl ?_
    by_cases hf : VR f
    · by_cases hg : VR g
      · have := vR_iff.2 hf
        have := vR_iff.2 hg
        have : ¬ (0 ≤ lo ∧ lo ≤ hi ∧ hi ≤ 100000) := fun k => h ⟨hf, hg, k⟩
        by_cases h0 : lo < 0
        · exact .inr (.inr (.inl ⟨vR_iff.2 hf, vR_iff.2 hg, h0⟩))
        · by_cases h1 : hi < lo
          · exact .inr (.inr (.inr (.inl ⟨vR_iff.2 hf, vR_iff.2 hg, h0, h1⟩)))
          · exact .inr (.inr (.inr (.inr ⟨vR_iff.2 hf, vR_iff.2 hg, h0, h1, by omega⟩)))
      · exact .inr (.inl ⟨vR_iff.2 hf, vR_no hg⟩)
    · exact .inl (vR_no hf)
end Go.Proofs.Ytmjdolgcgbiajaa
