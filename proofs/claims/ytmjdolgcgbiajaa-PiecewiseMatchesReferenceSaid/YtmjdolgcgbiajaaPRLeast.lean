/-
  Contract of the reference's Least.
-/
import Derived.Test.YtmjdolgcgbiajaaPRLeastM
namespace Go.Proofs.Ytmjdolgcgbiajaa
open Go.RowKit Go.Shelf Pw

theorem rcompare_c {x y : Rat} {a b c d z : Int} (ha : a = x.num) (hb : b = x.den) (hc : c = y.num) (hd : d = y.den) (hz : z = cm x y) (h1 : x.num.natAbs ≤ 2000000000000 ∧ (x.den : Int) ≤ 10000) (h2 : y.num.natAbs ≤ 2000000000000 ∧ (y.den : Int) ≤ 10000) (w : World) :
    Calls Try.prog 29 #[.agg #[.int .i64 a, .int .i64 b], .agg #[.int .i64 c, .int .i64 d]] w fun e w' => e = .returned (.int .i64 z) ∧ RowKit.Below w.heap.size w w' := by
  subst ha hb hc hd hz
  exact rcompare_any x y w (cmp_bd h1 h2).1 (cmp_bd h1 h2).2
set_option maxRecDepth 100000 in
set_option maxHeartbeats 1000000 in
theorem rleast_bad (f g : List RP) (pf pg : Option Addr) (bf of cf lf bg og cg lg : Nat) (w : World) (hS : SlP w pf bf of lf f) (hS' : SlP w pg bg og lg g) (b1 b2 : Bool) (hv : vR f = b1) (hv' : vR g = b2) (hx : b1 = false ∨ b1 = true ∧ b2 = false) :
    Calls Try.prog 22 #[.slice pf lf cf, .slice pg lg cg] w fun e w' => OutP (RowKit.Below w.heap.size w) [] 1 e w' := by
  have K := Lib.hid (fun w' (h : RowKit.Below w.heap.size w w') => rvalid_b f b1 hv pf bf of cf lf w' (hS.below h))
  have K' := Lib.hid (fun w' (h : RowKit.Below w.heap.size w w') => rvalid_b g b2 hv' pg bg og cg lg w' (hS'.below h))
  clear hS hS' hv hv'
  rcases hx with rfl | ⟨rfl, rfl⟩
  all_goals
    go_enter Try.func22, Try.ntmps22
    go_wp2_with fail
    refine (K.out _ (Below.refl _ _)).mono ?_
    rintro _ w1 ⟨rfl, hb⟩
    have HB := Lib.hid hb
    clear hb
    go_wp2_with fail
    refine (K'.out _ HB.out).mono ?_
    rintro _ w2 ⟨rfl, hb⟩
    have HB2 := Lib.hid (HB.out.trans (hb.mono HB.out.size))
    clear hb
    go_wp2
    go_ret2
    exact OutP.bad HB2.out

set_option maxRecDepth 100000 in
set_option maxHeartbeats 6000000 in
theorem rleast_yes (f g : List RP) (pf pg : Option Addr) (bf of cf lf bg og cg lg : Nat) (w : World) (hS : SlP w pf bf of lf f) (hS' : SlP w pg bg og lg g) (hf : VR f) (hg : VR g) :
    Calls Try.prog 22 #[.slice pf lf cf, .slice pg lg cg] w fun e w' => OutP (RowKit.Below w.heap.size w) (leastR f g).1 (leastR f g).2 e w' := by
  have K := Lib.hid (fun w' (h : RowKit.Below w.heap.size w w') => rvalid_b f true (vR_iff.2 hf) pf bf of cf lf w' (hS.below h))
  have K' := Lib.hid (fun w' (h : RowKit.Below w.heap.size w w') => rvalid_b g true (vR_iff.2 hg) pg bg og cg lg w' (hS'.below h))
  have KS := Lib.hid (fun w' (h : RowKit.Below w.heap.size w w') => rstarts_any f g pf pg bf of cf lf bg og cg lg w' (hS.below h) (hS'.below h) hf hg)
  have HS := Lib.hid hS
  have HS' := Lib.hid hS'
  have HVf := Lib.hid hf
  have HVg := Lib.hid hg
  obtain ⟨R, hR⟩ : ∃ R, R = leastR f g := ⟨_, rfl⟩
  rw [← hR]
  rw [← rleast_is] at hR
  obtain ⟨M, hM⟩ : ∃ M : Nat, M = 100001 := ⟨_, rfl⟩
  have hlen := ps_len (P := isS (AA f) (AA g)) (n := 100001)
  have hseg := fun (k : Nat) (h : k < (ps (isS (AA f) (AA g)) 100001).length) => seg_at (f := f) (g := g) h
  have hpos : 0 < (ps (isS (AA f) (AA g)) 100001).length := List.length_pos_of_mem (ps_mem.2 ⟨Int.le_refl 0, by omega, by unfold isS; rw [hf.va.zero]; rfl⟩)
  have hzero : ∀ X : Nat, (ps (isS (AA f) (AA g)) 100001)[0]'hpos = X → X = 0 := fun X hX => by
    obtain ⟨Y, h1, h2, h3, h4, _⟩ := ps_get hpos
    rw [h1] at hX
    obtain rfl : Y = X := by omega
    apply Decidable.byContradiction
    intro hn
    have : (0 : Int) ∈ ps (isS (AA f) (AA g)) Y := ps_mem.2 ⟨Int.le_refl 0, by omega, by unfold isS; rw [hf.va.zero]; rfl⟩
    rw [← h4] at this
    simp at this
  rw [← hM] at hR
  generalize ps (isS (AA f) (AA g)) 100001 = S at *
  have HR := Lib.hid hR
  have HLEN := Lib.hid hlen
  have HSEG := Lib.hid hseg
  have HZERO := Lib.hid hzero
  have HMM := Lib.hid hM
  clear hS hS' hf hg hR hlen hseg hzero hM
  go_enter Try.func22, Try.ntmps22
  go_wp2_with fail
  refine (K.out _ (Below.refl _ _)).mono ?_
  rintro _ w1 ⟨rfl, hb⟩
  have HB := Lib.hid hb
  clear hb
  go_wp2_with fail
  refine (K'.out _ HB.out).mono ?_
  rintro _ w2 ⟨rfl, hb⟩
  have HB2 := Lib.hid (HB.out.trans (hb.mono HB.out.size))
  clear hb
  go_wp2_with fail
  refine (KS.out _ HB2.out).mono ?_
  rintro _ w3 ⟨ps', bs, cs, rfl, hs, hb⟩
  have HB3 := Lib.hid (HB2.out.trans (hb.mono HB2.out.size))
  have HSS := Lib.hid hs
  have hps := hs.ptr
  obtain ⟨m, hm⟩ : ∃ m, m = S.length := ⟨_, rfl⟩
  rw [← hm] at HSS hps hpos ⊢
  have HM := Lib.hid hm
  have hm1 : m ≤ 100001 := by have := HLEN.out; omega
  clear hb hs hm HB HB2 K K' KS
  go_wp2_with fail
  go_loopg [8, 10] m (fun q s8 s10 wr => ∃ k X : Nat, s10 = .int .i64 k ∧ k ≤ m ∧ m - k ≤ q ∧ X ≤ 100001 ∧ (∀ h : k < S.length, S[k] = X) ∧ (¬ k < S.length → X = M) ∧ Hid (RowKit.Below w3.heap.size w3 wr) ∧ Hid (OwnP wr w3.heap.size s8 ((ps (isT (AA f) (AA g)) X).map fun x => toRP (tkH (AA f) (AA g) x))))
  case atStart =>
    obtain ⟨X, Y, h1, _⟩ := HSEG.out 0 (by rw [← HM.out]; exact hpos)
    have e := HZERO.out X h1
    subst e
    exact ⟨0, 0, rfl, by omega, by omega, by omega, fun _ => h1, fun h => absurd (by rw [← HM.out]; exact hpos) h, Below.refl _ _, OwnP.empty _ _⟩
  case round =>
    obtain ⟨k, X, rfl, hk, hkq, hX, hXk, hXM, HBr, HO⟩ := hrel
    by_cases hlt : k < m
    · have hltz : (k : Int) < (m : Int) := by omega
      have hp := hps (by omega)
      subst hp
      have hkl : k < S.length := by rw [← HM.out]; exact hlt
      obtain ⟨X', Y, s1, s2, s3, sg⟩ := HSEG.out k hkl
      have eX : X' = X := by have := hXk hkl; omega
      subst eX
      have x0 := (HSS.out.below HBr.out).cells k hkl
      rw [s1] at x0
      have hY1 := sg.lt
      have hY2 := sg.le
      have HSG := Lib.hid sg
      have HNX := Lib.hid (And.intro s2 s3)
      obtain ⟨P, hP⟩ : ∃ P, P = pcX f X' := ⟨_, rfl⟩
      obtain ⟨Q, hQ⟩ : ∃ Q, Q = pcX g X' := ⟨_, rfl⟩
      have wP := pcX_wl HVf.out X'
      have wQ := pcX_wl HVg.out X'
      have aP := (pcX_at HVf.out X').2
      have aQ := (pcX_at HVg.out X').2
      rw [← hP] at wP aP
      rw [← hQ] at wQ aQ
      have HWP := Lib.hid wP
      have HWQ := Lib.hid wQ
      have HP := Lib.hid hP
      have HQ := Lib.hid hQ
      -- both lines at a place
      have KP : Hid (∀ z n d : Int, 0 ≤ z → z ≤ 100000 → n = ((toAP P).at z).num → d = ((toAP P).at z).den → ∀ w, Calls Try.prog 45 #[.agg #[.int .i64 P.f, .int .i64 P.vn, .int .i64 P.vd, .int .i64 P.sn, .int .i64 P.sd], .int .i64 z] w fun e w' => e = .returned (.agg #[.int .i64 n, .int .i64 d]) ∧ RowKit.Below w.heap.size w w') :=
        fun z n d z0 z1 hn hd w => rline_n wP z0 z1 hn hd w
      have KQ : Hid (∀ z n d : Int, 0 ≤ z → z ≤ 100000 → n = ((toAP Q).at z).num → d = ((toAP Q).at z).den → ∀ w, Calls Try.prog 45 #[.agg #[.int .i64 Q.f, .int .i64 Q.vn, .int .i64 Q.vd, .int .i64 Q.sn, .int .i64 Q.sd], .int .i64 z] w fun e w' => e = .returned (.agg #[.int .i64 n, .int .i64 d]) ∧ RowKit.Below w.heap.size w w') :=
        fun z n d z0 z1 hn hd w => rline_n wQ z0 z1 hn hd w
      obtain ⟨n1, hn1⟩ : ∃ n, n = ((toAP P).at X').num := ⟨_, rfl⟩
      obtain ⟨d1, hd1⟩ : ∃ d : Int, d = ((toAP P).at X').den := ⟨_, rfl⟩
      obtain ⟨n2, hn2⟩ : ∃ n, n = ((toAP Q).at X').num := ⟨_, rfl⟩
      obtain ⟨d2, hd2⟩ : ∃ d : Int, d = ((toAP Q).at X').den := ⟨_, rfl⟩
      obtain ⟨z1, hz1⟩ : ∃ z, z = cm ((toAP P).at X') ((toAP Q).at X') := ⟨_, rfl⟩
      have bP := at_bd wP.1 wP.2.1 wP.2.2 (x := X') (by omega) (by omega)
      have bQ := at_bd wQ.1 wQ.2.1 wQ.2.2 (x := X') (by omega) (by omega)
      have KL1 := Lib.hid (KP.out X' n1 d1 (by omega) (by omega) hn1 hd1)
      have KL2 := Lib.hid (KQ.out X' n2 d2 (by omega) (by omega) hn2 hd2)
      have KC := Lib.hid (fun w => rcompare_c hn1 hd1 hn2 hd2 hz1 bP bQ w)
      have hcf : leq (toAP P) (toAP Q) X' = decide (z1 ≤ 0) := by unfold leq; rw [hz1]; exact decide_eq_decide.2 cm_le_iff.symm
      have HND := Lib.hid (And.intro (And.intro hn1 hd1) (And.intro hn2 hd2))
      obtain ⟨c, hc⟩ : ∃ c, c = decide (z1 ≤ 0) := ⟨_, rfl⟩
      rw [← hc] at hcf
      have HCF := Lib.hid hcf
      have hzc := hc.symm
      have HTL := Lib.hid (show ((ps (isT (AA f) (AA g)) X').map fun x => toRP (tkH (AA f) (AA g) x)).length ≤ 100001 from by rw [List.length_map]; exact Nat.le_trans ps_len hX)
      clear hP hQ wP wQ aP aQ hn1 hd1 hn2 hd2 hz1 bP bQ hcf hc sg s1 hXk hXM
      by_cases hnx : k + 1 < m
      · have hnxz : (k : Int) + 1 < (m : Int) := by omega
        have y0 := (HSS.out.below HBr.out).cells (k + 1) (by rw [← HM.out]; exact hnx)
        rw [s2 (by rw [← HM.out]; exact hnx)] at y0
        clear s2 s3
        cases c with
        | true =>
          go_wp2_with fail
          refine (rpiece_n HVf.out HP.out _ _ _ _ _ _ (HS.out.below (HB3.out.trans (HBr.out.mono HB3.out.size)))).mono ?_
          rintro _ w4 ⟨rfl, hb⟩
          have hO4 := HO.out.below hb
          have hB4 := HBr.out.trans (hb.mono HBr.out.size)
          have hz4 := hb.size
          have hrow := HO.out.lt
          clear hb x0 y0
          go_wp2_with fail
          obtain ⟨w5, h5⟩ : ∃ w5, w5 = w4.alloc (.cells #[.int .i64 P.f, .int .i64 P.vn, .int .i64 P.vd, .int .i64 P.sn, .int .i64 P.sd] 51) := ⟨_, rfl⟩
          have p5 : PcB w5 w4.heap.size P := by rw [h5]; exact World.alloc_heap_new w4 _
          have hb5 : RowKit.Below w4.heap.size w4 w5 := by rw [h5]; exact (Below.refl _ _).alloc (Nat.le_refl _) _
          rw [← h5]
          clear h5
          have hO5 := hO4.below hb5
          have hB5 := hB4.trans (hb5.mono hB4.size)
          clear hb5 hO4
          refine (rpiece_n HVg.out HQ.out _ _ _ _ _ _ (HS'.out.below (HB3.out.trans (hB5.mono HB3.out.size)))).mono ?_
          rintro _ w6 ⟨rfl, hb⟩
          have p6 := p5.below hb
          have hz6 := p6.lt
          have hO6 := hO5.below hb
          have hB6 := hB5.trans (hb.mono hB5.size)
          clear hb hO5 p5 hB5
          go_wp2_with fail
          obtain ⟨w7, h7⟩ : ∃ w7, w7 = w6.alloc (.cells #[.int .i64 Q.f, .int .i64 Q.vn, .int .i64 Q.vd, .int .i64 Q.sn, .int .i64 Q.sd] 51) := ⟨_, rfl⟩
          have q7 : PcB w7 w6.heap.size Q := by rw [h7]; exact World.alloc_heap_new w6 _
          have hb7 : RowKit.Below w6.heap.size w6 w7 := by rw [h7]; exact (Below.refl _ _).alloc (Nat.le_refl _) _
          rw [← h7]
          clear h7
          have p7 := p6.below hb7
          have hO7 := hO6.below hb7
          have hB7 := hB6.trans (hb7.mono hB6.size)
          have l1 := p7.lt
          have l2 := q7.lt
          obtain ⟨a0, a1, a2, a3, a4⟩ := p7.all
          obtain ⟨b0, b1, b2, b3, b4⟩ := q7.all
          replace a0 := cell_bw l1 a0
          replace a1 := cell_bw l1 a1
          replace a2 := cell_bw l1 a2
          replace a3 := cell_bw l1 a3
          replace a4 := cell_bw l1 a4
          replace b0 := cell_bw l2 b0
          replace b1 := cell_bw l2 b1
          replace b2 := cell_bw l2 b2
          replace b3 := cell_bw l2 b3
          replace b4 := cell_bw l2 b4
          refine wp_region_bw mixed (by kernel_rfl) ?_
          repeat (go_big_quiet_step ((first | (with_reducible refine Calls.bw_of (KL1.out _)) | (with_reducible refine Calls.bw_of (KL2.out _)) | (with_reducible refine Calls.bw_of (KC.out _)))))
          refine wpQuiet_nil ?_
          intro W HW
          replace HW := bw_out HW
          clear a0 a1 a2 a3 a4 b0 b1 b2 b3 b4
          have p8 := p7.below HW
          have q8 := q7.below HW
          have hO8 := hO7.below HW
          have hB8 := hB7.trans (HW.mono hB7.size)
          obtain ⟨a0, a1, a2, a3, a4⟩ := p8.all
          obtain ⟨b0, b1, b2, b3, b4⟩ := q8.all
          clear p7 q7 hO7 hB7 HW p6 hO6 hB6 hb7
          go_wp2_with fail
          refine (rtaken_true P Q X' n1 d1 _ KL1).mono ?_
          rintro _ w9 ⟨rfl, hb⟩
          have p9 := Lib.hid (p8.below hb)
          have q9 := Lib.hid (q8.below hb)
          have HO9 := Lib.hid (hO8.below hb)
          have HB9 := Lib.hid (hB8.trans (hb.mono hB8.size))
          clear a0 a1 a2 a3 a4 b0 b1 b2 b3 b4 hb p8 q8 hO8 hB8
          go_wp2_with (first | (at_builtin; refine list_appP rfl _ _ rfl w3.heap.size _ _ rfl (HO9.out.alloc _) _ 1 ⟨X', n1, d1, P.sn, P.sd⟩ rfl (OneP.new _ (⟨X', n1, d1, P.sn, P.sd⟩ : RP) _) (by have := HTL.out; omega) (by have := HB9.out.size; simp; omega) ?_; intro v5 W5 own5 grow5) | fail)
          have hal := (Below.refl w9.heap.size w9).alloc (Nat.le_refl _) (.cells #[.int .i64 X', .int .i64 n1, .int .i64 d1, .int .i64 P.sn, .int .i64 P.sd] 51)
          have HB5 : Hid (RowKit.Below w3.heap.size w3 W5) := (HB9.out.alloc HB9.out.size _).grown grow5 (by have := HB9.out.size; simp; omega) HO9.out.block
          have HO5 := Lib.hid own5
          have p10 : PcB W5 w4.heap.size P := (grow5.block _ (by have := (p9.out.below hal).lt; exact this) (fun e => by have := hrow _ e.symm; omega)).trans (p9.out.below hal)
          have q10 : PcB W5 w6.heap.size Q := (grow5.block _ (by have := (q9.out.below hal).lt; exact this) (fun e => by have := hrow _ e.symm; omega)).trans (q9.out.below hal)
          have PP := Lib.hid p10
          have PQ := Lib.hid q10
          have hl10 := p10.lt
          have hl11 := q10.lt
          clear own5 grow5 hal p10 q10 p9 q9 HO9 HB9
          go_wp2_with fail
          go_loopg [16, 17] (Y - X') (fun q s16 s17 wr => ∃ lo hi : Nat, s16 = .int .i64 lo ∧ s17 = .int .i64 hi ∧ X' ≤ lo ∧ lo < hi ∧ hi ≤ Y ∧ hi - lo ≤ q ∧ Hid (RowKit.Below W5.heap.size W5 wr) ∧ Hid (leq (toAP P) (toAP Q) lo = true) ∧ Hid (hi < Y → leq (toAP P) (toAP Q) hi = false))
          case atStart => exact ⟨X', Y, rfl, rfl, by omega, hY1, by omega, by omega, Below.refl _ _, HCF.out, fun h => absurd h (Nat.lt_irrefl _)⟩
          case round =>
            obtain ⟨lo, hi, rfl, rfl, hlo, hlh, hhi, hq2, HBi, HLo, HHi⟩ := hrel
            have p11 := PP.out.below HBi.out
            have q11 := PQ.out.below HBi.out
            obtain ⟨a0, a1, a2, a3, a4⟩ := p11.all
            obtain ⟨b0, b1, b2, b3, b4⟩ := q11.all
            by_cases hgt : 1 < hi - lo
            · have hgtz : (1 : Int) < (hi : Int) - (lo : Int) := by omega
              have hlt2 : (((lo + hi) / 2 : Nat) : Int) = ((lo : Int) + (hi : Int)) / 2 := by omega
              obtain ⟨z, hz⟩ : ∃ z, z = ((lo : Int) + (hi : Int)) / 2 := ⟨_, rfl⟩
              obtain ⟨n3, hn3⟩ : ∃ n, n = ((toAP P).at z).num := ⟨_, rfl⟩
              obtain ⟨d3, hd3⟩ : ∃ d : Int, d = ((toAP P).at z).den := ⟨_, rfl⟩
              obtain ⟨n4, hn4⟩ : ∃ n, n = ((toAP Q).at z).num := ⟨_, rfl⟩
              obtain ⟨d4, hd4⟩ : ∃ d : Int, d = ((toAP Q).at z).den := ⟨_, rfl⟩
              obtain ⟨z3, hz3⟩ : ∃ y, y = cm ((toAP P).at z) ((toAP Q).at z) := ⟨_, rfl⟩
              have bP := at_bd HWP.out.1 HWP.out.2.1 HWP.out.2.2 (x := z) (by omega) (by omega)
              have bQ := at_bd HWQ.out.1 HWQ.out.2.1 HWQ.out.2.2 (x := z) (by omega) (by omega)
              have KL3 := KP.out z n3 d3 (by omega) (by omega) hn3 hd3
              have KL4 := KQ.out z n4 d4 (by omega) (by omega) hn4 hd4
              rw [hz] at KL3 KL4
              replace KL3 := Lib.hid KL3
              replace KL4 := Lib.hid KL4
              have KC3 := Lib.hid (fun w => rcompare_c hn3 hd3 hn4 hd4 hz3 bP bQ w)
              have hcf3 : leq (toAP P) (toAP Q) z = decide (z3 ≤ 0) := by unfold leq; rw [hz3]; exact decide_eq_decide.2 cm_le_iff.symm
              rw [hz, ← hlt2] at hcf3
              have HC3 := Lib.hid hcf3
              have HL2 := Lib.hid hlt2
              have hzb : X' ≤ (lo + hi) / 2 ∧ lo < (lo + hi) / 2 ∧ (lo + hi) / 2 < hi := by omega
              clear hn3 hd3 hn4 hd4 hz3 bP bQ hcf3 hz hlt2
              have l3 := p11.lt
              have l4 := q11.lt
              replace a0 := cell_bw l3 a0
              replace a1 := cell_bw l3 a1
              replace a2 := cell_bw l3 a2
              replace a3 := cell_bw l3 a3
              replace a4 := cell_bw l3 a4
              replace b0 := cell_bw l4 b0
              replace b1 := cell_bw l4 b1
              replace b2 := cell_bw l4 b2
              replace b3 := cell_bw l4 b3
              replace b4 := cell_bw l4 b4
              by_cases hz30 : z3 ≤ 0
              · have hzd : decide (z3 ≤ 0) = true := decide_eq_true hz30
                go_wp2_with fail
                refine wp_region_bw mixed (by kernel_rfl) ?_
                repeat (go_big_quiet_step ((first | (with_reducible refine Calls.bw_of (KL3.out _)) | (with_reducible refine Calls.bw_of (KL4.out _)) | (with_reducible refine Calls.bw_of (KC3.out _)))))
                refine wpQuiet_nil ?_
                intro W HW
                replace HW := bw_out HW
                have HB6 := Lib.hid (HBi.out.trans (HW.mono HBi.out.size))
                clear HW
                go_wp2_with fail
                go_roundg (hi - (lo + hi) / 2)
                case measure => omega
                case rel => exact ⟨(lo + hi) / 2, hi, by rw [HL2.out], rfl, by omega, by omega, by omega, Nat.le_refl _, HB6.out, by show _ = _; rw [HC3.out, hzd], HHi.out⟩
              · have hzd : decide (z3 ≤ 0) = false := decide_eq_false hz30
                go_wp2_with fail
                refine wp_region_bw mixed (by kernel_rfl) ?_
                repeat (go_big_quiet_step ((first | (with_reducible refine Calls.bw_of (KL3.out _)) | (with_reducible refine Calls.bw_of (KL4.out _)) | (with_reducible refine Calls.bw_of (KC3.out _)))))
                refine wpQuiet_nil ?_
                intro W HW
                replace HW := bw_out HW
                have HB6 := Lib.hid (HBi.out.trans (HW.mono HBi.out.size))
                clear HW
                go_wp2_with fail
                go_roundg ((lo + hi) / 2 - lo)
                case measure => omega
                case rel => exact ⟨lo, (lo + hi) / 2, rfl, by rw [HL2.out], by omega, by omega, by omega, Nat.le_refl _, HB6.out, HLo.out, fun _ => by rw [HC3.out, hzd]⟩
            · have hgtz : ¬ (1 : Int) < (hi : Int) - (lo : Int) := by omega
              have aP : toAP P = pA (AA f) X' := by rw [HP.out]; exact (pcX_at HVf.out X').2
              have aQ : toAP Q = pA (AA g) X' := by rw [HQ.out]; exact (pcX_at HVg.out X').2
              have h3 : ∀ y : Int, (X' : Int) ≤ y → y < (hi : Int) → leq (toAP P) (toAP Q) y = leq (toAP P) (toAP Q) X' := fun y y1 y2 => by
                apply Decidable.byContradiction
                intro hne
                have := leq_mono (x := X') (y := y) (z := lo) y1 (by omega) hne
                rw [HLo.out, ← HCF.out] at this
                exact hne this.symm
              have h4 : hi < Y → leq (toAP P) (toAP Q) hi ≠ leq (toAP P) (toAP Q) X' := fun h => by rw [HHi.out h, HCF.out]; simp
              have e1 := tkR_is HVf.out HVg.out HSG.out (z := X') (Int.le_refl _) (by omega) HP.out HQ.out HCF.out (n := n1) (d := d1) HND.out.1.1 HND.out.1.2
              by_cases hend : hi < Y
              · have hendz : (hi : Int) < (Y : Int) := by omega
                obtain ⟨n5, hn5⟩ : ∃ n, n = ((toAP Q).at hi).num := ⟨_, rfl⟩
                obtain ⟨d5, hd5⟩ : ∃ d : Int, d = ((toAP Q).at hi).den := ⟨_, rfl⟩
                have e2 := tkR_is HVf.out HVg.out HSG.out (z := hi) (by omega) hendz HP.out HQ.out (HHi.out hend) (n := n5) (d := d5) hn5 hd5
                have K5 := Lib.hid (KQ.out hi n5 d5 (by omega) (by omega) hn5 hd5)
                rw [aP, aQ] at h3 h4
                have tn := HSG.out.turn (t := hi) (by omega) hhi h3 h4
                rw [if_pos hend] at tn
                have HTN : Hid ((ps (isT (AA f) (AA g)) Y).map (fun x => toRP (tkH (AA f) (AA g) x)) = ((ps (isT (AA f) (AA g)) X').map (fun x => toRP (tkH (AA f) (AA g) x)) ++ [⟨X', n1, d1, P.sn, P.sd⟩]) ++ [⟨hi, n5, d5, Q.sn, Q.sd⟩]) := by
                  show _ = _
                  rw [tn, List.map_append, List.append_assoc, List.map_cons, List.map_cons, List.map_nil, e1, e2]
                  rfl
                have HO6 := Lib.hid (HO5.out.below HBi.out)
                have HB6 := Lib.hid (HB5.out.trans (HBi.out.mono HB5.out.size))
                clear h3 h4 e1 e2 tn aP aQ hn5 hd5 p11 q11
                go_wp2_with fail
                refine (rtaken_false P Q hi n5 d5 _ K5).mono ?_
                rintro _ wb ⟨rfl, hb⟩
                have HO7 := Lib.hid (HO6.out.below hb)
                have HB7 := Lib.hid (HB6.out.trans (hb.mono HB6.out.size))
                clear a0 a1 a2 a3 a4 b0 b1 b2 b3 b4 hb
                go_wp2_with (first | (at_builtin; refine list_appP rfl _ _ rfl w3.heap.size _ _ rfl (HO7.out.alloc _) _ 1 ⟨hi, n5, d5, Q.sn, Q.sd⟩ rfl (OneP.new _ (⟨hi, n5, d5, Q.sn, Q.sd⟩ : RP) _) (by have := HTL.out; rw [List.length_append, List.length_singleton]; omega) (by have := HB7.out.size; simp; omega) ?_; intro v6 W6 own6 grow6) | fail)
                have HB8 : Hid (RowKit.Below w3.heap.size w3 W6) := (HB7.out.alloc HB7.out.size _).grown grow6 (by have := HB7.out.size; simp; omega) HO7.out.block
                have HO8 : Hid (OwnP W6 w3.heap.size v6 ((ps (isT (AA f) (AA g)) Y).map fun x => toRP (tkH (AA f) (AA g) x))) := by show OwnP _ _ _ _; rw [HTN.out]; exact own6
                clear own6 grow6
                go_wp2
                go_roundg (m - (k + 1))
                case measure => omega
                case rel => exact ⟨k + 1, Y, by go_num, by omega, by omega, hY2, fun h => HNX.out.1 h, fun h => by rw [HMM.out]; exact HNX.out.2 h, HB8.out, HO8.out⟩
              · have hendz : ¬ (hi : Int) < (Y : Int) := by omega
                rw [aP, aQ] at h3 h4
                have tn := HSG.out.turn (t := hi) (by omega) hhi h3 h4
                rw [if_neg hend] at tn
                have HTN : Hid ((ps (isT (AA f) (AA g)) Y).map (fun x => toRP (tkH (AA f) (AA g) x)) = ((ps (isT (AA f) (AA g)) X').map (fun x => toRP (tkH (AA f) (AA g) x)) ++ [⟨X', n1, d1, P.sn, P.sd⟩])) := by
                  show _ = _
                  rw [tn, List.map_append, List.map_cons, List.map_nil, e1]
                  rfl
                have hO8 := HO5.out.below HBi.out
                rw [← HTN.out] at hO8
                have HO8 := Lib.hid hO8
                have HB8 := Lib.hid (HB5.out.trans (HBi.out.mono HB5.out.size))
                clear h3 h4 e1 tn aP aQ p11 q11 hO8
                go_wp2
                go_roundg (m - (k + 1))
                case measure => omega
                case rel => exact ⟨k + 1, Y, by go_num, by omega, by omega, hY2, fun h => HNX.out.1 h, fun h => by rw [HMM.out]; exact HNX.out.2 h, HB8.out, HO8.out⟩
        | false =>
          go_wp2_with fail
          refine (rpiece_n HVf.out HP.out _ _ _ _ _ _ (HS.out.below (HB3.out.trans (HBr.out.mono HB3.out.size)))).mono ?_
          rintro _ w4 ⟨rfl, hb⟩
          have hO4 := HO.out.below hb
          have hB4 := HBr.out.trans (hb.mono HBr.out.size)
          have hz4 := hb.size
          have hrow := HO.out.lt
          clear hb x0 y0
          go_wp2_with fail
          obtain ⟨w5, h5⟩ : ∃ w5, w5 = w4.alloc (.cells #[.int .i64 P.f, .int .i64 P.vn, .int .i64 P.vd, .int .i64 P.sn, .int .i64 P.sd] 51) := ⟨_, rfl⟩
          have p5 : PcB w5 w4.heap.size P := by rw [h5]; exact World.alloc_heap_new w4 _
          have hb5 : RowKit.Below w4.heap.size w4 w5 := by rw [h5]; exact (Below.refl _ _).alloc (Nat.le_refl _) _
          rw [← h5]
          clear h5
          have hO5 := hO4.below hb5
          have hB5 := hB4.trans (hb5.mono hB4.size)
          clear hb5 hO4
          refine (rpiece_n HVg.out HQ.out _ _ _ _ _ _ (HS'.out.below (HB3.out.trans (hB5.mono HB3.out.size)))).mono ?_
          rintro _ w6 ⟨rfl, hb⟩
          have p6 := p5.below hb
          have hz6 := p6.lt
          have hO6 := hO5.below hb
          have hB6 := hB5.trans (hb.mono hB5.size)
          clear hb hO5 p5 hB5
          go_wp2_with fail
          obtain ⟨w7, h7⟩ : ∃ w7, w7 = w6.alloc (.cells #[.int .i64 Q.f, .int .i64 Q.vn, .int .i64 Q.vd, .int .i64 Q.sn, .int .i64 Q.sd] 51) := ⟨_, rfl⟩
          have q7 : PcB w7 w6.heap.size Q := by rw [h7]; exact World.alloc_heap_new w6 _
          have hb7 : RowKit.Below w6.heap.size w6 w7 := by rw [h7]; exact (Below.refl _ _).alloc (Nat.le_refl _) _
          rw [← h7]
          clear h7
          have p7 := p6.below hb7
          have hO7 := hO6.below hb7
          have hB7 := hB6.trans (hb7.mono hB6.size)
          have l1 := p7.lt
          have l2 := q7.lt
          obtain ⟨a0, a1, a2, a3, a4⟩ := p7.all
          obtain ⟨b0, b1, b2, b3, b4⟩ := q7.all
          replace a0 := cell_bw l1 a0
          replace a1 := cell_bw l1 a1
          replace a2 := cell_bw l1 a2
          replace a3 := cell_bw l1 a3
          replace a4 := cell_bw l1 a4
          replace b0 := cell_bw l2 b0
          replace b1 := cell_bw l2 b1
          replace b2 := cell_bw l2 b2
          replace b3 := cell_bw l2 b3
          replace b4 := cell_bw l2 b4
          refine wp_region_bw mixed (by kernel_rfl) ?_
          repeat (go_big_quiet_step ((first | (with_reducible refine Calls.bw_of (KL1.out _)) | (with_reducible refine Calls.bw_of (KL2.out _)) | (with_reducible refine Calls.bw_of (KC.out _)))))
          refine wpQuiet_nil ?_
          intro W HW
          replace HW := bw_out HW
          clear a0 a1 a2 a3 a4 b0 b1 b2 b3 b4
          have p8 := p7.below HW
          have q8 := q7.below HW
          have hO8 := hO7.below HW
          have hB8 := hB7.trans (HW.mono hB7.size)
          obtain ⟨a0, a1, a2, a3, a4⟩ := p8.all
          obtain ⟨b0, b1, b2, b3, b4⟩ := q8.all
          clear p7 q7 hO7 hB7 HW p6 hO6 hB6 hb7
          go_wp2_with fail
          refine (rtaken_false P Q X' n2 d2 _ KL2).mono ?_
          rintro _ w9 ⟨rfl, hb⟩
          have p9 := Lib.hid (p8.below hb)
          have q9 := Lib.hid (q8.below hb)
          have HO9 := Lib.hid (hO8.below hb)
          have HB9 := Lib.hid (hB8.trans (hb.mono hB8.size))
          clear a0 a1 a2 a3 a4 b0 b1 b2 b3 b4 hb p8 q8 hO8 hB8
          go_wp2_with (first | (at_builtin; refine list_appP rfl _ _ rfl w3.heap.size _ _ rfl (HO9.out.alloc _) _ 1 ⟨X', n2, d2, Q.sn, Q.sd⟩ rfl (OneP.new _ (⟨X', n2, d2, Q.sn, Q.sd⟩ : RP) _) (by have := HTL.out; omega) (by have := HB9.out.size; simp; omega) ?_; intro v5 W5 own5 grow5) | fail)
          have hal := (Below.refl w9.heap.size w9).alloc (Nat.le_refl _) (.cells #[.int .i64 X', .int .i64 n2, .int .i64 d2, .int .i64 Q.sn, .int .i64 Q.sd] 51)
          have HB5 : Hid (RowKit.Below w3.heap.size w3 W5) := (HB9.out.alloc HB9.out.size _).grown grow5 (by have := HB9.out.size; simp; omega) HO9.out.block
          have HO5 := Lib.hid own5
          have p10 : PcB W5 w4.heap.size P := (grow5.block _ (by have := (p9.out.below hal).lt; exact this) (fun e => by have := hrow _ e.symm; omega)).trans (p9.out.below hal)
          have q10 : PcB W5 w6.heap.size Q := (grow5.block _ (by have := (q9.out.below hal).lt; exact this) (fun e => by have := hrow _ e.symm; omega)).trans (q9.out.below hal)
          have PP := Lib.hid p10
          have PQ := Lib.hid q10
          have hl10 := p10.lt
          have hl11 := q10.lt
          clear own5 grow5 hal p10 q10 p9 q9 HO9 HB9
          go_wp2_with fail
          go_loopg [16, 17] (Y - X') (fun q s16 s17 wr => ∃ lo hi : Nat, s16 = .int .i64 lo ∧ s17 = .int .i64 hi ∧ X' ≤ lo ∧ lo < hi ∧ hi ≤ Y ∧ hi - lo ≤ q ∧ Hid (RowKit.Below W5.heap.size W5 wr) ∧ Hid (leq (toAP P) (toAP Q) lo = false) ∧ Hid (hi < Y → leq (toAP P) (toAP Q) hi = true))
          case atStart => exact ⟨X', Y, rfl, rfl, by omega, hY1, by omega, by omega, Below.refl _ _, HCF.out, fun h => absurd h (Nat.lt_irrefl _)⟩
          case round =>
            obtain ⟨lo, hi, rfl, rfl, hlo, hlh, hhi, hq2, HBi, HLo, HHi⟩ := hrel
            have p11 := PP.out.below HBi.out
            have q11 := PQ.out.below HBi.out
            obtain ⟨a0, a1, a2, a3, a4⟩ := p11.all
            obtain ⟨b0, b1, b2, b3, b4⟩ := q11.all
            by_cases hgt : 1 < hi - lo
            · have hgtz : (1 : Int) < (hi : Int) - (lo : Int) := by omega
              have hlt2 : (((lo + hi) / 2 : Nat) : Int) = ((lo : Int) + (hi : Int)) / 2 := by omega
              obtain ⟨z, hz⟩ : ∃ z, z = ((lo : Int) + (hi : Int)) / 2 := ⟨_, rfl⟩
              obtain ⟨n3, hn3⟩ : ∃ n, n = ((toAP P).at z).num := ⟨_, rfl⟩
              obtain ⟨d3, hd3⟩ : ∃ d : Int, d = ((toAP P).at z).den := ⟨_, rfl⟩
              obtain ⟨n4, hn4⟩ : ∃ n, n = ((toAP Q).at z).num := ⟨_, rfl⟩
              obtain ⟨d4, hd4⟩ : ∃ d : Int, d = ((toAP Q).at z).den := ⟨_, rfl⟩
              obtain ⟨z3, hz3⟩ : ∃ y, y = cm ((toAP P).at z) ((toAP Q).at z) := ⟨_, rfl⟩
              have bP := at_bd HWP.out.1 HWP.out.2.1 HWP.out.2.2 (x := z) (by omega) (by omega)
              have bQ := at_bd HWQ.out.1 HWQ.out.2.1 HWQ.out.2.2 (x := z) (by omega) (by omega)
              have KL3 := KP.out z n3 d3 (by omega) (by omega) hn3 hd3
              have KL4 := KQ.out z n4 d4 (by omega) (by omega) hn4 hd4
              rw [hz] at KL3 KL4
              replace KL3 := Lib.hid KL3
              replace KL4 := Lib.hid KL4
              have KC3 := Lib.hid (fun w => rcompare_c hn3 hd3 hn4 hd4 hz3 bP bQ w)
              have hcf3 : leq (toAP P) (toAP Q) z = decide (z3 ≤ 0) := by unfold leq; rw [hz3]; exact decide_eq_decide.2 cm_le_iff.symm
              rw [hz, ← hlt2] at hcf3
              have HC3 := Lib.hid hcf3
              have HL2 := Lib.hid hlt2
              have hzb : X' ≤ (lo + hi) / 2 ∧ lo < (lo + hi) / 2 ∧ (lo + hi) / 2 < hi := by omega
              clear hn3 hd3 hn4 hd4 hz3 bP bQ hcf3 hz hlt2
              have l3 := p11.lt
              have l4 := q11.lt
              replace a0 := cell_bw l3 a0
              replace a1 := cell_bw l3 a1
              replace a2 := cell_bw l3 a2
              replace a3 := cell_bw l3 a3
              replace a4 := cell_bw l3 a4
              replace b0 := cell_bw l4 b0
              replace b1 := cell_bw l4 b1
              replace b2 := cell_bw l4 b2
              replace b3 := cell_bw l4 b3
              replace b4 := cell_bw l4 b4
              by_cases hz30 : z3 ≤ 0
              · have hzd : decide (z3 ≤ 0) = true := decide_eq_true hz30
                go_wp2_with fail
                refine wp_region_bw mixed (by kernel_rfl) ?_
                repeat (go_big_quiet_step ((first | (with_reducible refine Calls.bw_of (KL3.out _)) | (with_reducible refine Calls.bw_of (KL4.out _)) | (with_reducible refine Calls.bw_of (KC3.out _)))))
                refine wpQuiet_nil ?_
                intro W HW
                replace HW := bw_out HW
                have HB6 := Lib.hid (HBi.out.trans (HW.mono HBi.out.size))
                clear HW
                go_wp2_with fail
                go_roundg ((lo + hi) / 2 - lo)
                case measure => omega
                case rel => exact ⟨lo, (lo + hi) / 2, rfl, by rw [HL2.out], by omega, by omega, by omega, Nat.le_refl _, HB6.out, HLo.out, fun _ => by rw [HC3.out, hzd]⟩
              · have hzd : decide (z3 ≤ 0) = false := decide_eq_false hz30
                go_wp2_with fail
                refine wp_region_bw mixed (by kernel_rfl) ?_
                repeat (go_big_quiet_step ((first | (with_reducible refine Calls.bw_of (KL3.out _)) | (with_reducible refine Calls.bw_of (KL4.out _)) | (with_reducible refine Calls.bw_of (KC3.out _)))))
                refine wpQuiet_nil ?_
                intro W HW
                replace HW := bw_out HW
                have HB6 := Lib.hid (HBi.out.trans (HW.mono HBi.out.size))
                clear HW
                go_wp2_with fail
                go_roundg (hi - (lo + hi) / 2)
                case measure => omega
                case rel => exact ⟨(lo + hi) / 2, hi, by rw [HL2.out], rfl, by omega, by omega, by omega, Nat.le_refl _, HB6.out, by show _ = _; rw [HC3.out, hzd], HHi.out⟩
            · have hgtz : ¬ (1 : Int) < (hi : Int) - (lo : Int) := by omega
              have aP : toAP P = pA (AA f) X' := by rw [HP.out]; exact (pcX_at HVf.out X').2
              have aQ : toAP Q = pA (AA g) X' := by rw [HQ.out]; exact (pcX_at HVg.out X').2
              have h3 : ∀ y : Int, (X' : Int) ≤ y → y < (hi : Int) → leq (toAP P) (toAP Q) y = leq (toAP P) (toAP Q) X' := fun y y1 y2 => by
                apply Decidable.byContradiction
                intro hne
                have := leq_mono (x := X') (y := y) (z := lo) y1 (by omega) hne
                rw [HLo.out, ← HCF.out] at this
                exact hne this.symm
              have h4 : hi < Y → leq (toAP P) (toAP Q) hi ≠ leq (toAP P) (toAP Q) X' := fun h => by rw [HHi.out h, HCF.out]; simp
              have e1 := tkR_is HVf.out HVg.out HSG.out (z := X') (Int.le_refl _) (by omega) HP.out HQ.out HCF.out (n := n2) (d := d2) HND.out.2.1 HND.out.2.2
              by_cases hend : hi < Y
              · have hendz : (hi : Int) < (Y : Int) := by omega
                obtain ⟨n5, hn5⟩ : ∃ n, n = ((toAP P).at hi).num := ⟨_, rfl⟩
                obtain ⟨d5, hd5⟩ : ∃ d : Int, d = ((toAP P).at hi).den := ⟨_, rfl⟩
                have e2 := tkR_is HVf.out HVg.out HSG.out (z := hi) (by omega) hendz HP.out HQ.out (HHi.out hend) (n := n5) (d := d5) hn5 hd5
                have K5 := Lib.hid (KP.out hi n5 d5 (by omega) (by omega) hn5 hd5)
                rw [aP, aQ] at h3 h4
                have tn := HSG.out.turn (t := hi) (by omega) hhi h3 h4
                rw [if_pos hend] at tn
                have HTN : Hid ((ps (isT (AA f) (AA g)) Y).map (fun x => toRP (tkH (AA f) (AA g) x)) = ((ps (isT (AA f) (AA g)) X').map (fun x => toRP (tkH (AA f) (AA g) x)) ++ [⟨X', n2, d2, Q.sn, Q.sd⟩]) ++ [⟨hi, n5, d5, P.sn, P.sd⟩]) := by
                  show _ = _
                  rw [tn, List.map_append, List.append_assoc, List.map_cons, List.map_cons, List.map_nil, e1, e2]
                  rfl
                have HO6 := Lib.hid (HO5.out.below HBi.out)
                have HB6 := Lib.hid (HB5.out.trans (HBi.out.mono HB5.out.size))
                clear h3 h4 e1 e2 tn aP aQ hn5 hd5 p11 q11
                go_wp2_with fail
                refine (rtaken_true P Q hi n5 d5 _ K5).mono ?_
                rintro _ wb ⟨rfl, hb⟩
                have HO7 := Lib.hid (HO6.out.below hb)
                have HB7 := Lib.hid (HB6.out.trans (hb.mono HB6.out.size))
                clear a0 a1 a2 a3 a4 b0 b1 b2 b3 b4 hb
                go_wp2_with (first | (at_builtin; refine list_appP rfl _ _ rfl w3.heap.size _ _ rfl (HO7.out.alloc _) _ 1 ⟨hi, n5, d5, P.sn, P.sd⟩ rfl (OneP.new _ (⟨hi, n5, d5, P.sn, P.sd⟩ : RP) _) (by have := HTL.out; rw [List.length_append, List.length_singleton]; omega) (by have := HB7.out.size; simp; omega) ?_; intro v6 W6 own6 grow6) | fail)
                have HB8 : Hid (RowKit.Below w3.heap.size w3 W6) := (HB7.out.alloc HB7.out.size _).grown grow6 (by have := HB7.out.size; simp; omega) HO7.out.block
                have HO8 : Hid (OwnP W6 w3.heap.size v6 ((ps (isT (AA f) (AA g)) Y).map fun x => toRP (tkH (AA f) (AA g) x))) := by show OwnP _ _ _ _; rw [HTN.out]; exact own6
                clear own6 grow6
                go_wp2
                go_roundg (m - (k + 1))
                case measure => omega
                case rel => exact ⟨k + 1, Y, by go_num, by omega, by omega, hY2, fun h => HNX.out.1 h, fun h => by rw [HMM.out]; exact HNX.out.2 h, HB8.out, HO8.out⟩
              · have hendz : ¬ (hi : Int) < (Y : Int) := by omega
                rw [aP, aQ] at h3 h4
                have tn := HSG.out.turn (t := hi) (by omega) hhi h3 h4
                rw [if_neg hend] at tn
                have HTN : Hid ((ps (isT (AA f) (AA g)) Y).map (fun x => toRP (tkH (AA f) (AA g) x)) = ((ps (isT (AA f) (AA g)) X').map (fun x => toRP (tkH (AA f) (AA g) x)) ++ [⟨X', n2, d2, Q.sn, Q.sd⟩])) := by
                  show _ = _
                  rw [tn, List.map_append, List.map_cons, List.map_nil, e1]
                  rfl
                have hO8 := HO5.out.below HBi.out
                rw [← HTN.out] at hO8
                have HO8 := Lib.hid hO8
                have HB8 := Lib.hid (HB5.out.trans (HBi.out.mono HB5.out.size))
                clear h3 h4 e1 tn aP aQ p11 q11 hO8
                go_wp2
                go_roundg (m - (k + 1))
                case measure => omega
                case rel => exact ⟨k + 1, Y, by go_num, by omega, by omega, hY2, fun h => HNX.out.1 h, fun h => by rw [HMM.out]; exact HNX.out.2 h, HB8.out, HO8.out⟩
      · have hnxz : ¬ (k : Int) + 1 < (m : Int) := by omega
        have HEY := Lib.hid (s3 (by rw [← HM.out]; exact hnx))
        clear s2 s3
        cases c with
        | true =>
          go_wp2_with fail
          rw [show (100001 : Int) = (Y : Int) by have := HEY.out; omega]
          refine (rpiece_n HVf.out HP.out _ _ _ _ _ _ (HS.out.below (HB3.out.trans (HBr.out.mono HB3.out.size)))).mono ?_
          rintro _ w4 ⟨rfl, hb⟩
          have hO4 := HO.out.below hb
          have hB4 := HBr.out.trans (hb.mono HBr.out.size)
          have hz4 := hb.size
          have hrow := HO.out.lt
          clear hb x0
          go_wp2_with fail
          obtain ⟨w5, h5⟩ : ∃ w5, w5 = w4.alloc (.cells #[.int .i64 P.f, .int .i64 P.vn, .int .i64 P.vd, .int .i64 P.sn, .int .i64 P.sd] 51) := ⟨_, rfl⟩
          have p5 : PcB w5 w4.heap.size P := by rw [h5]; exact World.alloc_heap_new w4 _
          have hb5 : RowKit.Below w4.heap.size w4 w5 := by rw [h5]; exact (Below.refl _ _).alloc (Nat.le_refl _) _
          rw [← h5]
          clear h5
          have hO5 := hO4.below hb5
          have hB5 := hB4.trans (hb5.mono hB4.size)
          clear hb5 hO4
          refine (rpiece_n HVg.out HQ.out _ _ _ _ _ _ (HS'.out.below (HB3.out.trans (hB5.mono HB3.out.size)))).mono ?_
          rintro _ w6 ⟨rfl, hb⟩
          have p6 := p5.below hb
          have hz6 := p6.lt
          have hO6 := hO5.below hb
          have hB6 := hB5.trans (hb.mono hB5.size)
          clear hb hO5 p5 hB5
          go_wp2_with fail
          obtain ⟨w7, h7⟩ : ∃ w7, w7 = w6.alloc (.cells #[.int .i64 Q.f, .int .i64 Q.vn, .int .i64 Q.vd, .int .i64 Q.sn, .int .i64 Q.sd] 51) := ⟨_, rfl⟩
          have q7 : PcB w7 w6.heap.size Q := by rw [h7]; exact World.alloc_heap_new w6 _
          have hb7 : RowKit.Below w6.heap.size w6 w7 := by rw [h7]; exact (Below.refl _ _).alloc (Nat.le_refl _) _
          rw [← h7]
          clear h7
          have p7 := p6.below hb7
          have hO7 := hO6.below hb7
          have hB7 := hB6.trans (hb7.mono hB6.size)
          have l1 := p7.lt
          have l2 := q7.lt
          obtain ⟨a0, a1, a2, a3, a4⟩ := p7.all
          obtain ⟨b0, b1, b2, b3, b4⟩ := q7.all
          replace a0 := cell_bw l1 a0
          replace a1 := cell_bw l1 a1
          replace a2 := cell_bw l1 a2
          replace a3 := cell_bw l1 a3
          replace a4 := cell_bw l1 a4
          replace b0 := cell_bw l2 b0
          replace b1 := cell_bw l2 b1
          replace b2 := cell_bw l2 b2
          replace b3 := cell_bw l2 b3
          replace b4 := cell_bw l2 b4
          refine wp_region_bw mixed (by kernel_rfl) ?_
          repeat (go_big_quiet_step ((first | (with_reducible refine Calls.bw_of (KL1.out _)) | (with_reducible refine Calls.bw_of (KL2.out _)) | (with_reducible refine Calls.bw_of (KC.out _)))))
          refine wpQuiet_nil ?_
          intro W HW
          replace HW := bw_out HW
          clear a0 a1 a2 a3 a4 b0 b1 b2 b3 b4
          have p8 := p7.below HW
          have q8 := q7.below HW
          have hO8 := hO7.below HW
          have hB8 := hB7.trans (HW.mono hB7.size)
          obtain ⟨a0, a1, a2, a3, a4⟩ := p8.all
          obtain ⟨b0, b1, b2, b3, b4⟩ := q8.all
          clear p7 q7 hO7 hB7 HW p6 hO6 hB6 hb7
          go_wp2_with fail
          refine (rtaken_true P Q X' n1 d1 _ KL1).mono ?_
          rintro _ w9 ⟨rfl, hb⟩
          have p9 := Lib.hid (p8.below hb)
          have q9 := Lib.hid (q8.below hb)
          have HO9 := Lib.hid (hO8.below hb)
          have HB9 := Lib.hid (hB8.trans (hb.mono hB8.size))
          clear a0 a1 a2 a3 a4 b0 b1 b2 b3 b4 hb p8 q8 hO8 hB8
          go_wp2_with (first | (at_builtin; refine list_appP rfl _ _ rfl w3.heap.size _ _ rfl (HO9.out.alloc _) _ 1 ⟨X', n1, d1, P.sn, P.sd⟩ rfl (OneP.new _ (⟨X', n1, d1, P.sn, P.sd⟩ : RP) _) (by have := HTL.out; omega) (by have := HB9.out.size; simp; omega) ?_; intro v5 W5 own5 grow5) | fail)
          have hal := (Below.refl w9.heap.size w9).alloc (Nat.le_refl _) (.cells #[.int .i64 X', .int .i64 n1, .int .i64 d1, .int .i64 P.sn, .int .i64 P.sd] 51)
          have HB5 : Hid (RowKit.Below w3.heap.size w3 W5) := (HB9.out.alloc HB9.out.size _).grown grow5 (by have := HB9.out.size; simp; omega) HO9.out.block
          have HO5 := Lib.hid own5
          have p10 : PcB W5 w4.heap.size P := (grow5.block _ (by have := (p9.out.below hal).lt; exact this) (fun e => by have := hrow _ e.symm; omega)).trans (p9.out.below hal)
          have q10 : PcB W5 w6.heap.size Q := (grow5.block _ (by have := (q9.out.below hal).lt; exact this) (fun e => by have := hrow _ e.symm; omega)).trans (q9.out.below hal)
          have PP := Lib.hid p10
          have PQ := Lib.hid q10
          have hl10 := p10.lt
          have hl11 := q10.lt
          clear own5 grow5 hal p10 q10 p9 q9 HO9 HB9
          go_wp2_with fail
          go_loopg [16, 17] (Y - X') (fun q s16 s17 wr => ∃ lo hi : Nat, s16 = .int .i64 lo ∧ s17 = .int .i64 hi ∧ X' ≤ lo ∧ lo < hi ∧ hi ≤ Y ∧ hi - lo ≤ q ∧ Hid (RowKit.Below W5.heap.size W5 wr) ∧ Hid (leq (toAP P) (toAP Q) lo = true) ∧ Hid (hi < Y → leq (toAP P) (toAP Q) hi = false))
          case atStart => exact ⟨X', Y, rfl, rfl, by omega, hY1, by omega, by omega, Below.refl _ _, HCF.out, fun h => absurd h (Nat.lt_irrefl _)⟩
          case round =>
            obtain ⟨lo, hi, rfl, rfl, hlo, hlh, hhi, hq2, HBi, HLo, HHi⟩ := hrel
            have p11 := PP.out.below HBi.out
            have q11 := PQ.out.below HBi.out
            obtain ⟨a0, a1, a2, a3, a4⟩ := p11.all
            obtain ⟨b0, b1, b2, b3, b4⟩ := q11.all
            by_cases hgt : 1 < hi - lo
            · have hgtz : (1 : Int) < (hi : Int) - (lo : Int) := by omega
              have hlt2 : (((lo + hi) / 2 : Nat) : Int) = ((lo : Int) + (hi : Int)) / 2 := by omega
              obtain ⟨z, hz⟩ : ∃ z, z = ((lo : Int) + (hi : Int)) / 2 := ⟨_, rfl⟩
              obtain ⟨n3, hn3⟩ : ∃ n, n = ((toAP P).at z).num := ⟨_, rfl⟩
              obtain ⟨d3, hd3⟩ : ∃ d : Int, d = ((toAP P).at z).den := ⟨_, rfl⟩
              obtain ⟨n4, hn4⟩ : ∃ n, n = ((toAP Q).at z).num := ⟨_, rfl⟩
              obtain ⟨d4, hd4⟩ : ∃ d : Int, d = ((toAP Q).at z).den := ⟨_, rfl⟩
              obtain ⟨z3, hz3⟩ : ∃ y, y = cm ((toAP P).at z) ((toAP Q).at z) := ⟨_, rfl⟩
              have bP := at_bd HWP.out.1 HWP.out.2.1 HWP.out.2.2 (x := z) (by omega) (by omega)
              have bQ := at_bd HWQ.out.1 HWQ.out.2.1 HWQ.out.2.2 (x := z) (by omega) (by omega)
              have KL3 := KP.out z n3 d3 (by omega) (by omega) hn3 hd3
              have KL4 := KQ.out z n4 d4 (by omega) (by omega) hn4 hd4
              rw [hz] at KL3 KL4
              replace KL3 := Lib.hid KL3
              replace KL4 := Lib.hid KL4
              have KC3 := Lib.hid (fun w => rcompare_c hn3 hd3 hn4 hd4 hz3 bP bQ w)
              have hcf3 : leq (toAP P) (toAP Q) z = decide (z3 ≤ 0) := by unfold leq; rw [hz3]; exact decide_eq_decide.2 cm_le_iff.symm
              rw [hz, ← hlt2] at hcf3
              have HC3 := Lib.hid hcf3
              have HL2 := Lib.hid hlt2
              have hzb : X' ≤ (lo + hi) / 2 ∧ lo < (lo + hi) / 2 ∧ (lo + hi) / 2 < hi := by omega
              clear hn3 hd3 hn4 hd4 hz3 bP bQ hcf3 hz hlt2
              have l3 := p11.lt
              have l4 := q11.lt
              replace a0 := cell_bw l3 a0
              replace a1 := cell_bw l3 a1
              replace a2 := cell_bw l3 a2
              replace a3 := cell_bw l3 a3
              replace a4 := cell_bw l3 a4
              replace b0 := cell_bw l4 b0
              replace b1 := cell_bw l4 b1
              replace b2 := cell_bw l4 b2
              replace b3 := cell_bw l4 b3
              replace b4 := cell_bw l4 b4
              by_cases hz30 : z3 ≤ 0
              · have hzd : decide (z3 ≤ 0) = true := decide_eq_true hz30
                go_wp2_with fail
                refine wp_region_bw mixed (by kernel_rfl) ?_
                repeat (go_big_quiet_step ((first | (with_reducible refine Calls.bw_of (KL3.out _)) | (with_reducible refine Calls.bw_of (KL4.out _)) | (with_reducible refine Calls.bw_of (KC3.out _)))))
                refine wpQuiet_nil ?_
                intro W HW
                replace HW := bw_out HW
                have HB6 := Lib.hid (HBi.out.trans (HW.mono HBi.out.size))
                clear HW
                go_wp2_with fail
                go_roundg (hi - (lo + hi) / 2)
                case measure => omega
                case rel => exact ⟨(lo + hi) / 2, hi, by rw [HL2.out], rfl, by omega, by omega, by omega, Nat.le_refl _, HB6.out, by show _ = _; rw [HC3.out, hzd], HHi.out⟩
              · have hzd : decide (z3 ≤ 0) = false := decide_eq_false hz30
                go_wp2_with fail
                refine wp_region_bw mixed (by kernel_rfl) ?_
                repeat (go_big_quiet_step ((first | (with_reducible refine Calls.bw_of (KL3.out _)) | (with_reducible refine Calls.bw_of (KL4.out _)) | (with_reducible refine Calls.bw_of (KC3.out _)))))
                refine wpQuiet_nil ?_
                intro W HW
                replace HW := bw_out HW
                have HB6 := Lib.hid (HBi.out.trans (HW.mono HBi.out.size))
                clear HW
                go_wp2_with fail
                go_roundg ((lo + hi) / 2 - lo)
                case measure => omega
                case rel => exact ⟨lo, (lo + hi) / 2, rfl, by rw [HL2.out], by omega, by omega, by omega, Nat.le_refl _, HB6.out, HLo.out, fun _ => by rw [HC3.out, hzd]⟩
            · have hgtz : ¬ (1 : Int) < (hi : Int) - (lo : Int) := by omega
              have aP : toAP P = pA (AA f) X' := by rw [HP.out]; exact (pcX_at HVf.out X').2
              have aQ : toAP Q = pA (AA g) X' := by rw [HQ.out]; exact (pcX_at HVg.out X').2
              have h3 : ∀ y : Int, (X' : Int) ≤ y → y < (hi : Int) → leq (toAP P) (toAP Q) y = leq (toAP P) (toAP Q) X' := fun y y1 y2 => by
                apply Decidable.byContradiction
                intro hne
                have := leq_mono (x := X') (y := y) (z := lo) y1 (by omega) hne
                rw [HLo.out, ← HCF.out] at this
                exact hne this.symm
              have h4 : hi < Y → leq (toAP P) (toAP Q) hi ≠ leq (toAP P) (toAP Q) X' := fun h => by rw [HHi.out h, HCF.out]; simp
              have e1 := tkR_is HVf.out HVg.out HSG.out (z := X') (Int.le_refl _) (by omega) HP.out HQ.out HCF.out (n := n1) (d := d1) HND.out.1.1 HND.out.1.2
              by_cases hend : hi < Y
              · have hendz : (hi : Int) < (Y : Int) := by omega
                obtain ⟨n5, hn5⟩ : ∃ n, n = ((toAP Q).at hi).num := ⟨_, rfl⟩
                obtain ⟨d5, hd5⟩ : ∃ d : Int, d = ((toAP Q).at hi).den := ⟨_, rfl⟩
                have e2 := tkR_is HVf.out HVg.out HSG.out (z := hi) (by omega) hendz HP.out HQ.out (HHi.out hend) (n := n5) (d := d5) hn5 hd5
                have K5 := Lib.hid (KQ.out hi n5 d5 (by omega) (by omega) hn5 hd5)
                rw [aP, aQ] at h3 h4
                have tn := HSG.out.turn (t := hi) (by omega) hhi h3 h4
                rw [if_pos hend] at tn
                have HTN : Hid ((ps (isT (AA f) (AA g)) Y).map (fun x => toRP (tkH (AA f) (AA g) x)) = ((ps (isT (AA f) (AA g)) X').map (fun x => toRP (tkH (AA f) (AA g) x)) ++ [⟨X', n1, d1, P.sn, P.sd⟩]) ++ [⟨hi, n5, d5, Q.sn, Q.sd⟩]) := by
                  show _ = _
                  rw [tn, List.map_append, List.append_assoc, List.map_cons, List.map_cons, List.map_nil, e1, e2]
                  rfl
                have HO6 := Lib.hid (HO5.out.below HBi.out)
                have HB6 := Lib.hid (HB5.out.trans (HBi.out.mono HB5.out.size))
                clear h3 h4 e1 e2 tn aP aQ hn5 hd5 p11 q11
                go_wp2_with fail
                refine (rtaken_false P Q hi n5 d5 _ K5).mono ?_
                rintro _ wb ⟨rfl, hb⟩
                have HO7 := Lib.hid (HO6.out.below hb)
                have HB7 := Lib.hid (HB6.out.trans (hb.mono HB6.out.size))
                clear a0 a1 a2 a3 a4 b0 b1 b2 b3 b4 hb
                go_wp2_with (first | (at_builtin; refine list_appP rfl _ _ rfl w3.heap.size _ _ rfl (HO7.out.alloc _) _ 1 ⟨hi, n5, d5, Q.sn, Q.sd⟩ rfl (OneP.new _ (⟨hi, n5, d5, Q.sn, Q.sd⟩ : RP) _) (by have := HTL.out; rw [List.length_append, List.length_singleton]; omega) (by have := HB7.out.size; simp; omega) ?_; intro v6 W6 own6 grow6) | fail)
                have HB8 : Hid (RowKit.Below w3.heap.size w3 W6) := (HB7.out.alloc HB7.out.size _).grown grow6 (by have := HB7.out.size; simp; omega) HO7.out.block
                have HO8 : Hid (OwnP W6 w3.heap.size v6 ((ps (isT (AA f) (AA g)) Y).map fun x => toRP (tkH (AA f) (AA g) x))) := by show OwnP _ _ _ _; rw [HTN.out]; exact own6
                clear own6 grow6
                go_wp2
                go_roundg (m - (k + 1))
                case measure => omega
                case rel => exact ⟨k + 1, Y, by go_num, by omega, by omega, hY2, fun h => HNX.out.1 h, fun h => by rw [HMM.out]; exact HNX.out.2 h, HB8.out, HO8.out⟩
              · have hendz : ¬ (hi : Int) < (Y : Int) := by omega
                rw [aP, aQ] at h3 h4
                have tn := HSG.out.turn (t := hi) (by omega) hhi h3 h4
                rw [if_neg hend] at tn
                have HTN : Hid ((ps (isT (AA f) (AA g)) Y).map (fun x => toRP (tkH (AA f) (AA g) x)) = ((ps (isT (AA f) (AA g)) X').map (fun x => toRP (tkH (AA f) (AA g) x)) ++ [⟨X', n1, d1, P.sn, P.sd⟩])) := by
                  show _ = _
                  rw [tn, List.map_append, List.map_cons, List.map_nil, e1]
                  rfl
                have hO8 := HO5.out.below HBi.out
                rw [← HTN.out] at hO8
                have HO8 := Lib.hid hO8
                have HB8 := Lib.hid (HB5.out.trans (HBi.out.mono HB5.out.size))
                clear h3 h4 e1 tn aP aQ p11 q11 hO8
                go_wp2
                go_roundg (m - (k + 1))
                case measure => omega
                case rel => exact ⟨k + 1, Y, by go_num, by omega, by omega, hY2, fun h => HNX.out.1 h, fun h => by rw [HMM.out]; exact HNX.out.2 h, HB8.out, HO8.out⟩
        | false =>
          go_wp2_with fail
          rw [show (100001 : Int) = (Y : Int) by have := HEY.out; omega]
          refine (rpiece_n HVf.out HP.out _ _ _ _ _ _ (HS.out.below (HB3.out.trans (HBr.out.mono HB3.out.size)))).mono ?_
          rintro _ w4 ⟨rfl, hb⟩
          have hO4 := HO.out.below hb
          have hB4 := HBr.out.trans (hb.mono HBr.out.size)
          have hz4 := hb.size
          have hrow := HO.out.lt
          clear hb x0
          go_wp2_with fail
          obtain ⟨w5, h5⟩ : ∃ w5, w5 = w4.alloc (.cells #[.int .i64 P.f, .int .i64 P.vn, .int .i64 P.vd, .int .i64 P.sn, .int .i64 P.sd] 51) := ⟨_, rfl⟩
          have p5 : PcB w5 w4.heap.size P := by rw [h5]; exact World.alloc_heap_new w4 _
          have hb5 : RowKit.Below w4.heap.size w4 w5 := by rw [h5]; exact (Below.refl _ _).alloc (Nat.le_refl _) _
          rw [← h5]
          clear h5
          have hO5 := hO4.below hb5
          have hB5 := hB4.trans (hb5.mono hB4.size)
          clear hb5 hO4
          refine (rpiece_n HVg.out HQ.out _ _ _ _ _ _ (HS'.out.below (HB3.out.trans (hB5.mono HB3.out.size)))).mono ?_
          rintro _ w6 ⟨rfl, hb⟩
          have p6 := p5.below hb
          have hz6 := p6.lt
          have hO6 := hO5.below hb
          have hB6 := hB5.trans (hb.mono hB5.size)
          clear hb hO5 p5 hB5
          go_wp2_with fail
          obtain ⟨w7, h7⟩ : ∃ w7, w7 = w6.alloc (.cells #[.int .i64 Q.f, .int .i64 Q.vn, .int .i64 Q.vd, .int .i64 Q.sn, .int .i64 Q.sd] 51) := ⟨_, rfl⟩
          have q7 : PcB w7 w6.heap.size Q := by rw [h7]; exact World.alloc_heap_new w6 _
          have hb7 : RowKit.Below w6.heap.size w6 w7 := by rw [h7]; exact (Below.refl _ _).alloc (Nat.le_refl _) _
          rw [← h7]
          clear h7
          have p7 := p6.below hb7
          have hO7 := hO6.below hb7
          have hB7 := hB6.trans (hb7.mono hB6.size)
          have l1 := p7.lt
          have l2 := q7.lt
          obtain ⟨a0, a1, a2, a3, a4⟩ := p7.all
          obtain ⟨b0, b1, b2, b3, b4⟩ := q7.all
          replace a0 := cell_bw l1 a0
          replace a1 := cell_bw l1 a1
          replace a2 := cell_bw l1 a2
          replace a3 := cell_bw l1 a3
          replace a4 := cell_bw l1 a4
          replace b0 := cell_bw l2 b0
          replace b1 := cell_bw l2 b1
          replace b2 := cell_bw l2 b2
          replace b3 := cell_bw l2 b3
          replace b4 := cell_bw l2 b4
          refine wp_region_bw mixed (by kernel_rfl) ?_
          repeat (go_big_quiet_step ((first | (with_reducible refine Calls.bw_of (KL1.out _)) | (with_reducible refine Calls.bw_of (KL2.out _)) | (with_reducible refine Calls.bw_of (KC.out _)))))
          refine wpQuiet_nil ?_
          intro W HW
          replace HW := bw_out HW
          clear a0 a1 a2 a3 a4 b0 b1 b2 b3 b4
          have p8 := p7.below HW
          have q8 := q7.below HW
          have hO8 := hO7.below HW
          have hB8 := hB7.trans (HW.mono hB7.size)
          obtain ⟨a0, a1, a2, a3, a4⟩ := p8.all
          obtain ⟨b0, b1, b2, b3, b4⟩ := q8.all
          clear p7 q7 hO7 hB7 HW p6 hO6 hB6 hb7
          go_wp2_with fail
          refine (rtaken_false P Q X' n2 d2 _ KL2).mono ?_
          rintro _ w9 ⟨rfl, hb⟩
          have p9 := Lib.hid (p8.below hb)
          have q9 := Lib.hid (q8.below hb)
          have HO9 := Lib.hid (hO8.below hb)
          have HB9 := Lib.hid (hB8.trans (hb.mono hB8.size))
          clear a0 a1 a2 a3 a4 b0 b1 b2 b3 b4 hb p8 q8 hO8 hB8
          go_wp2_with (first | (at_builtin; refine list_appP rfl _ _ rfl w3.heap.size _ _ rfl (HO9.out.alloc _) _ 1 ⟨X', n2, d2, Q.sn, Q.sd⟩ rfl (OneP.new _ (⟨X', n2, d2, Q.sn, Q.sd⟩ : RP) _) (by have := HTL.out; omega) (by have := HB9.out.size; simp; omega) ?_; intro v5 W5 own5 grow5) | fail)
          have hal := (Below.refl w9.heap.size w9).alloc (Nat.le_refl _) (.cells #[.int .i64 X', .int .i64 n2, .int .i64 d2, .int .i64 Q.sn, .int .i64 Q.sd] 51)
          have HB5 : Hid (RowKit.Below w3.heap.size w3 W5) := (HB9.out.alloc HB9.out.size _).grown grow5 (by have := HB9.out.size; simp; omega) HO9.out.block
          have HO5 := Lib.hid own5
          have p10 : PcB W5 w4.heap.size P := (grow5.block _ (by have := (p9.out.below hal).lt; exact this) (fun e => by have := hrow _ e.symm; omega)).trans (p9.out.below hal)
          have q10 : PcB W5 w6.heap.size Q := (grow5.block _ (by have := (q9.out.below hal).lt; exact this) (fun e => by have := hrow _ e.symm; omega)).trans (q9.out.below hal)
          have PP := Lib.hid p10
          have PQ := Lib.hid q10
          have hl10 := p10.lt
          have hl11 := q10.lt
          clear own5 grow5 hal p10 q10 p9 q9 HO9 HB9
          go_wp2_with fail
          go_loopg [16, 17] (Y - X') (fun q s16 s17 wr => ∃ lo hi : Nat, s16 = .int .i64 lo ∧ s17 = .int .i64 hi ∧ X' ≤ lo ∧ lo < hi ∧ hi ≤ Y ∧ hi - lo ≤ q ∧ Hid (RowKit.Below W5.heap.size W5 wr) ∧ Hid (leq (toAP P) (toAP Q) lo = false) ∧ Hid (hi < Y → leq (toAP P) (toAP Q) hi = true))
          case atStart => exact ⟨X', Y, rfl, rfl, by omega, hY1, by omega, by omega, Below.refl _ _, HCF.out, fun h => absurd h (Nat.lt_irrefl _)⟩
          case round =>
            obtain ⟨lo, hi, rfl, rfl, hlo, hlh, hhi, hq2, HBi, HLo, HHi⟩ := hrel
            have p11 := PP.out.below HBi.out
            have q11 := PQ.out.below HBi.out
            obtain ⟨a0, a1, a2, a3, a4⟩ := p11.all
            obtain ⟨b0, b1, b2, b3, b4⟩ := q11.all
            by_cases hgt : 1 < hi - lo
            · have hgtz : (1 : Int) < (hi : Int) - (lo : Int) := by omega
              have hlt2 : (((lo + hi) / 2 : Nat) : Int) = ((lo : Int) + (hi : Int)) / 2 := by omega
              obtain ⟨z, hz⟩ : ∃ z, z = ((lo : Int) + (hi : Int)) / 2 := ⟨_, rfl⟩
              obtain ⟨n3, hn3⟩ : ∃ n, n = ((toAP P).at z).num := ⟨_, rfl⟩
              obtain ⟨d3, hd3⟩ : ∃ d : Int, d = ((toAP P).at z).den := ⟨_, rfl⟩
              obtain ⟨n4, hn4⟩ : ∃ n, n = ((toAP Q).at z).num := ⟨_, rfl⟩
              obtain ⟨d4, hd4⟩ : ∃ d : Int, d = ((toAP Q).at z).den := ⟨_, rfl⟩
              obtain ⟨z3, hz3⟩ : ∃ y, y = cm ((toAP P).at z) ((toAP Q).at z) := ⟨_, rfl⟩
              have bP := at_bd HWP.out.1 HWP.out.2.1 HWP.out.2.2 (x := z) (by omega) (by omega)
              have bQ := at_bd HWQ.out.1 HWQ.out.2.1 HWQ.out.2.2 (x := z) (by omega) (by omega)
              have KL3 := KP.out z n3 d3 (by omega) (by omega) hn3 hd3
              have KL4 := KQ.out z n4 d4 (by omega) (by omega) hn4 hd4
              rw [hz] at KL3 KL4
              replace KL3 := Lib.hid KL3
              replace KL4 := Lib.hid KL4
              have KC3 := Lib.hid (fun w => rcompare_c hn3 hd3 hn4 hd4 hz3 bP bQ w)
              have hcf3 : leq (toAP P) (toAP Q) z = decide (z3 ≤ 0) := by unfold leq; rw [hz3]; exact decide_eq_decide.2 cm_le_iff.symm
              rw [hz, ← hlt2] at hcf3
              have HC3 := Lib.hid hcf3
              have HL2 := Lib.hid hlt2
              have hzb : X' ≤ (lo + hi) / 2 ∧ lo < (lo + hi) / 2 ∧ (lo + hi) / 2 < hi := by omega
              clear hn3 hd3 hn4 hd4 hz3 bP bQ hcf3 hz hlt2
              have l3 := p11.lt
              have l4 := q11.lt
              replace a0 := cell_bw l3 a0
              replace a1 := cell_bw l3 a1
              replace a2 := cell_bw l3 a2
              replace a3 := cell_bw l3 a3
              replace a4 := cell_bw l3 a4
              replace b0 := cell_bw l4 b0
              replace b1 := cell_bw l4 b1
              replace b2 := cell_bw l4 b2
              replace b3 := cell_bw l4 b3
              replace b4 := cell_bw l4 b4
              by_cases hz30 : z3 ≤ 0
              · have hzd : decide (z3 ≤ 0) = true := decide_eq_true hz30
                go_wp2_with fail
                refine wp_region_bw mixed (by kernel_rfl) ?_
                repeat (go_big_quiet_step ((first | (with_reducible refine Calls.bw_of (KL3.out _)) | (with_reducible refine Calls.bw_of (KL4.out _)) | (with_reducible refine Calls.bw_of (KC3.out _)))))
                refine wpQuiet_nil ?_
                intro W HW
                replace HW := bw_out HW
                have HB6 := Lib.hid (HBi.out.trans (HW.mono HBi.out.size))
                clear HW
                go_wp2_with fail
                go_roundg ((lo + hi) / 2 - lo)
                case measure => omega
                case rel => exact ⟨lo, (lo + hi) / 2, rfl, by rw [HL2.out], by omega, by omega, by omega, Nat.le_refl _, HB6.out, HLo.out, fun _ => by rw [HC3.out, hzd]⟩
              · have hzd : decide (z3 ≤ 0) = false := decide_eq_false hz30
                go_wp2_with fail
                refine wp_region_bw mixed (by kernel_rfl) ?_
                repeat (go_big_quiet_step ((first | (with_reducible refine Calls.bw_of (KL3.out _)) | (with_reducible refine Calls.bw_of (KL4.out _)) | (with_reducible refine Calls.bw_of (KC3.out _)))))
                refine wpQuiet_nil ?_
                intro W HW
                replace HW := bw_out HW
                have HB6 := Lib.hid (HBi.out.trans (HW.mono HBi.out.size))
                clear HW
                go_wp2_with fail
                go_roundg (hi - (lo + hi) / 2)
                case measure => omega
                case rel => exact ⟨(lo + hi) / 2, hi, by rw [HL2.out], rfl, by omega, by omega, by omega, Nat.le_refl _, HB6.out, by show _ = _; rw [HC3.out, hzd], HHi.out⟩
            · have hgtz : ¬ (1 : Int) < (hi : Int) - (lo : Int) := by omega
              have aP : toAP P = pA (AA f) X' := by rw [HP.out]; exact (pcX_at HVf.out X').2
              have aQ : toAP Q = pA (AA g) X' := by rw [HQ.out]; exact (pcX_at HVg.out X').2
              have h3 : ∀ y : Int, (X' : Int) ≤ y → y < (hi : Int) → leq (toAP P) (toAP Q) y = leq (toAP P) (toAP Q) X' := fun y y1 y2 => by
                apply Decidable.byContradiction
                intro hne
                have := leq_mono (x := X') (y := y) (z := lo) y1 (by omega) hne
                rw [HLo.out, ← HCF.out] at this
                exact hne this.symm
              have h4 : hi < Y → leq (toAP P) (toAP Q) hi ≠ leq (toAP P) (toAP Q) X' := fun h => by rw [HHi.out h, HCF.out]; simp
              have e1 := tkR_is HVf.out HVg.out HSG.out (z := X') (Int.le_refl _) (by omega) HP.out HQ.out HCF.out (n := n2) (d := d2) HND.out.2.1 HND.out.2.2
              by_cases hend : hi < Y
              · have hendz : (hi : Int) < (Y : Int) := by omega
                obtain ⟨n5, hn5⟩ : ∃ n, n = ((toAP P).at hi).num := ⟨_, rfl⟩
                obtain ⟨d5, hd5⟩ : ∃ d : Int, d = ((toAP P).at hi).den := ⟨_, rfl⟩
                have e2 := tkR_is HVf.out HVg.out HSG.out (z := hi) (by omega) hendz HP.out HQ.out (HHi.out hend) (n := n5) (d := d5) hn5 hd5
                have K5 := Lib.hid (KP.out hi n5 d5 (by omega) (by omega) hn5 hd5)
                rw [aP, aQ] at h3 h4
                have tn := HSG.out.turn (t := hi) (by omega) hhi h3 h4
                rw [if_pos hend] at tn
                have HTN : Hid ((ps (isT (AA f) (AA g)) Y).map (fun x => toRP (tkH (AA f) (AA g) x)) = ((ps (isT (AA f) (AA g)) X').map (fun x => toRP (tkH (AA f) (AA g) x)) ++ [⟨X', n2, d2, Q.sn, Q.sd⟩]) ++ [⟨hi, n5, d5, P.sn, P.sd⟩]) := by
                  show _ = _
                  rw [tn, List.map_append, List.append_assoc, List.map_cons, List.map_cons, List.map_nil, e1, e2]
                  rfl
                have HO6 := Lib.hid (HO5.out.below HBi.out)
                have HB6 := Lib.hid (HB5.out.trans (HBi.out.mono HB5.out.size))
                clear h3 h4 e1 e2 tn aP aQ hn5 hd5 p11 q11
                go_wp2_with fail
                refine (rtaken_true P Q hi n5 d5 _ K5).mono ?_
                rintro _ wb ⟨rfl, hb⟩
                have HO7 := Lib.hid (HO6.out.below hb)
                have HB7 := Lib.hid (HB6.out.trans (hb.mono HB6.out.size))
                clear a0 a1 a2 a3 a4 b0 b1 b2 b3 b4 hb
                go_wp2_with (first | (at_builtin; refine list_appP rfl _ _ rfl w3.heap.size _ _ rfl (HO7.out.alloc _) _ 1 ⟨hi, n5, d5, P.sn, P.sd⟩ rfl (OneP.new _ (⟨hi, n5, d5, P.sn, P.sd⟩ : RP) _) (by have := HTL.out; rw [List.length_append, List.length_singleton]; omega) (by have := HB7.out.size; simp; omega) ?_; intro v6 W6 own6 grow6) | fail)
                have HB8 : Hid (RowKit.Below w3.heap.size w3 W6) := (HB7.out.alloc HB7.out.size _).grown grow6 (by have := HB7.out.size; simp; omega) HO7.out.block
                have HO8 : Hid (OwnP W6 w3.heap.size v6 ((ps (isT (AA f) (AA g)) Y).map fun x => toRP (tkH (AA f) (AA g) x))) := by show OwnP _ _ _ _; rw [HTN.out]; exact own6
                clear own6 grow6
                go_wp2
                go_roundg (m - (k + 1))
                case measure => omega
                case rel => exact ⟨k + 1, Y, by go_num, by omega, by omega, hY2, fun h => HNX.out.1 h, fun h => by rw [HMM.out]; exact HNX.out.2 h, HB8.out, HO8.out⟩
              · have hendz : ¬ (hi : Int) < (Y : Int) := by omega
                rw [aP, aQ] at h3 h4
                have tn := HSG.out.turn (t := hi) (by omega) hhi h3 h4
                rw [if_neg hend] at tn
                have HTN : Hid ((ps (isT (AA f) (AA g)) Y).map (fun x => toRP (tkH (AA f) (AA g) x)) = ((ps (isT (AA f) (AA g)) X').map (fun x => toRP (tkH (AA f) (AA g) x)) ++ [⟨X', n2, d2, Q.sn, Q.sd⟩])) := by
                  show _ = _
                  rw [tn, List.map_append, List.map_cons, List.map_nil, e1]
                  rfl
                have hO8 := HO5.out.below HBi.out
                rw [← HTN.out] at hO8
                have HO8 := Lib.hid hO8
                have HB8 := Lib.hid (HB5.out.trans (HBi.out.mono HB5.out.size))
                clear h3 h4 e1 tn aP aQ p11 q11 hO8
                go_wp2
                go_roundg (m - (k + 1))
                case measure => omega
                case rel => exact ⟨k + 1, Y, by go_num, by omega, by omega, hY2, fun h => HNX.out.1 h, fun h => by rw [HMM.out]; exact HNX.out.2 h, HB8.out, HO8.out⟩
    · have hltz : ¬ (k : Int) < (m : Int) := by omega
      obtain rfl : X = M := hXM (by rw [← HM.out]; exact hlt)
      have hO := HO.out
      have hIN : ∀ s, s ∈ (ps (isT (AA f) (AA g)) X).map (fun x => toRP (tkH (AA f) (AA g) x)) → s.In ∧ 1 ≤ liD s := fun s hs => by
        obtain ⟨x, hx, rfl⟩ := List.mem_map.1 hs
        have hx' := ps_mem.1 hx
        exact tkH_ok HVf.out HVg.out hx'.1 (by omega)
      have hll : ((ps (isT (AA f) (AA g)) X).map (fun x => toRP (tkH (AA f) (AA g) x))).length ≤ 100001 := by rw [List.length_map]; exact Nat.le_trans ps_len hX
      have hRR := HR.out
      generalize (ps (isT (AA f) (AA g)) X).map (fun x => toRP (tkH (AA f) (AA g) x)) = G at *
      obtain ⟨p2, b2, cp, hv, hS2⟩ := hO.reads (by omega) (fun s hs => (hIN s hs).1)
      subst hv
      have KC := Lib.hid (rresult_any G p2 b2 0 cp G.length wr hS2 (fun s hs => (hIN s hs).2) (by omega))
      rw [← hRR] at KC
      have HBg := Lib.hid (HB3.out.trans (HBr.out.mono HB3.out.size))
      clear hS2 hO hIN hll hRR HO HR HMM hXM hXk
      go_wp2_with fail
      refine KC.out.mono ?_
      rintro _ w4 ⟨p3, b3, off3, len3, cap3, rfl, hs3, hb3⟩
      have HS3 := Lib.hid hs3
      have HB4 := Lib.hid (HBg.out.trans (hb3.mono HBg.out.size))
      clear hs3 hb3
      go_wp2
      go_ret2
      exact ⟨p3, b3, off3, len3, cap3, rfl, HS3.out, HB4.out⟩
theorem rleast_any (f g : List RP) (pf pg : Option Addr) (bf of cf lf bg og cg lg : Nat) (w : World) (hS : SlP w pf bf of lf f) (hS' : SlP w pg bg og lg g) :
    Calls Try.prog 22 #[.slice pf lf cf, .slice pg lg cg] w fun e w' => OutP (RowKit.Below w.heap.size w) (opR f g (leastR f g)).1 (opR f g (leastR f g)).2 e w' := by
  by_cases hf : VR f
  · by_cases hg : VR g
    · rw [show opR f g (leastR f g) = leastR f g from if_pos ⟨hf, hg⟩]
      exact rleast_yes f g pf pg bf of cf lf bg og cg lg w hS hS' hf hg
    · rw [show opR f g (leastR f g) = ([], 1) from if_neg fun h => hg h.2]
      exact rleast_bad f g pf pg bf of cf lf bg og cg lg w hS hS' true false (vR_iff.2 hf) (vR_no hg) (.inr ⟨rfl, rfl⟩)
  · rw [show opR f g (leastR f g) = ([], 1) from if_neg fun h => hf h.1]
    exact rleast_bad f g pf pg bf of cf lf bg og cg lg w hS hS' false (vR g) (vR_no hf) rfl (.inl rfl)
end Go.Proofs.Ytmjdolgcgbiajaa
