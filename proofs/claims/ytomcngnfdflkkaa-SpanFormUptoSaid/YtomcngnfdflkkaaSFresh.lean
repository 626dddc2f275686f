/-
  What sweep and Normal make lies in new memory.
-/
import Derived.Test.YtomcngnfdflkkaaSAppend
namespace Go.Proofs.Ytomcngnfdflkkaa
open Go.RowKit Spn Go.Sort

/-- A slice that reads as a list, and an error, come out; what was there before is as it was; the slice lies in new memory. -/
def Out2f (w : World) (l : List (Int × Int)) (er : Int) (e : Ending) (w' : World) : Prop := ∃ p b len cap, e = .returned (.tuple #[.slice p len cap, .int .i64 er]) ∧ Sl w' p b 0 len l ∧ RowKit.Below w.heap.size w w' ∧ (0 < len → w.heap.size ≤ b)
theorem Out2f.mono {w w0 w' : World} {l : List (Int × Int)} {er : Int} {e : Ending} (h : Out2f w l er e w') (hB : RowKit.Below w0.heap.size w0 w) : Out2f w0 l er e w' := by
  obtain ⟨p, b, len, cap, rfl, hs, hb, hf⟩ := h
  exact ⟨p, b, len, cap, rfl, hs, hB.trans (hb.mono hB.size), fun h => Nat.le_trans hB.size (hf h)⟩
theorem Out2f.bad {w w' : World} {er : Int} (hB : RowKit.Below w.heap.size w w') : Out2f w [] er (.returned (.tuple #[.slice none 0 0, .int .i64 er])) w' := ⟨none, 0, 0, 0, rfl, Sl.nil _ _, hB, fun h => absurd h (Nat.lt_irrefl 0)⟩
theorem Own.readsF {w : World} {base : Nat} {v : Value} {l : List (Int × Int)} (h : Own w base v l) (hm : l.length ≤ 9223372036854775807) (hI : ∀ s, s ∈ l → In64 s.1 ∧ In64 s.2) : ∃ p b cap, v = .slice p l.length cap ∧ Sl w p b 0 l.length l ∧ (0 < l.length → base ≤ b) := by
  obtain ⟨p, b, cap, rfl, hs⟩ := h.reads hm hI
  refine ⟨p, b, cap, rfl, hs, fun hl => ?_⟩
  have := hs.2.1 hl
  subst this
  exact h.block b rfl

set_option maxHeartbeats 4000000 in
set_option maxRecDepth 100000 in
theorem sweep_fresh (kf : Bool → Bool → Bool) (hkf : kf false false = false) (g : Nat) (hg : KeepIs g kf) (eg : ∀ args w, (callFunc g args).run Try.prog w = .ok (.enter g args) w) (a b : List (Int × Int)) (p p' : Option Addr) (bl off cap len bl' off' cap' len' : Nat) (w : World) (hS : Sl w p bl off len a) (hS' : Sl w p' bl' off' len' b) (ha : ∀ s, s ∈ a → st s = true) (hb : ∀ s, s ∈ b → st s = true) (hn : len + len' ≤ 1099511627776) :
    Calls Try.prog 30 #[.slice p len cap, .slice p' len' cap', .func (.func g) #[] #[]] w fun e w' => Out2f w (swV (runs fun d => kf (cov a d) (cov b d))) (swE (runs fun d => kf (cov a d) (cov b d))) e w' := by
  have KG := Lib.hid hg
  have KE := Lib.hid (fun w' (h : RowKit.Below w.heap.size w w') => ends_any a b p p' bl off cap len bl' off' cap' len' w' (hS.below h) (hS'.below h) ha hb hn)
  have HL := Lib.hid hS.1
  have HL' := Lib.hid hS'.1
  have HA := Lib.hid ha
  have HB' := Lib.hid hb
  have HK := Lib.hid hkf
  clear hg hS hS' ha hb hkf
  go_enter Try.func30, Try.ntmps30
  go_wp2_with fail
  have hB0 := (Below.refl w.heap.size w).alloc (Nat.le_refl _) (.cells #[.int .i64 0, .int .i64 0] 53)
  refine (KE.out _ hB0).mono ?_
  rintro _ w1 ⟨blk, capE, E, rfl, hAE, hg1, hg2, hSr, hB1⟩
  have hD1 := (Dp.new w 0 0 53).below hB1 (by simp)
  rw [World.size_alloc] at hg1
  have HB1 := Lib.hid (hB0.trans (hB1.mono (by simp)))
  have HD1 := Lib.hid hD1
  have HE1 := Lib.hid hAE
  have HS := Lib.hid hSr
  have hEl := hSr.len
  have hnE : E.length ≤ 2199023255552 := by rw [hEl, HL.out, HL'.out]; omega
  obtain ⟨B, hBz⟩ : ∃ B, B = w1.heap.size := ⟨_, rfl⟩
  obtain ⟨D, hD⟩ : ∃ D, D = w.heap.size := ⟨_, rfl⟩
  have HBz := Lib.hid hBz
  have HDz := Lib.hid hD
  have HG1 : Hid (D + 1 ≤ blk) := by show _ ≤ _; omega
  have HG2 : Hid (blk < B) := by show _ < _; omega
  rw [← hD] at HD1 ⊢
  clear hB0 hAE hg1 hg2 hSr hB1 hD1 hEl hBz hD
  obtain ⟨n, hnn⟩ : ∃ n, n = E.length := ⟨_, rfl⟩
  rw [← hnn] at hnE ⊢
  have HN := Lib.hid hnn
  clear hnn
  go_wp2_with fail
  go_loopg [8, 10, 11, 21] n (fun gg s8 s10 s11 s21 wr => ∃ (k : Nat) (fr : Int) (ins : Bool) (L : List (Int × Int)) (x y : Int), s21 = .int .i64 k ∧ s10 = .int .i64 fr ∧ s11 = .bool ins ∧ k ≤ n ∧ n - k ≤ gg ∧ -(k : Int) ≤ x ∧ x ≤ k ∧ -(k : Int) ≤ y ∧ y ≤ k ∧ L.length ≤ k ∧
    Hid (SI kf a b E k ins fr L x y) ∧ Hid (Own wr B s8 L) ∧ Hid (Dp wr D x y) ∧ Hid (AtE wr blk E) ∧ Hid (RowKit.Below w.heap.size w wr) ∧ B ≤ wr.heap.size)
  case atStart => exact ⟨0, 0, false, [], 0, 0, rfl, rfl, rfl, by omega, by omega, by omega, by omega, by omega, by omega, by simp, SI.start HS.out HK.out, Own.empty _ _, HD1.out, HE1.out, HB1.out, by have := HBz.out; omega⟩
  case round =>
    obtain ⟨k, fr, ins, L, x, y, rfl, rfl, rfl, hk, hkg, x0, x1, y0, y1, hLk, HI, HO, HD, HE, HB, hBs⟩ := hrel
    have HBD : Hid (D < B) := by show _ < _; have := HG1.out; have := HG2.out; omega
    clear HB1 HD1 HE1 HBz w1
    by_cases hlt : k < n
    · have hltz : (k : Int) < (n : Int) := by omega
      have hkl : k < E.length := by rw [← HN.out]; exact hlt
      obtain ⟨t, ht⟩ : ∃ t, t = E[k].1 := ⟨_, rfl⟩
      obtain ⟨li, hli⟩ : ∃ t, t = E[k].2.1 := ⟨_, rfl⟩
      obtain ⟨m, hm⟩ : ∃ t, t = E[k].2.2 := ⟨_, rfl⟩
      have hmem := HS.out.mem hkl
      have d0 := (HE.out k hkl).1
      have d1 := (HE.out k hkl).2.1
      have d2 := (HE.out k hkl).2.2
      rw [← ht] at d0
      rw [← hli] at d1 hmem
      rw [← hm] at d2 hmem
      obtain ⟨c, hc, hc2⟩ : ∃ c : Nat, li = (c : Int) ∧ c < 2 := by
        rcases hmem.1 with h | h
        · exact ⟨0, h, by omega⟩
        · exact ⟨1, h, by omega⟩
      have hm1 := hmem.2
      have HT := Lib.hid ht
      have HLI := Lib.hid hli
      have HM := Lib.hid hm
      have HC := Lib.hid hc
      clear ht hli hm hmem
      subst hc
      go_wp2_with fail
      obtain ⟨W1, hW1⟩ : ∃ W, W = wr.alloc (.cells #[.int .i64 t, .int .i64 (c : Int), .int .i64 m] 57) := ⟨_, rfl⟩
      have hA1 := (Below.refl wr.heap.size wr).alloc (Nat.le_refl _) (.cells #[.int .i64 t, .int .i64 (c : Int), .int .i64 m] 57)
      obtain ⟨e0, e1, e2⟩ := box3 wr t (c : Int) m 57
      obtain ⟨bx, hbx⟩ : ∃ n, n = wr.heap.size := ⟨_, rfl⟩
      rw [← hW1] at hA1 e0 e1 e2 ⊢
      have HO1 : Hid (Own W1 B u8 L) := by show Own _ _ _ _; rw [hW1]; exact HO.out.alloc _
      have HD1 : Hid (Dp W1 D x y) := HD.out.below hA1 (by have := HBD.out; omega)
      have HE1 : Hid (AtE W1 blk E) := HE.out.below hA1 (by have := HG2.out; omega)
      have HB1 : Hid (RowKit.Below w.heap.size w W1) := HB.out.trans (hA1.mono HB.out.size)
      have hs1 : wr.heap.size < W1.heap.size := by rw [hW1]; simp
      rw [← hbx] at e0 e1 e2 hs1 ⊢
      have HBX : Hid (bx ≠ D) := by show _ ≠ _; have := HBD.out; omega
      have hdep := HD1.out.at hc2
      obtain ⟨dc, hdc⟩ : ∃ z, z = if c = 0 then x else y := ⟨_, rfl⟩
      rw [← hdc] at hdep
      obtain ⟨f0, f1⟩ := hdep
      have hdcb : -(k : Int) ≤ dc ∧ dc ≤ k := by rw [hdc]; split <;> omega
      have HDC := Lib.hid hdc
      have hbs1 : B < W1.heap.size := by omega
      obtain ⟨b1, b2⟩ := hdcb
      have hm2 : -1 ≤ m ∧ m ≤ 1 := by omega
      have HM1 := Lib.hid hm1
      obtain ⟨m1, m2⟩ := hm2
      have hcz : (c : Int) < 2 := by omega
      have HBX1 : Hid (bx < W1.heap.size) := hs1
      have HBS1 : Hid (B ≤ W1.heap.size) := by show _ ≤ _; omega
      clear hW1 hA1 hbx hdc HO HD HE HB hm1 hbs1 d0 d1 d2 hs1 hBs
      clear wr
      go_region
      have hD2 := HD1.out.set (m := m) hc2
      rw [← HDC.out] at hD2
      obtain ⟨x', hx'⟩ : ∃ z, z = x + if (c : Int) = 0 then m else 0 := ⟨_, rfl⟩
      obtain ⟨y', hy'⟩ : ∃ z, z = y + if (c : Int) = 1 then m else 0 := ⟨_, rfl⟩
      rw [← hx', ← hy'] at hD2
      have hne : ∀ j, (⟨D, c, none⟩ : Addr) ≠ ⟨bx, j, none⟩ := fun j h => by injection h with h1 _ _; exact HBX.out h1.symm
      have g0 : (W1.setCell ⟨D, c, none⟩ (.int .i64 (dc + m))).drew.cell? ⟨bx, 0, none⟩ = some (.int .i64 t) := (World.cell?_setCell_other _ _ _ _ (hne 0)).trans e0
      have HD2 : Hid (Dp (W1.setCell ⟨D, c, none⟩ (.int .i64 (dc + m))).drew D x' y') := hD2
      have HE2 : Hid (AtE (W1.setCell ⟨D, c, none⟩ (.int .i64 (dc + m))).drew blk E) := HE1.out.set (by have := HG1.out; omega)
      have HO2 : Hid (Own (W1.setCell ⟨D, c, none⟩ (.int .i64 (dc + m))).drew B u8 L) := HO1.out.setCell (by exact HBD.out) _
      have HB2 : Hid (RowKit.Below w.heap.size w (W1.setCell ⟨D, c, none⟩ (.int .i64 (dc + m))).drew) := (HB1.out.setCell (by show w.heap.size ≤ D; have := HDz.out; omega) _).drew
      have HBX2 : Hid (bx < (W1.setCell ⟨D, c, none⟩ (.int .i64 (dc + m))).drew.heap.size) := by show bx < (W1.setCell _ _).heap.size; rw [World.size_setCell]; exact HBX1.out
      have HBS2 : Hid (B ≤ (W1.setCell ⟨D, c, none⟩ (.int .i64 (dc + m))).drew.heap.size) := by show B ≤ (W1.setCell _ _).heap.size; rw [World.size_setCell]; exact HBS1.out
      have hx1 : -((k : Int) + 1) ≤ x' ∧ x' ≤ k + 1 := by rw [hx']; split <;> omega
      have hy1 : -((k : Int) + 1) ≤ y' ∧ y' ≤ k + 1 := by rw [hy']; split <;> omega
      have HX' : Hid (x' = x + if E[k].2.1 = 0 then E[k].2.2 else 0) := by show _ = _; rw [← HLI.out, ← HM.out]; exact hx'
      have HY' : Hid (y' = y + if E[k].2.1 = 1 then E[k].2.2 else 0) := by show _ = _; rw [← HLI.out, ← HM.out]; exact hy'
      obtain ⟨p1, p2⟩ := hx1
      obtain ⟨q1, q2⟩ := hy1
      clear hD2 hx' hy' hne e0 e1 e2 f0 f1 HD1 HE1 HO1 HB1 HBX1 HBS1 HDC
      generalize (W1.setCell ⟨D, c, none⟩ (.int .i64 (dc + m))).drew = W2 at g0 HD2 HE2 HO2 HB2 HBX2 HBS2 ⊢
      clear W1
      by_cases hn1 : k + 1 < n
      · have hn1z : (k : Int) + 1 < (n : Int) := by omega
        have hk1 : k + 1 < E.length := by rw [← HN.out]; exact hn1
        obtain ⟨t2, ht2⟩ : ∃ z, z = E[k + 1].1 := ⟨_, rfl⟩
        have g1 := (HE2.out (k + 1) hk1).1
        rw [← ht2] at g1
        by_cases htt : t2 = t
        · have hb : (t2 == t) = true := by simpa using htt
          have HIn : Hid (SI kf a b E (k + 1) ins fr L x' y') := by show SI _ _ _ _ _ _ _ _ _ _; rw [HX'.out, HY'.out]; exact HI.out.same hkl hk1 (by rw [← ht2, ← HT.out]; exact htt)
          clear htt ht2
          go_wp2_with fail
          go_quiet (fail)
          go_wp2
          go_roundg (n - (k + 1))
          case measure => omega
          case rel => exact ⟨k + 1, fr, ins, L, x', y', by go_num, rfl, rfl, by omega, by omega, by omega, by omega, by omega, by omega, by omega, HIn, HO2.out.drewN _, HD2.out, HE2.out, below_drewN HB2.out _, HBS2.out⟩
        · have hb : (t2 == t) = false := by simpa using htt
          have HTU : Hid (∀ hn : k + 1 < E.length, E[k + 1].1 ≠ E[k].1) := fun _ => by rw [← ht2, ← HT.out]; exact htt
          clear htt ht2
          go_wp2_with fail
          go_quiet (fail)
          have g3 : (W2.drewN nq).cell? ⟨bx, 0, none⟩ = some (.int .i64 t) := g0
          have HD3 : Hid (Dp (W2.drewN nq) D x' y') := HD2.out
          have HE3 : Hid (AtE (W2.drewN nq) blk E) := HE2.out
          have HO3 : Hid (Own (W2.drewN nq) B u8 L) := HO2.out
          have HB3 : Hid (RowKit.Below w.heap.size w (W2.drewN nq)) := below_drewN HB2.out nq
          have HBX3 : Hid (bx < (W2.drewN nq).heap.size) := HBX2.out
          have HBS3 : Hid (B ≤ (W2.drewN nq).heap.size) := HBS2.out
          clear g0 g1 HD2 HE2 HO2 HB2 HBX2 HBS2
          generalize W2.drewN nq = W3 at g3 HD3 HE3 HO3 HB3 HBX3 HBS3 ⊢
          clear W2
          obtain ⟨z0, z1, z2, z3⟩ := HD3.out
          go_wp2_with fail
          refine (KG.out _ _ _).mono ?_
          rintro _ W4 ⟨rfl, hb4⟩
          have HD4 : Hid (Dp W4 D x' y') := HD3.out.below hb4 (by have := HBS3.out; have := HBD.out; omega)
          have HE4 : Hid (AtE W4 blk E) := HE3.out.below hb4 (by have := HBS3.out; have := HG2.out; omega)
          have HO4 : Hid (Own W4 B u8 L) := HO3.out.below hb4
          have g4 : W4.cell? ⟨bx, 0, none⟩ = some (.int .i64 t) := (hb4.cell (p := ⟨bx, 0, none⟩) HBX3.out).trans g3
          have HB4 : Hid (RowKit.Below w.heap.size w W4) := HB3.out.trans (hb4.mono HB3.out.size)
          have HBS4 : Hid (B ≤ W4.heap.size) := Nat.le_trans HBS3.out hb4.size
          clear hb4 HD3 HE3 HO3 HB3 HBX3 HBS3 g3 z0 z1 z2 z3 W3
          obtain ⟨cc, hcc⟩ : ∃ z, z = kf (decide (0 < x')) (decide (0 < y')) := ⟨_, rfl⟩
          rw [← hcc]
          have hTn := SI.turn HS.out HK.out HI.out hkl HTU.out HX'.out HY'.out hcc
          rw [← HT.out] at hTn
          clear hcc
          cases cc with
          | false =>
            cases ins with
            | false =>
              have HIn : Hid (SI kf a b E (k + 1) false fr L x' y') := hTn
              clear hTn
              go_wp2
              go_roundg (n - (k + 1))
              case measure => omega
              case rel => exact ⟨k + 1, fr, false, L, x', y', by go_num, rfl, rfl, by omega, by omega, by omega, by omega, by omega, by omega, by omega, HIn, HO4.out, HD4.out, HE4.out, HB4.out, HBS4.out⟩
            | true =>
              have HIn : Hid (SI kf a b E (k + 1) false fr (L ++ [(fr, t)]) x' y') := hTn
              clear hTn
              go_wp2_with (first | (at_builtin; refine list_app rfl _ _ rfl B u8 L rfl (HO4.out.alloc _) ⟨_, 0, none⟩ 1 1 [(fr, t)] rfl rfl (From.new W4 fr t _) (by omega) (by have := HBS4.out; simp; omega) ?_; intro v5 W5 own5 grow5) | fail)
              have hA := (Below.refl W4.heap.size W4).alloc (Nat.le_refl _) (.cells #[.int .i64 fr, .int .i64 t] 37)
              have hGr : RowKit.Below B (W4.alloc (.cells #[.int .i64 fr, .int .i64 t] 37)) W5 := (Below.refl _ _).grown grow5 (by have := HBS4.out; simp; omega) HO4.out.block
              have HD5 : Hid (Dp W5 D x' y') := (HD4.out.below hA (by have := HBS4.out; have := HBD.out; omega)).below hGr HBD.out
              have HE5 : Hid (AtE W5 blk E) := (HE4.out.below hA (by have := HBS4.out; have := HG2.out; omega)).below hGr HG2.out
              have HB5 : Hid (RowKit.Below w.heap.size w W5) := (HB4.out.alloc HB4.out.size _).trans (hGr.mono (by have := HDz.out; have := HBD.out; omega))
              have HBS5 : Hid (B ≤ W5.heap.size) := by show _ ≤ _; have := grow5.size; have := HBS4.out; simp at *; omega
              have HO5 := Lib.hid own5
              have hL5 : (L ++ [(fr, t)]).length ≤ k + 1 := by simp; omega
              clear own5 grow5 hA hGr
              generalize L ++ [(fr, t)] = L5 at HIn HO5 hL5
              go_wp2
              go_roundg (n - (k + 1))
              case measure => omega
              case rel => exact ⟨k + 1, fr, false, L5, x', y', by go_num, rfl, rfl, by omega, by omega, by omega, by omega, by omega, by omega, by omega, HIn, HO5.out, HD5.out, HE5.out, HB5.out, HBS5.out⟩
          | true =>
            cases ins with
            | false =>
              have HIn : Hid (SI kf a b E (k + 1) true t L x' y') := hTn
              clear hTn
              go_wp2
              go_roundg (n - (k + 1))
              case measure => omega
              case rel => exact ⟨k + 1, t, true, L, x', y', by go_num, rfl, rfl, by omega, by omega, by omega, by omega, by omega, by omega, by omega, HIn, HO4.out, HD4.out, HE4.out, HB4.out, HBS4.out⟩
            | true =>
              have HIn : Hid (SI kf a b E (k + 1) true fr L x' y') := hTn
              clear hTn
              go_wp2
              go_roundg (n - (k + 1))
              case measure => omega
              case rel => exact ⟨k + 1, fr, true, L, x', y', by go_num, rfl, rfl, by omega, by omega, by omega, by omega, by omega, by omega, by omega, HIn, HO4.out, HD4.out, HE4.out, HB4.out, HBS4.out⟩
      · have hnb : decide ((k : Int) + 1 < (n : Int)) = false := decide_eq_false (by omega)
        have HTU : Hid (∀ hn : k + 1 < E.length, E[k + 1].1 ≠ E[k].1) := fun h => by have := HN.out; omega
        go_wp2_with fail
        go_quiet (fail)
        have g3 : (W2.drewN nq).cell? ⟨bx, 0, none⟩ = some (.int .i64 t) := g0
        have HD3 : Hid (Dp (W2.drewN nq) D x' y') := HD2.out
        have HE3 : Hid (AtE (W2.drewN nq) blk E) := HE2.out
        have HO3 : Hid (Own (W2.drewN nq) B u8 L) := HO2.out
        have HB3 : Hid (RowKit.Below w.heap.size w (W2.drewN nq)) := below_drewN HB2.out nq
        have HBX3 : Hid (bx < (W2.drewN nq).heap.size) := HBX2.out
        have HBS3 : Hid (B ≤ (W2.drewN nq).heap.size) := HBS2.out
        clear g0 HD2 HE2 HO2 HB2 HBX2 HBS2
        generalize W2.drewN nq = W3 at g3 HD3 HE3 HO3 HB3 HBX3 HBS3 ⊢
        clear W2
        obtain ⟨z0, z1, z2, z3⟩ := HD3.out
        go_wp2_with fail
        refine (KG.out _ _ _).mono ?_
        rintro _ W4 ⟨rfl, hb4⟩
        have HD4 : Hid (Dp W4 D x' y') := HD3.out.below hb4 (by have := HBS3.out; have := HBD.out; omega)
        have HE4 : Hid (AtE W4 blk E) := HE3.out.below hb4 (by have := HBS3.out; have := HG2.out; omega)
        have HO4 : Hid (Own W4 B u8 L) := HO3.out.below hb4
        have g4 : W4.cell? ⟨bx, 0, none⟩ = some (.int .i64 t) := (hb4.cell (p := ⟨bx, 0, none⟩) HBX3.out).trans g3
        have HB4 : Hid (RowKit.Below w.heap.size w W4) := HB3.out.trans (hb4.mono HB3.out.size)
        have HBS4 : Hid (B ≤ W4.heap.size) := Nat.le_trans HBS3.out hb4.size
        clear hb4 HD3 HE3 HO3 HB3 HBX3 HBS3 g3 z0 z1 z2 z3 W3
        obtain ⟨cc, hcc⟩ : ∃ z, z = kf (decide (0 < x')) (decide (0 < y')) := ⟨_, rfl⟩
        rw [← hcc]
        have hTn := SI.turn HS.out HK.out HI.out hkl HTU.out HX'.out HY'.out hcc
        rw [← HT.out] at hTn
        clear hcc
        cases cc with
        | false =>
          cases ins with
          | false =>
            have HIn : Hid (SI kf a b E (k + 1) false fr L x' y') := hTn
            clear hTn
            go_wp2
            go_roundg (n - (k + 1))
            case measure => omega
            case rel => exact ⟨k + 1, fr, false, L, x', y', by go_num, rfl, rfl, by omega, by omega, by omega, by omega, by omega, by omega, by omega, HIn, HO4.out, HD4.out, HE4.out, HB4.out, HBS4.out⟩
          | true =>
            have HIn : Hid (SI kf a b E (k + 1) false fr (L ++ [(fr, t)]) x' y') := hTn
            clear hTn
            go_wp2_with (first | (at_builtin; refine list_app rfl _ _ rfl B u8 L rfl (HO4.out.alloc _) ⟨_, 0, none⟩ 1 1 [(fr, t)] rfl rfl (From.new W4 fr t _) (by omega) (by have := HBS4.out; simp; omega) ?_; intro v5 W5 own5 grow5) | fail)
            have hA := (Below.refl W4.heap.size W4).alloc (Nat.le_refl _) (.cells #[.int .i64 fr, .int .i64 t] 37)
            have hGr : RowKit.Below B (W4.alloc (.cells #[.int .i64 fr, .int .i64 t] 37)) W5 := (Below.refl _ _).grown grow5 (by have := HBS4.out; simp; omega) HO4.out.block
            have HD5 : Hid (Dp W5 D x' y') := (HD4.out.below hA (by have := HBS4.out; have := HBD.out; omega)).below hGr HBD.out
            have HE5 : Hid (AtE W5 blk E) := (HE4.out.below hA (by have := HBS4.out; have := HG2.out; omega)).below hGr HG2.out
            have HB5 : Hid (RowKit.Below w.heap.size w W5) := (HB4.out.alloc HB4.out.size _).trans (hGr.mono (by have := HDz.out; have := HBD.out; omega))
            have HBS5 : Hid (B ≤ W5.heap.size) := by show _ ≤ _; have := grow5.size; have := HBS4.out; simp at *; omega
            have HO5 := Lib.hid own5
            have hL5 : (L ++ [(fr, t)]).length ≤ k + 1 := by simp; omega
            clear own5 grow5 hA hGr
            generalize L ++ [(fr, t)] = L5 at HIn HO5 hL5
            go_wp2
            go_roundg (n - (k + 1))
            case measure => omega
            case rel => exact ⟨k + 1, fr, false, L5, x', y', by go_num, rfl, rfl, by omega, by omega, by omega, by omega, by omega, by omega, by omega, HIn, HO5.out, HD5.out, HE5.out, HB5.out, HBS5.out⟩
        | true =>
          cases ins with
          | false =>
            have HIn : Hid (SI kf a b E (k + 1) true t L x' y') := hTn
            clear hTn
            go_wp2
            go_roundg (n - (k + 1))
            case measure => omega
            case rel => exact ⟨k + 1, t, true, L, x', y', by go_num, rfl, rfl, by omega, by omega, by omega, by omega, by omega, by omega, by omega, HIn, HO4.out, HD4.out, HE4.out, HB4.out, HBS4.out⟩
          | true =>
            have HIn : Hid (SI kf a b E (k + 1) true fr L x' y') := hTn
            clear hTn
            go_wp2
            go_roundg (n - (k + 1))
            case measure => omega
            case rel => exact ⟨k + 1, fr, true, L, x', y', by go_num, rfl, rfl, by omega, by omega, by omega, by omega, by omega, by omega, by omega, HIn, HO4.out, HD4.out, HE4.out, HB4.out, HBS4.out⟩
    · have hltz : ¬ (k : Int) < (n : Int) := by omega
      have hR := HI.out.all (by have := HN.out; omega) HK.out HA.out HB'.out
      obtain ⟨pp, gb, cp, hv, hsl, hfr⟩ := HO.out.readsF (by omega) (fun s hs => by
        rw [hR] at hs
        have h1 := runs_in _ s hs
        have h2 := (runs_nf _).1 s hs
        unfold In64
        omega)
      subst hv
      have HSL := Lib.hid hsl
      have HFR : Hid (0 < L.length → w.heap.size ≤ gb) := fun h => by have := hfr h; have := HBD.out; have := HDz.out; omega
      clear hfr
      have HRR := Lib.hid hR
      clear hsl hR HI HO HD HE
      by_cases h1 : 1000 < L.length
      · have h1z : (1000 : Int) < (L.length : Int) := by omega
        have HR : Hid (Out2f w (swV (runs fun d => kf (cov a d) (cov b d))) (swE (runs fun d => kf (cov a d) (cov b d))) (.returned (.tuple #[.slice none 0 0, .int .i64 2])) wr) := by
          show Out2f _ _ _ _ _
          rw [← HRR.out]
          unfold swV swE
          rw [if_neg (by omega), if_neg (by omega)]
          exact ⟨none, 0, 0, 0, rfl, Sl.nil _ _, HB.out, fun h => absurd h (Nat.lt_irrefl 0)⟩
        go_wp2
        go_ret2
        exact HR.out
      · have h1z : ¬ (1000 : Int) < (L.length : Int) := by omega
        have HR : Hid (Out2f w (swV (runs fun d => kf (cov a d) (cov b d))) (swE (runs fun d => kf (cov a d) (cov b d))) (.returned (.tuple #[.slice pp L.length cp, .int .i64 0])) wr) := by
          show Out2f _ _ _ _ _
          rw [← HRR.out]
          unfold swV swE
          rw [if_pos (by omega), if_pos (by omega)]
          exact ⟨pp, gb, L.length, cp, rfl, HSL.out, HB.out, HFR.out⟩
        go_wp2
        go_ret2
        exact HR.out

set_option maxHeartbeats 1000000 in
set_option maxRecDepth 100000 in
theorem Normal_fresh (l : List (Int × Int)) (p : Option Addr) (b off cap len : Nat) (w : World) (hS : Sl w p b off len l) (hn : len ≤ 1099511627776) :
    Calls Try.prog 12 #[.slice p len cap] w fun e w' => Out2f w (noV l) (noE l) e w' := by
  have HS := Lib.hid hS
  have HL := Lib.hid hS.1
  have KS := Lib.hid (fun (h : ∀ s, s ∈ l → st s = true) w' (hB : RowKit.Below w.heap.size w w') => sweep_fresh kN rfl 31 keepN eN l [] p none b off cap len 0 0 0 0 w' (hS.below hB) (Sl.nil _ _) h (fun s h => by cases h) (by omega))
  clear hS
  go_enter Try.func12, Try.ntmps12
  go_wp2_with fail
  go_loopg [8] len (fun g s8 wr => ∃ (k : Nat), s8 = .int .i64 k ∧ k ≤ len ∧ len - k ≤ g ∧ Hid (sts (l.take k) = true) ∧ Hid (RowKit.Below w.heap.size w wr))
  case atStart => exact ⟨0, rfl, by omega, by omega, rfl, Below.refl _ _⟩
  case round =>
    obtain ⟨k, rfl, hk, hkg, HT, HB⟩ := hrel
    by_cases hlt : k < len
    · have hltz : (k : Int) < (len : Int) := by omega
      have hp1 := HS.out.2.1 (by omega)
      have hkl : k < l.length := by rw [HL.out]; exact hlt
      have HS2 := Lib.hid (HS.out.below HB.out)
      obtain ⟨x, hx⟩ : ∃ x, x = l[k].1 := ⟨_, rfl⟩
      obtain ⟨y, hy⟩ : ∃ x, x = l[k].2 := ⟨_, rfl⟩
      have c1 := (HS2.out.2.2.1 k hkl).1
      have c2 := (HS2.out.2.2.1 k hkl).2
      rw [← hx] at c1
      rw [← hy] at c2
      have hk2 : l[k] = (x, y) := Prod.ext hx.symm hy.symm
      clear hx hy
      subst hp1
      cases hst : st (x, y) with
      | false =>
        have KST := Lib.hid (stretch_b x y false hst)
        have hsb : sts l = false := sts_bad hkl (by rw [hk2]; exact hst)
        have EV : Hid (noV l = []) := by show _ = _; unfold noV; rw [hsb]; rfl
        have EE : Hid (noE l = 1) := by show _ = _; unfold noE; rw [hsb]; rfl
        clear hst hk2 hsb
        go_wp2_with fail
        refine (KST.out _).mono ?_
        rintro _ w1 ⟨rfl, hb⟩
        have HR : Hid (∀ W, RowKit.Below w1.heap.size w1 W → Out2f w (noV l) (noE l) (.returned (.tuple #[.slice none 0 0, .int .i64 1])) W) := fun W hW => by
          rw [EV.out, EE.out]
          have h1 : RowKit.Below w.heap.size w w1 := by first | exact HB.out.trans (hb.mono HB.out.size) | exact (HB.out.alloc HB.out.size _).trans (hb.mono (by have := HB.out.size; simp; omega))
          exact Out2f.bad (h1.trans (hW.mono h1.size))
        clear hb
        go_wp2
        go_ret2
        exact HR.out _ (Below.refl _ _)
      | true =>
        have KST := Lib.hid (stretch_b x y true hst)
        have HTn : Hid (sts (l.take (k + 1)) = true) := sts_take hkl HT.out (by rw [hk2]; exact hst)
        clear hst hk2
        go_wp2_with fail
        refine (KST.out _).mono ?_
        rintro _ w1 ⟨rfl, hb⟩
        have HB2 : Hid (RowKit.Below w.heap.size w w1) := by first | exact HB.out.trans (hb.mono HB.out.size) | exact (HB.out.alloc HB.out.size _).trans (hb.mono (by have := HB.out.size; simp; omega))
        clear hb
        go_wp2
        go_roundg (len - (k + 1))
        case measure => omega
        case rel => exact ⟨k + 1, by go_num, by omega, by omega, HTn, HB2.out⟩
    · have hltz : ¬ (k : Int) < (len : Int) := by omega
      have hsl : sts l = true := by have := HT.out; rw [List.take_of_length_le (by have := HL.out; omega)] at this; exact this
      have K := Lib.hid (KS.out (sts_iff.1 hsl) wr HB.out)
      have hr : (runs fun d => kN (cov l d) (cov [] d)) = runs (cov l) := runs_congr fun d => rfl
      have EV : Hid (swV (runs fun d => kN (cov l d) (cov [] d)) = noV l) := by show _ = _; unfold noV; rw [hsl, hr]; rfl
      have EE : Hid (swE (runs fun d => kN (cov l d) (cov [] d)) = noE l) := by show _ = _; unfold noE; rw [hsl, hr]; rfl
      clear hsl hr
      go_wp2_with fail
      refine K.out.mono ?_
      rintro e w1 hO
      have hO2 := hO.mono HB.out
      rw [EV.out, EE.out] at hO2
      obtain ⟨pp, gb, ln, cp, rfl, hs, hb, hf⟩ := hO2
      have HR : Hid (Out2f w (noV l) (noE l) (.returned (.tuple #[.slice pp ln cp, .int .i64 (noE l)])) w1) := ⟨pp, gb, ln, cp, rfl, hs, hb, hf⟩
      clear hO hs hb hf
      go_wp2
      go_ret2
      exact HR.out
end Go.Proofs.Ytomcngnfdflkkaa
