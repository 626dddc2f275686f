/-
  The walk of the law on the one form.
-/
import Derived.Test.YtomcngnfdflkkaaSFresh
namespace Go.Proofs.Ytomcngnfdflkkaa
open Go.RowKit Spn Go.Sort

theorem out2_at {w w' : World} {l : List (Int × Int)} {er : Int} {e : Ending} (h : Out2 w l er e w') : ∃ p b cap, e = .returned (.tuple #[.slice p l.length cap, .int .i64 er]) ∧ Sl w' p b 0 l.length l ∧ RowKit.Below w.heap.size w w' := by
  obtain ⟨p, b, len, cap, rfl, hs, hb⟩ := h
  have := hs.1
  subst this
  exact ⟨p, b, cap, rfl, hs, hb⟩
theorem out2f_at {w w' : World} {l : List (Int × Int)} {er : Int} {e : Ending} (h : Out2f w l er e w') : ∃ p b cap, e = .returned (.tuple #[.slice p l.length cap, .int .i64 er]) ∧ Sl w' p b 0 l.length l ∧ RowKit.Below w.heap.size w w' ∧ (0 < l.length → w.heap.size ≤ b) := by
  obtain ⟨p, b, len, cap, rfl, hs, hb, hf⟩ := h
  have := hs.1
  subst this
  exact ⟨p, b, cap, rfl, hs, hb, hf⟩
theorem turn_step {l : List (Int × Int)} {r : Nat} {x : Int × Int} (h0 : 0 < r) (h : r - 1 < l.length) (e : l[r - 1] = x) : (l.drop (r - 1)).reverse = (l.drop r).reverse ++ [x] := by
  rw [List.drop_eq_getElem_cons h, List.reverse_cons, e, show r - 1 + 1 = r by omega]
theorem turn_same {l : List (Int × Int)} {x : Int × Int} (h : x ∈ l) : noV (l.reverse ++ [x]) = noV l ∧ noE (l.reverse ++ [x]) = noE l := by
  have hm : ∀ s, s ∈ l.reverse ++ [x] ↔ s ∈ l := fun s => by
    rw [List.mem_append, List.mem_reverse, List.mem_singleton]
    exact ⟨fun h' => by rcases h' with h' | rfl; exact h'; exact h, .inl⟩
  have h1 : sts (l.reverse ++ [x]) = sts l := Bool.eq_iff_iff.2 (by rw [sts_iff, sts_iff]; exact ⟨fun h s hs => h s ((hm s).2 hs), fun h s hs => h s ((hm s).1 hs)⟩)
  have h2 : runs (cov (l.reverse ++ [x])) = runs (cov l) := runs_congr fun d => Bool.eq_iff_iff.2 (by
    rw [cov_iff, cov_iff]
    exact ⟨fun ⟨s, hs, h⟩ => ⟨s, (hm s).1 hs, h⟩, fun ⟨s, hs, h⟩ => ⟨s, (hm s).2 hs, h⟩⟩)
  unfold noV noE
  rw [h1, h2]
  exact ⟨rfl, rfl⟩
/-- The place that is repeated. -/
theorem place2 {k tm : Int} {len : Nat} (h : 0 < len) (htm : k.tmod (len : Int) = tm) : ∃ ix : Nat, ix < len ∧ ((0 ≤ tm ∧ tm = (ix : Int)) ∨ (tm < 0 ∧ tm + (len : Int) = (ix : Int))) := by
  have h1 : tm < len := by rw [← htm]; exact Int.tmod_lt_of_pos k (by omega)
  have h2 : -(len : Int) < tm := by rw [← htm]; exact Int.lt_tmod_of_pos k (by omega)
  by_cases h0 : 0 ≤ tm
  · exact ⟨tm.toNat, by omega, .inl ⟨h0, by omega⟩⟩
  · exact ⟨(tm + len).toNat, by omega, .inr ⟨by omega, by omega⟩⟩
theorem Own.lt {w : World} {base : Nat} {v : Value} {l : List (Int × Int)} (h : Own w base v l) : ∀ k, v.ownBlock = some k → k < w.heap.size := by
  intro k hk
  rcases h.2 with ⟨rfl, _⟩ | ⟨g, cap, cur, rfl, hg, hb, _⟩
  · cases hk
  · simp [Value.ownBlock] at hk
    subst hk
    rcases Nat.lt_or_ge g w.heap.size with z | z
    · exact z
    · rw [Array.getElem?_eq_none z] at hb; cases hb
theorem Sl.grown {w w' : World} {p : Option Addr} {b off len : Nat} {l : List (Int × Int)} {row : Option Nat} (h : Sl w p b off len l) (hg : w.grownBy w' row) (hr : 0 < len → some b ≠ row) : Sl w' p b off len l := by
  refine ⟨h.1, h.2.1, fun k hk => ?_, fun x => Nat.lt_of_lt_of_le (h.2.2.2.1 x) hg.size, h.2.2.2.2⟩
  have hl : 0 < len := by have := h.1; omega
  have e := hg.block b (h.2.2.2.1 hl) (hr hl)
  exact ⟨(World.cell?_of_block (a := ⟨b, off + k * 2, none⟩) e).trans (h.2.2.1 k hk).1, (World.cell?_of_block (a := ⟨b, off + k * 2 + 1, none⟩) e).trans (h.2.2.1 k hk).2⟩
theorem wo_nil {a b X Y : List (Int × Int)} (ha : Vl a) (hb : Vl b) (hX : Good kW a b X) (hY : Good kW b a Y) : (a = b → X = []) ∧ (a = b → Y = []) ∧ (X = [] → Y = [] → a = b) := by
  refine ⟨fun e => ?_, fun e => ?_, fun e f => nf_uniq ha.nf hb.nf fun d => ?_⟩
  · subst e
    exact nf_uniq hX.vl.nf Nf.nil fun d => by rw [hX.cov, cov_nil]; cases cov a d <;> rfl
  · subst e
    exact nf_uniq hY.vl.nf Nf.nil fun d => by rw [hY.cov, cov_nil]; cases cov a d <;> rfl
  · have h1 := hX.cov d
    have h2 := hY.cov d
    rw [e, cov_nil] at h1
    rw [f, cov_nil] at h2
    revert h1 h2
    cases cov a d <;> cases cov b d <;> simp [kW]

set_option maxRecDepth 100000 in
set_option maxHeartbeats 8000000 in
theorem form_bad (a : List (Int × Int)) (p : Option Addr) (bl off cap len1 : Nat) (b : List (Int × Int)) (p' : Option Addr) (bl' off' cap' len' : Nat) (l : List (Int × Int)) (pl : Option Addr) (bll offl capl len : Nat) (k : Int) (w : World) (hS : Sl w p bl off len1 a) (_hS' : Sl w p' bl' off' len' b) (hL : Sl w pl bll offl len l) (_k0 : -9223372036854775808 ≤ k) (_k1 : k ≤ 9223372036854775807) (hbd : len ≤ 1048576) (hva : vl a = false) :
    Calls Try.prog 5 #[.slice p len1 cap, .slice p' len' cap', .slice pl len capl, .int .i64 k] w fun e w' => e = .returned (.bool true) ∧ RowKit.Below w.heap.size w w' := by
  have HLL := Lib.hid hL.1
  have HSL := Lib.hid hL
  obtain ⟨vL, hvL⟩ : ∃ v, v = noV l := ⟨_, rfl⟩
  obtain ⟨eL, heL⟩ : ∃ v, v = noE l := ⟨_, rfl⟩
  have hee : (eL == eL) = true := by simp
  have KNL := Lib.hid (fun w' (h : RowKit.Below w.heap.size w w') => (show Calls Try.prog 12 #[.slice pl len capl] w' fun e w'' => ∃ q g c, e = .returned (.tuple #[.slice q vL.length c, .int .i64 eL]) ∧ Sl w'' q g 0 vL.length vL ∧ RowKit.Below w'.heap.size w' w'' ∧ (0 < vL.length → w'.heap.size ≤ g) by rw [hvL, heL]; exact (Normal_fresh l pl bll offl capl len w' (hL.below h) (by omega)).mono fun _ _ h => out2f_at h))
  have HVL := Lib.hid hvL
  have HEL := Lib.hid heL
  clear hvL heL
  have KA := Lib.hid (fun w' (h : RowKit.Below w.heap.size w w') => valid_b a p bl off cap len1 false hva w' (hS.below h))
  clear hS _hS' hL hva
  by_cases hl0 : 0 < len
  · have hl0z : (0 : Int) < (len : Int) := by omega
    have hlb : decide (0 < len) = true := decide_eq_true hl0
    have HB0 : Hid (RowKit.Below w.heap.size w w) := Below.refl _ _
    go_enter Try.func5, Try.ntmps5
    go_wp2_with fail
    refine (head_any _).mono ?_
    rintro _ w1 ⟨rfl, hb⟩
    have HB1 := Lib.hid (HB0.out.trans (hb.mono HB0.out.size))
    clear hb HB0
    go_wp2_with fail
    refine (KA.out _ HB1.out).mono ?_
    rintro _ w2 ⟨rfl, hb⟩
    have HB2 := Lib.hid (HB1.out.trans (hb.mono HB1.out.size))
    clear hb HB1
    go_wp2_with fail
    obtain ⟨B, hBz⟩ : ∃ B, B = w2.heap.size := ⟨_, rfl⟩
    have HBz := Lib.hid hBz
    clear hBz
    go_loopg [12, 13] len (fun gg s12 s13 wr => ∃ (r : Nat), s13 = .int .i64 ((r : Int) - 1) ∧ r ≤ len ∧ r ≤ gg ∧ Hid (Own wr B s12 (l.drop r).reverse) ∧ Hid (RowKit.Below w2.heap.size w2 wr))
    case atStart => exact ⟨len, by first | rfl | (congr 1; omega), by omega, by omega, by rw [List.drop_of_length_le (by have := HLL.out; omega)]; exact Own.empty _ _, Below.refl _ _⟩
    case round =>
      obtain ⟨r, rfl, hr, hrg, HO, HBr⟩ := hrel
      by_cases hr0 : 0 < r
      · have hrz : (0 : Int) ≤ (r : Int) - 1 := by omega
        have hrl : (r : Int) - 1 < (len : Int) := by omega
        have hp1 := HSL.out.2.1 (by omega)
        have hkl : r - 1 < l.length := by rw [HLL.out]; omega
        have HS2 := Lib.hid ((HSL.out.below HB2.out).below HBr.out)
        obtain ⟨u, hu⟩ : ∃ x, x = (l[r - 1]'hkl).1 := ⟨_, rfl⟩
        obtain ⟨v, hv⟩ : ∃ x, x = (l[r - 1]'hkl).2 := ⟨_, rfl⟩
        have d1 := (HS2.out.2.2.1 (r - 1) hkl).1
        have d2 := (HS2.out.2.2.1 (r - 1) hkl).2
        rw [← hu] at d1
        rw [← hv] at d2
        have HT : Hid ((l.drop (r - 1)).reverse = (l.drop r).reverse ++ [(u, v)]) := by show _ = _; exact turn_step hr0 hkl (Prod.ext hu.symm hv.symm)
        have HDL : Hid ((l.drop r).reverse.length ≤ len) := by show _ ≤ _; rw [List.length_reverse, List.length_drop, HLL.out]; omega
        clear hu hv
        subst hp1
        go_wp2_with (first | (at_builtin; refine list_app rfl _ _ rfl B u12 (l.drop r).reverse rfl (HO.out.alloc _) ⟨_, 0, none⟩ 1 1 [(u, v)] rfl rfl (From.new wr u v _) (by have := HDL.out; omega) (by have := HBr.out.size; have := HBz.out; simp; omega) ?_; intro v5 W5 own5 grow5) | fail)
        have HO5 : Hid (Own W5 B v5 (l.drop (r - 1)).reverse) := by show Own _ _ _ _; rw [HT.out]; exact own5
        have HB5 : Hid (RowKit.Below w2.heap.size w2 W5) := (HBr.out.alloc HBr.out.size _).grown grow5 (by have := HBr.out.size; simp; omega) (fun k hk => by have := HO.out.block k hk; have := HBz.out; omega)
        clear own5 grow5
        go_wp2
        go_roundg (r - 1)
        case measure => omega
        case rel => exact ⟨r - 1, by first | rfl | (congr 1; omega), by omega, by omega, HO5, HB5⟩
      · have hrz : ¬ (0 : Int) ≤ (r : Int) - 1 := by omega
        have hlr : (l.drop r).reverse = l.reverse := by rw [show r = 0 by omega]; rfl
        have HO1 : Hid (Own wr B u12 l.reverse) := by show Own _ _ _ _; rw [← hlr]; exact HO.out
        have HBL := Lib.hid (HB2.out.trans (HBr.out.mono HB2.out.size))
        have HBB : Hid (B ≤ wr.heap.size) := by show _ ≤ _; have := HBr.out.size; have := HBz.out; omega
        have HWB : Hid (w.heap.size ≤ B) := by show _ ≤ _; have := HB2.out.size; have := HBz.out; omega
        obtain ⟨tm, htm⟩ : ∃ tm, k.tmod (len : Int) = tm := ⟨_, rfl⟩
        obtain ⟨ix, hixl, hix⟩ := place2 (by omega) htm
        clear hlr HO hrg hr0
        rcases hix with ⟨ht0, hti⟩ | ⟨ht0, hti⟩
        · skip
          subst hti
          have htz : ¬ (ix : Int) < 0 := by omega
          have hixz : (ix : Int) < (len : Int) := by omega
          have hix0 : (0 : Int) ≤ (ix : Int) := by omega
          have HOL : Hid (∀ k, u12.ownBlock = some k → k < wr.heap.size) := HO1.out.lt
          go_wp2_with fail
          refine (KNL.out _ HBL.out).mono ?_
          rintro _ w13 ⟨q13, g13, c13, rfl, hs, hb, hf⟩
          have HF1 := Lib.hid hf
          have HS1 := Lib.hid hs
          have HSZ : Hid (wr.heap.size ≤ w13.heap.size) := hb.size
          clear hs hf
          have HB13 := Lib.hid (HBL.out.trans (hb.mono HBL.out.size))
          have HO1' := Lib.hid (HO1.out.below hb)
          clear HO1
          have HO1 := HO1'
          clear HO1'
          clear hb HBL
          have hp1 := HSL.out.2.1 (by omega)
          have hkl : ix < l.length := by rw [HLL.out]; exact hixl
          have HS3 := Lib.hid (HSL.out.below HB13.out)
          obtain ⟨u, hu⟩ : ∃ x, x = l[ix].1 := ⟨_, rfl⟩
          obtain ⟨v, hv⟩ : ∃ x, x = l[ix].2 := ⟨_, rfl⟩
          have d1 := (HS3.out.2.2.1 ix hkl).1
          have d2 := (HS3.out.2.2.1 ix hkl).2
          rw [← hu] at d1
          rw [← hv] at d2
          have hts := turn_same (l := l) (x := (u, v)) (by rw [show (u, v) = l[ix] from Prod.ext hu hv]; exact List.getElem_mem hkl)
          obtain ⟨T, hT⟩ : ∃ T, T = l.reverse ++ [(u, v)] := ⟨_, rfl⟩
          have HTL : Hid (T.length = len + 1) := by show _ = _; rw [hT]; simp; exact HLL.out
          have HTI : Hid (∀ s, s ∈ T → In64 s.1 ∧ In64 s.2) := fun s hs => by
            rw [hT] at hs
            rcases List.mem_append.1 hs with h | h
            · exact HSL.out.2.2.2.2.2 s (List.mem_reverse.1 h)
            · rw [List.mem_singleton.1 h, show (u, v) = l[ix] from Prod.ext hu hv]; exact HSL.out.2.2.2.2.2 _ (List.getElem_mem hkl)
          rw [← hT] at hts
          have HTS := Lib.hid hts
          have HT := Lib.hid hT
          have HBB2 : Hid (B ≤ w13.heap.size) := Nat.le_trans HBB.out HSZ.out
          have HRW : Hid (∀ (h : 0 < vL.length), some g13 ≠ u12.ownBlock) := fun h e => by have := HOL.out g13 e.symm; have := HF1.out h; omega
          clear hu hv hT hts
          subst hp1
          go_wp2_with (first | (at_builtin; refine list_app rfl _ _ rfl B u12 l.reverse rfl (HO1.out.alloc _) ⟨_, 0, none⟩ 1 1 [(u, v)] rfl rfl (From.new w13 u v _) (by rw [List.length_reverse, HLL.out]; omega) (by have := HBB2.out; simp; omega) ?_; intro v5 W5 own5 grow5; rw [← HT.out] at own5; have hA := (Below.refl w13.heap.size w13).alloc (Nat.le_refl _) (.cells #[.int .i64 u, .int .i64 v] 37); have hG : RowKit.Below B (w13.alloc (.cells #[.int .i64 u, .int .i64 v] 37)) W5 := (Below.refl _ _).grown grow5 (by have := HBB2.out; simp; omega) HO1.out.block; have HS5 := Lib.hid ((HS1.out.below hA).grown grow5 HRW.out); obtain ⟨q8, g8, c8, rfl, hs8⟩ := own5.reads (by rw [HTL.out]; omega) HTI.out; have HS8 := Lib.hid hs8; have HW5 := Lib.hid ((HB13.out.alloc HB13.out.size _).trans (hG.mono HWB.out)); clear own5 grow5 hA hG hs8) | fail)
          have RL1 := Lib.hid (HS5.out.rd (cap := c13))
          have knt := (Normal_any T q8 g8 0 c8 _ _ HS8.out (by rw [HTL.out]; omega)).mono fun _ _ h => out2_at h
          rw [HTS.out.1, HTS.out.2, ← HVL.out, ← HEL.out] at knt
          have KNT := Lib.hid knt
          clear knt
          clear HB13 HO1 HS1 HS5 HF1 HOL HSZ HBB2 HRW
          go_wp2_with fail
          refine KNT.out.mono ?_
          rintro _ w15 ⟨q15, g15, c15, rfl, hs, hb⟩
          have HB15 := Lib.hid (HW5.out.trans (hb.mono HW5.out.size))
          have RL1' := Lib.hid (RL1.out.below hb)
          clear RL1
          have RL1 := RL1'
          clear RL1'
          clear hb HW5
          have RL2 := Lib.hid (hs.rd (cap := c15))
          clear hs KNT HS8
          go_wp2_with fail
          refine (sameR true (decide_eq_true rfl) _ _ _ RL1.out RL2.out).mono ?_
          rintro _ w16 ⟨rfl, hb⟩
          have HB16 := Lib.hid (HB15.out.trans (hb.mono HB15.out.size))
          have RL1' := Lib.hid (RL1.out.below hb)
          clear RL1
          have RL1 := RL1'
          clear RL1'
          have RL2' := Lib.hid (RL2.out.below hb)
          clear RL2
          have RL2 := RL2'
          clear RL2'
          clear hb HB15
          clear RL1 RL2
          go_wp2_with fail
          refine (KA.out _ HB16.out).mono ?_
          rintro _ w17 ⟨rfl, hb⟩
          have HB17 := Lib.hid (HB16.out.trans (hb.mono HB16.out.size))
          clear hb HB16
          go_wp2
          go_ret
          exact ⟨by first | rfl | (simp; done), HB17.out⟩
        · skip
          have htz : tm < 0 := ht0
          have hixz : (ix : Int) < (len : Int) := by omega
          have hix0 : (0 : Int) ≤ (ix : Int) := by omega
          have HOL : Hid (∀ k, u12.ownBlock = some k → k < wr.heap.size) := HO1.out.lt
          go_wp2_with fail
          refine (KNL.out _ HBL.out).mono ?_
          rintro _ w13 ⟨q13, g13, c13, rfl, hs, hb, hf⟩
          have HF1 := Lib.hid hf
          have HS1 := Lib.hid hs
          have HSZ : Hid (wr.heap.size ≤ w13.heap.size) := hb.size
          clear hs hf
          have HB13 := Lib.hid (HBL.out.trans (hb.mono HBL.out.size))
          have HO1' := Lib.hid (HO1.out.below hb)
          clear HO1
          have HO1 := HO1'
          clear HO1'
          clear hb HBL
          have hp1 := HSL.out.2.1 (by omega)
          have hkl : ix < l.length := by rw [HLL.out]; exact hixl
          have HS3 := Lib.hid (HSL.out.below HB13.out)
          obtain ⟨u, hu⟩ : ∃ x, x = l[ix].1 := ⟨_, rfl⟩
          obtain ⟨v, hv⟩ : ∃ x, x = l[ix].2 := ⟨_, rfl⟩
          have d1 := (HS3.out.2.2.1 ix hkl).1
          have d2 := (HS3.out.2.2.1 ix hkl).2
          rw [← hu] at d1
          rw [← hv] at d2
          have hts := turn_same (l := l) (x := (u, v)) (by rw [show (u, v) = l[ix] from Prod.ext hu hv]; exact List.getElem_mem hkl)
          obtain ⟨T, hT⟩ : ∃ T, T = l.reverse ++ [(u, v)] := ⟨_, rfl⟩
          have HTL : Hid (T.length = len + 1) := by show _ = _; rw [hT]; simp; exact HLL.out
          have HTI : Hid (∀ s, s ∈ T → In64 s.1 ∧ In64 s.2) := fun s hs => by
            rw [hT] at hs
            rcases List.mem_append.1 hs with h | h
            · exact HSL.out.2.2.2.2.2 s (List.mem_reverse.1 h)
            · rw [List.mem_singleton.1 h, show (u, v) = l[ix] from Prod.ext hu hv]; exact HSL.out.2.2.2.2.2 _ (List.getElem_mem hkl)
          rw [← hT] at hts
          have HTS := Lib.hid hts
          have HT := Lib.hid hT
          have HBB2 : Hid (B ≤ w13.heap.size) := Nat.le_trans HBB.out HSZ.out
          have HRW : Hid (∀ (h : 0 < vL.length), some g13 ≠ u12.ownBlock) := fun h e => by have := HOL.out g13 e.symm; have := HF1.out h; omega
          clear hu hv hT hts
          subst hp1
          go_wp2_with (first | (at_builtin; refine list_app rfl _ _ rfl B u12 l.reverse rfl (HO1.out.alloc _) ⟨_, 0, none⟩ 1 1 [(u, v)] rfl rfl (From.new w13 u v _) (by rw [List.length_reverse, HLL.out]; omega) (by have := HBB2.out; simp; omega) ?_; intro v5 W5 own5 grow5; rw [← HT.out] at own5; have hA := (Below.refl w13.heap.size w13).alloc (Nat.le_refl _) (.cells #[.int .i64 u, .int .i64 v] 37); have hG : RowKit.Below B (w13.alloc (.cells #[.int .i64 u, .int .i64 v] 37)) W5 := (Below.refl _ _).grown grow5 (by have := HBB2.out; simp; omega) HO1.out.block; have HS5 := Lib.hid ((HS1.out.below hA).grown grow5 HRW.out); obtain ⟨q8, g8, c8, rfl, hs8⟩ := own5.reads (by rw [HTL.out]; omega) HTI.out; have HS8 := Lib.hid hs8; have HW5 := Lib.hid ((HB13.out.alloc HB13.out.size _).trans (hG.mono HWB.out)); clear own5 grow5 hA hG hs8) | fail)
          have RL1 := Lib.hid (HS5.out.rd (cap := c13))
          have knt := (Normal_any T q8 g8 0 c8 _ _ HS8.out (by rw [HTL.out]; omega)).mono fun _ _ h => out2_at h
          rw [HTS.out.1, HTS.out.2, ← HVL.out, ← HEL.out] at knt
          have KNT := Lib.hid knt
          clear knt
          clear HB13 HO1 HS1 HS5 HF1 HOL HSZ HBB2 HRW
          go_wp2_with fail
          refine KNT.out.mono ?_
          rintro _ w15 ⟨q15, g15, c15, rfl, hs, hb⟩
          have HB15 := Lib.hid (HW5.out.trans (hb.mono HW5.out.size))
          have RL1' := Lib.hid (RL1.out.below hb)
          clear RL1
          have RL1 := RL1'
          clear RL1'
          clear hb HW5
          have RL2 := Lib.hid (hs.rd (cap := c15))
          clear hs KNT HS8
          go_wp2_with fail
          refine (sameR true (decide_eq_true rfl) _ _ _ RL1.out RL2.out).mono ?_
          rintro _ w16 ⟨rfl, hb⟩
          have HB16 := Lib.hid (HB15.out.trans (hb.mono HB15.out.size))
          have RL1' := Lib.hid (RL1.out.below hb)
          clear RL1
          have RL1 := RL1'
          clear RL1'
          have RL2' := Lib.hid (RL2.out.below hb)
          clear RL2
          have RL2 := RL2'
          clear RL2'
          clear hb HB15
          clear RL1 RL2
          go_wp2_with fail
          refine (KA.out _ HB16.out).mono ?_
          rintro _ w17 ⟨rfl, hb⟩
          have HB17 := Lib.hid (HB16.out.trans (hb.mono HB16.out.size))
          clear hb HB16
          go_wp2
          go_ret
          exact ⟨by first | rfl | (simp; done), HB17.out⟩
  · have hl0z : ¬ (0 : Int) < (len : Int) := by omega
    have hlb : decide (0 < len) = false := decide_eq_false hl0
    have HB0 : Hid (RowKit.Below w.heap.size w w) := Below.refl _ _
    go_enter Try.func5, Try.ntmps5
    go_wp2_with fail
    refine (head_any _).mono ?_
    rintro _ w1 ⟨rfl, hb⟩
    have HB1 := Lib.hid (HB0.out.trans (hb.mono HB0.out.size))
    clear hb HB0
    go_wp2_with fail
    refine (KA.out _ HB1.out).mono ?_
    rintro _ w2 ⟨rfl, hb⟩
    have HB2 := Lib.hid (HB1.out.trans (hb.mono HB1.out.size))
    clear hb HB1
    go_wp2_with fail
    refine (KA.out _ HB2.out).mono ?_
    rintro _ w3 ⟨rfl, hb⟩
    have HB3 := Lib.hid (HB2.out.trans (hb.mono HB2.out.size))
    clear hb HB2
    go_wp2
    go_ret
    exact ⟨by first | rfl | (simp; done), HB3.out⟩

set_option maxRecDepth 100000 in
set_option maxHeartbeats 8000000 in
theorem form_half (a : List (Int × Int)) (p : Option Addr) (bl off cap len1 : Nat) (b : List (Int × Int)) (p' : Option Addr) (bl' off' cap' len' : Nat) (l : List (Int × Int)) (pl : Option Addr) (bll offl capl len : Nat) (k : Int) (w : World) (hS : Sl w p bl off len1 a) (hS' : Sl w p' bl' off' len' b) (hL : Sl w pl bll offl len l) (_k0 : -9223372036854775808 ≤ k) (_k1 : k ≤ 9223372036854775807) (hbd : len ≤ 1048576) (hva : vl a = true) (hvb : vl b = false) :
    Calls Try.prog 5 #[.slice p len1 cap, .slice p' len' cap', .slice pl len capl, .int .i64 k] w fun e w' => e = .returned (.bool true) ∧ RowKit.Below w.heap.size w w' := by
  have HLL := Lib.hid hL.1
  have HSL := Lib.hid hL
  obtain ⟨vL, hvL⟩ : ∃ v, v = noV l := ⟨_, rfl⟩
  obtain ⟨eL, heL⟩ : ∃ v, v = noE l := ⟨_, rfl⟩
  have hee : (eL == eL) = true := by simp
  have KNL := Lib.hid (fun w' (h : RowKit.Below w.heap.size w w') => (show Calls Try.prog 12 #[.slice pl len capl] w' fun e w'' => ∃ q g c, e = .returned (.tuple #[.slice q vL.length c, .int .i64 eL]) ∧ Sl w'' q g 0 vL.length vL ∧ RowKit.Below w'.heap.size w' w'' ∧ (0 < vL.length → w'.heap.size ≤ g) by rw [hvL, heL]; exact (Normal_fresh l pl bll offl capl len w' (hL.below h) (by omega)).mono fun _ _ h => out2f_at h))
  have HVL := Lib.hid hvL
  have HEL := Lib.hid heL
  clear hvL heL
  have KA := Lib.hid (fun w' (h : RowKit.Below w.heap.size w w') => valid_b a p bl off cap len1 true hva w' (hS.below h))
  have KB := Lib.hid (fun w' (h : RowKit.Below w.heap.size w w') => valid_b b p' bl' off' cap' len' false hvb w' (hS'.below h))
  have HVA := Lib.hid (vl_iff.1 hva)
  have HRA := Lib.hid (hS.rd (cap := cap))
  have hna := noV_is (l := a) (sts_iff.2 (vl_iff.1 hva).2.1) (vl_iff.1 hva) (fun _ => rfl)
  have KNA := Lib.hid (fun w' (h : RowKit.Below w.heap.size w w') => (show Calls Try.prog 12 #[.slice p len1 cap] w' fun e w'' => ∃ q g c, e = .returned (.tuple #[.slice q a.length c, .int .i64 0]) ∧ Sl w'' q g 0 a.length a ∧ RowKit.Below w'.heap.size w' w'' by
    have K := Normal_any a p bl off cap len1 w' (hS.below h) (by have := (vl_iff.1 hva).1; have := hS.1; omega)
    rw [hna.1, hna.2] at K
    exact K.mono fun _ _ h => out2_at h))
  clear hna
  clear hS hS' hL hva hvb
  by_cases hl0 : 0 < len
  · have hl0z : (0 : Int) < (len : Int) := by omega
    have hlb : decide (0 < len) = true := decide_eq_true hl0
    have HB0 : Hid (RowKit.Below w.heap.size w w) := Below.refl _ _
    go_enter Try.func5, Try.ntmps5
    go_wp2_with fail
    refine (head_any _).mono ?_
    rintro _ w1 ⟨rfl, hb⟩
    have HB1 := Lib.hid (HB0.out.trans (hb.mono HB0.out.size))
    clear hb HB0
    go_wp2_with fail
    refine (KA.out _ HB1.out).mono ?_
    rintro _ w2 ⟨rfl, hb⟩
    have HB2 := Lib.hid (HB1.out.trans (hb.mono HB1.out.size))
    clear hb HB1
    go_wp2_with fail
    refine (KNA.out _ HB2.out).mono ?_
    rintro _ w3 ⟨q3, g3, c3, rfl, hs, hb⟩
    have HB3 := Lib.hid (HB2.out.trans (hb.mono HB2.out.size))
    clear hb HB2
    have RN1 := Lib.hid (hs.rd (cap := c3))
    clear hs
    go_wp2_with fail
    refine (sameR true (decide_eq_true rfl) _ _ _ RN1.out (HRA.out.below HB3.out)).mono ?_
    rintro _ w4 ⟨rfl, hb⟩
    have HB4 := Lib.hid (HB3.out.trans (hb.mono HB3.out.size))
    have RN1' := Lib.hid (RN1.out.below hb)
    clear RN1
    have RN1 := RN1'
    clear RN1'
    clear hb HB3
    clear RN1
    go_wp2_with fail
    obtain ⟨B, hBz⟩ : ∃ B, B = w4.heap.size := ⟨_, rfl⟩
    have HBz := Lib.hid hBz
    clear hBz
    go_loopg [12, 13] len (fun gg s12 s13 wr => ∃ (r : Nat), s13 = .int .i64 ((r : Int) - 1) ∧ r ≤ len ∧ r ≤ gg ∧ Hid (Own wr B s12 (l.drop r).reverse) ∧ Hid (RowKit.Below w4.heap.size w4 wr))
    case atStart => exact ⟨len, by first | rfl | (congr 1; omega), by omega, by omega, by rw [List.drop_of_length_le (by have := HLL.out; omega)]; exact Own.empty _ _, Below.refl _ _⟩
    case round =>
      obtain ⟨r, rfl, hr, hrg, HO, HBr⟩ := hrel
      by_cases hr0 : 0 < r
      · have hrz : (0 : Int) ≤ (r : Int) - 1 := by omega
        have hrl : (r : Int) - 1 < (len : Int) := by omega
        have hp1 := HSL.out.2.1 (by omega)
        have hkl : r - 1 < l.length := by rw [HLL.out]; omega
        have HS2 := Lib.hid ((HSL.out.below HB4.out).below HBr.out)
        obtain ⟨u, hu⟩ : ∃ x, x = (l[r - 1]'hkl).1 := ⟨_, rfl⟩
        obtain ⟨v, hv⟩ : ∃ x, x = (l[r - 1]'hkl).2 := ⟨_, rfl⟩
        have d1 := (HS2.out.2.2.1 (r - 1) hkl).1
        have d2 := (HS2.out.2.2.1 (r - 1) hkl).2
        rw [← hu] at d1
        rw [← hv] at d2
        have HT : Hid ((l.drop (r - 1)).reverse = (l.drop r).reverse ++ [(u, v)]) := by show _ = _; exact turn_step hr0 hkl (Prod.ext hu.symm hv.symm)
        have HDL : Hid ((l.drop r).reverse.length ≤ len) := by show _ ≤ _; rw [List.length_reverse, List.length_drop, HLL.out]; omega
        clear hu hv
        subst hp1
        go_wp2_with (first | (at_builtin; refine list_app rfl _ _ rfl B u12 (l.drop r).reverse rfl (HO.out.alloc _) ⟨_, 0, none⟩ 1 1 [(u, v)] rfl rfl (From.new wr u v _) (by have := HDL.out; omega) (by have := HBr.out.size; have := HBz.out; simp; omega) ?_; intro v5 W5 own5 grow5) | fail)
        have HO5 : Hid (Own W5 B v5 (l.drop (r - 1)).reverse) := by show Own _ _ _ _; rw [HT.out]; exact own5
        have HB5 : Hid (RowKit.Below w4.heap.size w4 W5) := (HBr.out.alloc HBr.out.size _).grown grow5 (by have := HBr.out.size; simp; omega) (fun k hk => by have := HO.out.block k hk; have := HBz.out; omega)
        clear own5 grow5
        go_wp2
        go_roundg (r - 1)
        case measure => omega
        case rel => exact ⟨r - 1, by first | rfl | (congr 1; omega), by omega, by omega, HO5, HB5⟩
      · have hrz : ¬ (0 : Int) ≤ (r : Int) - 1 := by omega
        have hlr : (l.drop r).reverse = l.reverse := by rw [show r = 0 by omega]; rfl
        have HO1 : Hid (Own wr B u12 l.reverse) := by show Own _ _ _ _; rw [← hlr]; exact HO.out
        have HBL := Lib.hid (HB4.out.trans (HBr.out.mono HB4.out.size))
        have HBB : Hid (B ≤ wr.heap.size) := by show _ ≤ _; have := HBr.out.size; have := HBz.out; omega
        have HWB : Hid (w.heap.size ≤ B) := by show _ ≤ _; have := HB4.out.size; have := HBz.out; omega
        obtain ⟨tm, htm⟩ : ∃ tm, k.tmod (len : Int) = tm := ⟨_, rfl⟩
        obtain ⟨ix, hixl, hix⟩ := place2 (by omega) htm
        clear hlr HO hrg hr0
        rcases hix with ⟨ht0, hti⟩ | ⟨ht0, hti⟩
        · skip
          subst hti
          have htz : ¬ (ix : Int) < 0 := by omega
          have hixz : (ix : Int) < (len : Int) := by omega
          have hix0 : (0 : Int) ≤ (ix : Int) := by omega
          have HOL : Hid (∀ k, u12.ownBlock = some k → k < wr.heap.size) := HO1.out.lt
          go_wp2_with fail
          refine (KNL.out _ HBL.out).mono ?_
          rintro _ w15 ⟨q15, g15, c15, rfl, hs, hb, hf⟩
          have HF1 := Lib.hid hf
          have HS1 := Lib.hid hs
          have HSZ : Hid (wr.heap.size ≤ w15.heap.size) := hb.size
          clear hs hf
          have HB15 := Lib.hid (HBL.out.trans (hb.mono HBL.out.size))
          have HO1' := Lib.hid (HO1.out.below hb)
          clear HO1
          have HO1 := HO1'
          clear HO1'
          clear hb HBL
          have hp1 := HSL.out.2.1 (by omega)
          have hkl : ix < l.length := by rw [HLL.out]; exact hixl
          have HS3 := Lib.hid (HSL.out.below HB15.out)
          obtain ⟨u, hu⟩ : ∃ x, x = l[ix].1 := ⟨_, rfl⟩
          obtain ⟨v, hv⟩ : ∃ x, x = l[ix].2 := ⟨_, rfl⟩
          have d1 := (HS3.out.2.2.1 ix hkl).1
          have d2 := (HS3.out.2.2.1 ix hkl).2
          rw [← hu] at d1
          rw [← hv] at d2
          have hts := turn_same (l := l) (x := (u, v)) (by rw [show (u, v) = l[ix] from Prod.ext hu hv]; exact List.getElem_mem hkl)
          obtain ⟨T, hT⟩ : ∃ T, T = l.reverse ++ [(u, v)] := ⟨_, rfl⟩
          have HTL : Hid (T.length = len + 1) := by show _ = _; rw [hT]; simp; exact HLL.out
          have HTI : Hid (∀ s, s ∈ T → In64 s.1 ∧ In64 s.2) := fun s hs => by
            rw [hT] at hs
            rcases List.mem_append.1 hs with h | h
            · exact HSL.out.2.2.2.2.2 s (List.mem_reverse.1 h)
            · rw [List.mem_singleton.1 h, show (u, v) = l[ix] from Prod.ext hu hv]; exact HSL.out.2.2.2.2.2 _ (List.getElem_mem hkl)
          rw [← hT] at hts
          have HTS := Lib.hid hts
          have HT := Lib.hid hT
          have HBB2 : Hid (B ≤ w15.heap.size) := Nat.le_trans HBB.out HSZ.out
          have HRW : Hid (∀ (h : 0 < vL.length), some g15 ≠ u12.ownBlock) := fun h e => by have := HOL.out g15 e.symm; have := HF1.out h; omega
          clear hu hv hT hts
          subst hp1
          go_wp2_with (first | (at_builtin; refine list_app rfl _ _ rfl B u12 l.reverse rfl (HO1.out.alloc _) ⟨_, 0, none⟩ 1 1 [(u, v)] rfl rfl (From.new w15 u v _) (by rw [List.length_reverse, HLL.out]; omega) (by have := HBB2.out; simp; omega) ?_; intro v5 W5 own5 grow5; rw [← HT.out] at own5; have hA := (Below.refl w15.heap.size w15).alloc (Nat.le_refl _) (.cells #[.int .i64 u, .int .i64 v] 37); have hG : RowKit.Below B (w15.alloc (.cells #[.int .i64 u, .int .i64 v] 37)) W5 := (Below.refl _ _).grown grow5 (by have := HBB2.out; simp; omega) HO1.out.block; have HS5 := Lib.hid ((HS1.out.below hA).grown grow5 HRW.out); obtain ⟨q8, g8, c8, rfl, hs8⟩ := own5.reads (by rw [HTL.out]; omega) HTI.out; have HS8 := Lib.hid hs8; have HW5 := Lib.hid ((HB15.out.alloc HB15.out.size _).trans (hG.mono HWB.out)); clear own5 grow5 hA hG hs8) | fail)
          have RL1 := Lib.hid (HS5.out.rd (cap := c15))
          have knt := (Normal_any T q8 g8 0 c8 _ _ HS8.out (by rw [HTL.out]; omega)).mono fun _ _ h => out2_at h
          rw [HTS.out.1, HTS.out.2, ← HVL.out, ← HEL.out] at knt
          have KNT := Lib.hid knt
          clear knt
          clear HB15 HO1 HS1 HS5 HF1 HOL HSZ HBB2 HRW
          go_wp2_with fail
          refine KNT.out.mono ?_
          rintro _ w17 ⟨q17, g17, c17, rfl, hs, hb⟩
          have HB17 := Lib.hid (HW5.out.trans (hb.mono HW5.out.size))
          have RL1' := Lib.hid (RL1.out.below hb)
          clear RL1
          have RL1 := RL1'
          clear RL1'
          clear hb HW5
          have RL2 := Lib.hid (hs.rd (cap := c17))
          clear hs KNT HS8
          go_wp2_with fail
          refine (sameR true (decide_eq_true rfl) _ _ _ RL1.out RL2.out).mono ?_
          rintro _ w18 ⟨rfl, hb⟩
          have HB18 := Lib.hid (HB17.out.trans (hb.mono HB17.out.size))
          have RL1' := Lib.hid (RL1.out.below hb)
          clear RL1
          have RL1 := RL1'
          clear RL1'
          have RL2' := Lib.hid (RL2.out.below hb)
          clear RL2
          have RL2 := RL2'
          clear RL2'
          clear hb HB17
          clear RL1 RL2
          go_wp2_with fail
          refine (KA.out _ HB18.out).mono ?_
          rintro _ w19 ⟨rfl, hb⟩
          have HB19 := Lib.hid (HB18.out.trans (hb.mono HB18.out.size))
          clear hb HB18
          go_wp2_with fail
          refine (KB.out _ HB19.out).mono ?_
          rintro _ w20 ⟨rfl, hb⟩
          have HB20 := Lib.hid (HB19.out.trans (hb.mono HB19.out.size))
          clear hb HB19
          go_wp2
          go_ret
          exact ⟨by first | rfl | (simp; done), HB20.out⟩
        · skip
          have htz : tm < 0 := ht0
          have hixz : (ix : Int) < (len : Int) := by omega
          have hix0 : (0 : Int) ≤ (ix : Int) := by omega
          have HOL : Hid (∀ k, u12.ownBlock = some k → k < wr.heap.size) := HO1.out.lt
          go_wp2_with fail
          refine (KNL.out _ HBL.out).mono ?_
          rintro _ w15 ⟨q15, g15, c15, rfl, hs, hb, hf⟩
          have HF1 := Lib.hid hf
          have HS1 := Lib.hid hs
          have HSZ : Hid (wr.heap.size ≤ w15.heap.size) := hb.size
          clear hs hf
          have HB15 := Lib.hid (HBL.out.trans (hb.mono HBL.out.size))
          have HO1' := Lib.hid (HO1.out.below hb)
          clear HO1
          have HO1 := HO1'
          clear HO1'
          clear hb HBL
          have hp1 := HSL.out.2.1 (by omega)
          have hkl : ix < l.length := by rw [HLL.out]; exact hixl
          have HS3 := Lib.hid (HSL.out.below HB15.out)
          obtain ⟨u, hu⟩ : ∃ x, x = l[ix].1 := ⟨_, rfl⟩
          obtain ⟨v, hv⟩ : ∃ x, x = l[ix].2 := ⟨_, rfl⟩
          have d1 := (HS3.out.2.2.1 ix hkl).1
          have d2 := (HS3.out.2.2.1 ix hkl).2
          rw [← hu] at d1
          rw [← hv] at d2
          have hts := turn_same (l := l) (x := (u, v)) (by rw [show (u, v) = l[ix] from Prod.ext hu hv]; exact List.getElem_mem hkl)
          obtain ⟨T, hT⟩ : ∃ T, T = l.reverse ++ [(u, v)] := ⟨_, rfl⟩
          have HTL : Hid (T.length = len + 1) := by show _ = _; rw [hT]; simp; exact HLL.out
          have HTI : Hid (∀ s, s ∈ T → In64 s.1 ∧ In64 s.2) := fun s hs => by
            rw [hT] at hs
            rcases List.mem_append.1 hs with h | h
            · exact HSL.out.2.2.2.2.2 s (List.mem_reverse.1 h)
            · rw [List.mem_singleton.1 h, show (u, v) = l[ix] from Prod.ext hu hv]; exact HSL.out.2.2.2.2.2 _ (List.getElem_mem hkl)
          rw [← hT] at hts
          have HTS := Lib.hid hts
          have HT := Lib.hid hT
          have HBB2 : Hid (B ≤ w15.heap.size) := Nat.le_trans HBB.out HSZ.out
          have HRW : Hid (∀ (h : 0 < vL.length), some g15 ≠ u12.ownBlock) := fun h e => by have := HOL.out g15 e.symm; have := HF1.out h; omega
          clear hu hv hT hts
          subst hp1
          go_wp2_with (first | (at_builtin; refine list_app rfl _ _ rfl B u12 l.reverse rfl (HO1.out.alloc _) ⟨_, 0, none⟩ 1 1 [(u, v)] rfl rfl (From.new w15 u v _) (by rw [List.length_reverse, HLL.out]; omega) (by have := HBB2.out; simp; omega) ?_; intro v5 W5 own5 grow5; rw [← HT.out] at own5; have hA := (Below.refl w15.heap.size w15).alloc (Nat.le_refl _) (.cells #[.int .i64 u, .int .i64 v] 37); have hG : RowKit.Below B (w15.alloc (.cells #[.int .i64 u, .int .i64 v] 37)) W5 := (Below.refl _ _).grown grow5 (by have := HBB2.out; simp; omega) HO1.out.block; have HS5 := Lib.hid ((HS1.out.below hA).grown grow5 HRW.out); obtain ⟨q8, g8, c8, rfl, hs8⟩ := own5.reads (by rw [HTL.out]; omega) HTI.out; have HS8 := Lib.hid hs8; have HW5 := Lib.hid ((HB15.out.alloc HB15.out.size _).trans (hG.mono HWB.out)); clear own5 grow5 hA hG hs8) | fail)
          have RL1 := Lib.hid (HS5.out.rd (cap := c15))
          have knt := (Normal_any T q8 g8 0 c8 _ _ HS8.out (by rw [HTL.out]; omega)).mono fun _ _ h => out2_at h
          rw [HTS.out.1, HTS.out.2, ← HVL.out, ← HEL.out] at knt
          have KNT := Lib.hid knt
          clear knt
          clear HB15 HO1 HS1 HS5 HF1 HOL HSZ HBB2 HRW
          go_wp2_with fail
          refine KNT.out.mono ?_
          rintro _ w17 ⟨q17, g17, c17, rfl, hs, hb⟩
          have HB17 := Lib.hid (HW5.out.trans (hb.mono HW5.out.size))
          have RL1' := Lib.hid (RL1.out.below hb)
          clear RL1
          have RL1 := RL1'
          clear RL1'
          clear hb HW5
          have RL2 := Lib.hid (hs.rd (cap := c17))
          clear hs KNT HS8
          go_wp2_with fail
          refine (sameR true (decide_eq_true rfl) _ _ _ RL1.out RL2.out).mono ?_
          rintro _ w18 ⟨rfl, hb⟩
          have HB18 := Lib.hid (HB17.out.trans (hb.mono HB17.out.size))
          have RL1' := Lib.hid (RL1.out.below hb)
          clear RL1
          have RL1 := RL1'
          clear RL1'
          have RL2' := Lib.hid (RL2.out.below hb)
          clear RL2
          have RL2 := RL2'
          clear RL2'
          clear hb HB17
          clear RL1 RL2
          go_wp2_with fail
          refine (KA.out _ HB18.out).mono ?_
          rintro _ w19 ⟨rfl, hb⟩
          have HB19 := Lib.hid (HB18.out.trans (hb.mono HB18.out.size))
          clear hb HB18
          go_wp2_with fail
          refine (KB.out _ HB19.out).mono ?_
          rintro _ w20 ⟨rfl, hb⟩
          have HB20 := Lib.hid (HB19.out.trans (hb.mono HB19.out.size))
          clear hb HB19
          go_wp2
          go_ret
          exact ⟨by first | rfl | (simp; done), HB20.out⟩
  · have hl0z : ¬ (0 : Int) < (len : Int) := by omega
    have hlb : decide (0 < len) = false := decide_eq_false hl0
    have HB0 : Hid (RowKit.Below w.heap.size w w) := Below.refl _ _
    go_enter Try.func5, Try.ntmps5
    go_wp2_with fail
    refine (head_any _).mono ?_
    rintro _ w1 ⟨rfl, hb⟩
    have HB1 := Lib.hid (HB0.out.trans (hb.mono HB0.out.size))
    clear hb HB0
    go_wp2_with fail
    refine (KA.out _ HB1.out).mono ?_
    rintro _ w2 ⟨rfl, hb⟩
    have HB2 := Lib.hid (HB1.out.trans (hb.mono HB1.out.size))
    clear hb HB1
    go_wp2_with fail
    refine (KNA.out _ HB2.out).mono ?_
    rintro _ w3 ⟨q3, g3, c3, rfl, hs, hb⟩
    have HB3 := Lib.hid (HB2.out.trans (hb.mono HB2.out.size))
    clear hb HB2
    have RN1 := Lib.hid (hs.rd (cap := c3))
    clear hs
    go_wp2_with fail
    refine (sameR true (decide_eq_true rfl) _ _ _ RN1.out (HRA.out.below HB3.out)).mono ?_
    rintro _ w4 ⟨rfl, hb⟩
    have HB4 := Lib.hid (HB3.out.trans (hb.mono HB3.out.size))
    have RN1' := Lib.hid (RN1.out.below hb)
    clear RN1
    have RN1 := RN1'
    clear RN1'
    clear hb HB3
    clear RN1
    go_wp2_with fail
    refine (KA.out _ HB4.out).mono ?_
    rintro _ w5 ⟨rfl, hb⟩
    have HB5 := Lib.hid (HB4.out.trans (hb.mono HB4.out.size))
    clear hb HB4
    go_wp2_with fail
    refine (KB.out _ HB5.out).mono ?_
    rintro _ w6 ⟨rfl, hb⟩
    have HB6 := Lib.hid (HB5.out.trans (hb.mono HB5.out.size))
    clear hb HB5
    go_wp2
    go_ret
    exact ⟨by first | rfl | (simp; done), HB6.out⟩

set_option maxRecDepth 100000 in
set_option maxHeartbeats 8000000 in
theorem form_full (a : List (Int × Int)) (p : Option Addr) (bl off cap len1 : Nat) (b : List (Int × Int)) (p' : Option Addr) (bl' off' cap' len' : Nat) (l : List (Int × Int)) (pl : Option Addr) (bll offl capl len : Nat) (k : Int) (w : World) (hS : Sl w p bl off len1 a) (hS' : Sl w p' bl' off' len' b) (hL : Sl w pl bll offl len l) (_k0 : -9223372036854775808 ≤ k) (_k1 : k ≤ 9223372036854775807) (hbd : len ≤ 1048576) (hva : vl a = true) (hvb : vl b = true) :
    Calls Try.prog 5 #[.slice p len1 cap, .slice p' len' cap', .slice pl len capl, .int .i64 k] w fun e w' => e = .returned (.bool true) ∧ RowKit.Below w.heap.size w w' := by
  have HLL := Lib.hid hL.1
  have HSL := Lib.hid hL
  obtain ⟨vL, hvL⟩ : ∃ v, v = noV l := ⟨_, rfl⟩
  obtain ⟨eL, heL⟩ : ∃ v, v = noE l := ⟨_, rfl⟩
  have hee : (eL == eL) = true := by simp
  have KNL := Lib.hid (fun w' (h : RowKit.Below w.heap.size w w') => (show Calls Try.prog 12 #[.slice pl len capl] w' fun e w'' => ∃ q g c, e = .returned (.tuple #[.slice q vL.length c, .int .i64 eL]) ∧ Sl w'' q g 0 vL.length vL ∧ RowKit.Below w'.heap.size w' w'' ∧ (0 < vL.length → w'.heap.size ≤ g) by rw [hvL, heL]; exact (Normal_fresh l pl bll offl capl len w' (hL.below h) (by omega)).mono fun _ _ h => out2f_at h))
  have HVL := Lib.hid hvL
  have HEL := Lib.hid heL
  clear hvL heL
  have KA := Lib.hid (fun w' (h : RowKit.Below w.heap.size w w') => valid_b a p bl off cap len1 true hva w' (hS.below h))
  have KB := Lib.hid (fun w' (h : RowKit.Below w.heap.size w w') => valid_b b p' bl' off' cap' len' true hvb w' (hS'.below h))
  have HVA := Lib.hid (vl_iff.1 hva)
  have HRA := Lib.hid (hS.rd (cap := cap))
  have hna := noV_is (l := a) (sts_iff.2 (vl_iff.1 hva).2.1) (vl_iff.1 hva) (fun _ => rfl)
  have KNA := Lib.hid (fun w' (h : RowKit.Below w.heap.size w w') => (show Calls Try.prog 12 #[.slice p len1 cap] w' fun e w'' => ∃ q g c, e = .returned (.tuple #[.slice q a.length c, .int .i64 0]) ∧ Sl w'' q g 0 a.length a ∧ RowKit.Below w'.heap.size w' w'' by
    have K := Normal_any a p bl off cap len1 w' (hS.below h) (by have := (vl_iff.1 hva).1; have := hS.1; omega)
    rw [hna.1, hna.2] at K
    exact K.mono fun _ _ h => out2_at h))
  clear hna
  have HVB := Lib.hid (vl_iff.1 hvb)
  have HRB := Lib.hid (hS'.rd (cap := cap'))
  obtain ⟨X, hX⟩ : ∃ v, v = opV kW a b := ⟨_, rfl⟩
  obtain ⟨Y, hY⟩ : ∃ v, v = opV kW b a := ⟨_, rfl⟩
  obtain ⟨ex, hex⟩ : ∃ v, v = opE kW a b := ⟨_, rfl⟩
  obtain ⟨ey, hey⟩ : ∃ v, v = opE kW b a := ⟨_, rfl⟩
  have KX := Lib.hid (fun w' (h : RowKit.Below w.heap.size w w') => (show Calls Try.prog 19 #[.slice p len1 cap, .slice p' len' cap'] w' fun e w'' => ∃ q g c, e = .returned (.tuple #[.slice q X.length c, .int .i64 ex]) ∧ Sl w'' q g 0 X.length X ∧ RowKit.Below w'.heap.size w' w'' by rw [hX, hex]; exact (Without_any a b p p' bl off cap len1 bl' off' cap' len' w' (hS.below h) (hS'.below h)).mono fun _ _ h => out2_at h))
  have KY := Lib.hid (fun w' (h : RowKit.Below w.heap.size w w') => (show Calls Try.prog 19 #[.slice p' len' cap', .slice p len1 cap] w' fun e w'' => ∃ q g c, e = .returned (.tuple #[.slice q Y.length c, .int .i64 ey]) ∧ Sl w'' q g 0 Y.length Y ∧ RowKit.Below w'.heap.size w' w'' by rw [hY, hey]; exact (Without_any b a p' p bl' off' cap' len' bl off cap len1 w' (hS'.below h) (hS.below h)).mono fun _ _ h => out2_at h))
  have HX := Lib.hid hX
  have HY := Lib.hid hY
  have HEXC : Hid (ex = 0 ∨ ex = 2) := by show _ ∨ _; rw [hex]; rcases err_len opW (vl_iff.1 hva) (vl_iff.1 hvb) with h | ⟨h, _⟩; exact .inl h; exact .inr h
  have HEYC : Hid (ey = 0 ∨ ey = 2) := by show _ ∨ _; rw [hey]; rcases err_len opW (vl_iff.1 hvb) (vl_iff.1 hva) with h | ⟨h, _⟩; exact .inl h; exact .inr h
  have HFX : Hid (ex = 0 → ey = 0 → (a = b → X = []) ∧ (a = b → Y = []) ∧ (X = [] → Y = [] → a = b)) := fun h1 h2 => by
    rw [hX, hY]
    exact wo_nil HVA.out HVB.out (good_err opW HVA.out HVB.out (by rw [← hex]; exact h1)) (good_err opW HVB.out HVA.out (by rw [← hey]; exact h2))
  clear hX hY hex hey
  clear hS hS' hL hva hvb
  by_cases hl0 : 0 < len
  · have hl0z : (0 : Int) < (len : Int) := by omega
    have hlb : decide (0 < len) = true := decide_eq_true hl0
    have HB0 : Hid (RowKit.Below w.heap.size w w) := Below.refl _ _
    go_enter Try.func5, Try.ntmps5
    go_wp2_with fail
    refine (head_any _).mono ?_
    rintro _ w1 ⟨rfl, hb⟩
    have HB1 := Lib.hid (HB0.out.trans (hb.mono HB0.out.size))
    clear hb HB0
    go_wp2_with fail
    refine (KA.out _ HB1.out).mono ?_
    rintro _ w2 ⟨rfl, hb⟩
    have HB2 := Lib.hid (HB1.out.trans (hb.mono HB1.out.size))
    clear hb HB1
    go_wp2_with fail
    refine (KNA.out _ HB2.out).mono ?_
    rintro _ w3 ⟨q3, g3, c3, rfl, hs, hb⟩
    have HB3 := Lib.hid (HB2.out.trans (hb.mono HB2.out.size))
    clear hb HB2
    have RN1 := Lib.hid (hs.rd (cap := c3))
    clear hs
    go_wp2_with fail
    refine (sameR true (decide_eq_true rfl) _ _ _ RN1.out (HRA.out.below HB3.out)).mono ?_
    rintro _ w4 ⟨rfl, hb⟩
    have HB4 := Lib.hid (HB3.out.trans (hb.mono HB3.out.size))
    have RN1' := Lib.hid (RN1.out.below hb)
    clear RN1
    have RN1 := RN1'
    clear RN1'
    clear hb HB3
    clear RN1
    go_wp2_with fail
    obtain ⟨B, hBz⟩ : ∃ B, B = w4.heap.size := ⟨_, rfl⟩
    have HBz := Lib.hid hBz
    clear hBz
    go_loopg [12, 13] len (fun gg s12 s13 wr => ∃ (r : Nat), s13 = .int .i64 ((r : Int) - 1) ∧ r ≤ len ∧ r ≤ gg ∧ Hid (Own wr B s12 (l.drop r).reverse) ∧ Hid (RowKit.Below w4.heap.size w4 wr))
    case atStart => exact ⟨len, by first | rfl | (congr 1; omega), by omega, by omega, by rw [List.drop_of_length_le (by have := HLL.out; omega)]; exact Own.empty _ _, Below.refl _ _⟩
    case round =>
      obtain ⟨r, rfl, hr, hrg, HO, HBr⟩ := hrel
      by_cases hr0 : 0 < r
      · have hrz : (0 : Int) ≤ (r : Int) - 1 := by omega
        have hrl : (r : Int) - 1 < (len : Int) := by omega
        have hp1 := HSL.out.2.1 (by omega)
        have hkl : r - 1 < l.length := by rw [HLL.out]; omega
        have HS2 := Lib.hid ((HSL.out.below HB4.out).below HBr.out)
        obtain ⟨u, hu⟩ : ∃ x, x = (l[r - 1]'hkl).1 := ⟨_, rfl⟩
        obtain ⟨v, hv⟩ : ∃ x, x = (l[r - 1]'hkl).2 := ⟨_, rfl⟩
        have d1 := (HS2.out.2.2.1 (r - 1) hkl).1
        have d2 := (HS2.out.2.2.1 (r - 1) hkl).2
        rw [← hu] at d1
        rw [← hv] at d2
        have HT : Hid ((l.drop (r - 1)).reverse = (l.drop r).reverse ++ [(u, v)]) := by show _ = _; exact turn_step hr0 hkl (Prod.ext hu.symm hv.symm)
        have HDL : Hid ((l.drop r).reverse.length ≤ len) := by show _ ≤ _; rw [List.length_reverse, List.length_drop, HLL.out]; omega
        clear hu hv
        subst hp1
        go_wp2_with (first | (at_builtin; refine list_app rfl _ _ rfl B u12 (l.drop r).reverse rfl (HO.out.alloc _) ⟨_, 0, none⟩ 1 1 [(u, v)] rfl rfl (From.new wr u v _) (by have := HDL.out; omega) (by have := HBr.out.size; have := HBz.out; simp; omega) ?_; intro v5 W5 own5 grow5) | fail)
        have HO5 : Hid (Own W5 B v5 (l.drop (r - 1)).reverse) := by show Own _ _ _ _; rw [HT.out]; exact own5
        have HB5 : Hid (RowKit.Below w4.heap.size w4 W5) := (HBr.out.alloc HBr.out.size _).grown grow5 (by have := HBr.out.size; simp; omega) (fun k hk => by have := HO.out.block k hk; have := HBz.out; omega)
        clear own5 grow5
        go_wp2
        go_roundg (r - 1)
        case measure => omega
        case rel => exact ⟨r - 1, by first | rfl | (congr 1; omega), by omega, by omega, HO5, HB5⟩
      · have hrz : ¬ (0 : Int) ≤ (r : Int) - 1 := by omega
        have hlr : (l.drop r).reverse = l.reverse := by rw [show r = 0 by omega]; rfl
        have HO1 : Hid (Own wr B u12 l.reverse) := by show Own _ _ _ _; rw [← hlr]; exact HO.out
        have HBL := Lib.hid (HB4.out.trans (HBr.out.mono HB4.out.size))
        have HBB : Hid (B ≤ wr.heap.size) := by show _ ≤ _; have := HBr.out.size; have := HBz.out; omega
        have HWB : Hid (w.heap.size ≤ B) := by show _ ≤ _; have := HB4.out.size; have := HBz.out; omega
        obtain ⟨tm, htm⟩ : ∃ tm, k.tmod (len : Int) = tm := ⟨_, rfl⟩
        obtain ⟨ix, hixl, hix⟩ := place2 (by omega) htm
        clear hlr HO hrg hr0
        rcases hix with ⟨ht0, hti⟩ | ⟨ht0, hti⟩
        · skip
          subst hti
          have htz : ¬ (ix : Int) < 0 := by omega
          have hixz : (ix : Int) < (len : Int) := by omega
          have hix0 : (0 : Int) ≤ (ix : Int) := by omega
          have HOL : Hid (∀ k, u12.ownBlock = some k → k < wr.heap.size) := HO1.out.lt
          go_wp2_with fail
          refine (KNL.out _ HBL.out).mono ?_
          rintro _ w15 ⟨q15, g15, c15, rfl, hs, hb, hf⟩
          have HF1 := Lib.hid hf
          have HS1 := Lib.hid hs
          have HSZ : Hid (wr.heap.size ≤ w15.heap.size) := hb.size
          clear hs hf
          have HB15 := Lib.hid (HBL.out.trans (hb.mono HBL.out.size))
          have HO1' := Lib.hid (HO1.out.below hb)
          clear HO1
          have HO1 := HO1'
          clear HO1'
          clear hb HBL
          have hp1 := HSL.out.2.1 (by omega)
          have hkl : ix < l.length := by rw [HLL.out]; exact hixl
          have HS3 := Lib.hid (HSL.out.below HB15.out)
          obtain ⟨u, hu⟩ : ∃ x, x = l[ix].1 := ⟨_, rfl⟩
          obtain ⟨v, hv⟩ : ∃ x, x = l[ix].2 := ⟨_, rfl⟩
          have d1 := (HS3.out.2.2.1 ix hkl).1
          have d2 := (HS3.out.2.2.1 ix hkl).2
          rw [← hu] at d1
          rw [← hv] at d2
          have hts := turn_same (l := l) (x := (u, v)) (by rw [show (u, v) = l[ix] from Prod.ext hu hv]; exact List.getElem_mem hkl)
          obtain ⟨T, hT⟩ : ∃ T, T = l.reverse ++ [(u, v)] := ⟨_, rfl⟩
          have HTL : Hid (T.length = len + 1) := by show _ = _; rw [hT]; simp; exact HLL.out
          have HTI : Hid (∀ s, s ∈ T → In64 s.1 ∧ In64 s.2) := fun s hs => by
            rw [hT] at hs
            rcases List.mem_append.1 hs with h | h
            · exact HSL.out.2.2.2.2.2 s (List.mem_reverse.1 h)
            · rw [List.mem_singleton.1 h, show (u, v) = l[ix] from Prod.ext hu hv]; exact HSL.out.2.2.2.2.2 _ (List.getElem_mem hkl)
          rw [← hT] at hts
          have HTS := Lib.hid hts
          have HT := Lib.hid hT
          have HBB2 : Hid (B ≤ w15.heap.size) := Nat.le_trans HBB.out HSZ.out
          have HRW : Hid (∀ (h : 0 < vL.length), some g15 ≠ u12.ownBlock) := fun h e => by have := HOL.out g15 e.symm; have := HF1.out h; omega
          clear hu hv hT hts
          subst hp1
          go_wp2_with (first | (at_builtin; refine list_app rfl _ _ rfl B u12 l.reverse rfl (HO1.out.alloc _) ⟨_, 0, none⟩ 1 1 [(u, v)] rfl rfl (From.new w15 u v _) (by rw [List.length_reverse, HLL.out]; omega) (by have := HBB2.out; simp; omega) ?_; intro v5 W5 own5 grow5; rw [← HT.out] at own5; have hA := (Below.refl w15.heap.size w15).alloc (Nat.le_refl _) (.cells #[.int .i64 u, .int .i64 v] 37); have hG : RowKit.Below B (w15.alloc (.cells #[.int .i64 u, .int .i64 v] 37)) W5 := (Below.refl _ _).grown grow5 (by have := HBB2.out; simp; omega) HO1.out.block; have HS5 := Lib.hid ((HS1.out.below hA).grown grow5 HRW.out); obtain ⟨q8, g8, c8, rfl, hs8⟩ := own5.reads (by rw [HTL.out]; omega) HTI.out; have HS8 := Lib.hid hs8; have HW5 := Lib.hid ((HB15.out.alloc HB15.out.size _).trans (hG.mono HWB.out)); clear own5 grow5 hA hG hs8) | fail)
          have RL1 := Lib.hid (HS5.out.rd (cap := c15))
          have knt := (Normal_any T q8 g8 0 c8 _ _ HS8.out (by rw [HTL.out]; omega)).mono fun _ _ h => out2_at h
          rw [HTS.out.1, HTS.out.2, ← HVL.out, ← HEL.out] at knt
          have KNT := Lib.hid knt
          clear knt
          clear HB15 HO1 HS1 HS5 HF1 HOL HSZ HBB2 HRW
          go_wp2_with fail
          refine KNT.out.mono ?_
          rintro _ w17 ⟨q17, g17, c17, rfl, hs, hb⟩
          have HB17 := Lib.hid (HW5.out.trans (hb.mono HW5.out.size))
          have RL1' := Lib.hid (RL1.out.below hb)
          clear RL1
          have RL1 := RL1'
          clear RL1'
          clear hb HW5
          have RL2 := Lib.hid (hs.rd (cap := c17))
          clear hs KNT HS8
          go_wp2_with fail
          refine (sameR true (decide_eq_true rfl) _ _ _ RL1.out RL2.out).mono ?_
          rintro _ w18 ⟨rfl, hb⟩
          have HB18 := Lib.hid (HB17.out.trans (hb.mono HB17.out.size))
          have RL1' := Lib.hid (RL1.out.below hb)
          clear RL1
          have RL1 := RL1'
          clear RL1'
          have RL2' := Lib.hid (RL2.out.below hb)
          clear RL2
          have RL2 := RL2'
          clear RL2'
          clear hb HB17
          clear RL1 RL2
          go_wp2_with fail
          refine (KA.out _ HB18.out).mono ?_
          rintro _ w19 ⟨rfl, hb⟩
          have HB19 := Lib.hid (HB18.out.trans (hb.mono HB18.out.size))
          clear hb HB18
          go_wp2_with fail
          refine (KB.out _ HB19.out).mono ?_
          rintro _ w20 ⟨rfl, hb⟩
          have HB20 := Lib.hid (HB19.out.trans (hb.mono HB19.out.size))
          clear hb HB19
          go_wp2_with fail
          refine (KX.out _ HB20.out).mono ?_
          rintro _ w21 ⟨q21, g21, c21, rfl, hs, hb⟩
          have HB21 := Lib.hid (HB20.out.trans (hb.mono HB20.out.size))
          clear hb HB20
          have RX := Lib.hid (hs.rd (cap := c21))
          clear hs
          go_wp2_with fail
          refine (KY.out _ HB21.out).mono ?_
          rintro _ w22 ⟨q22, g22, c22, rfl, hs, hb⟩
          have HB22 := Lib.hid (HB21.out.trans (hb.mono HB21.out.size))
          have RX' := Lib.hid (RX.out.below hb)
          clear RX
          have RX := RX'
          clear RX'
          clear hb HB21
          have RY := Lib.hid (hs.rd (cap := c22))
          clear hs
          rcases HEXC.out with hex | hex
          · rcases HEYC.out with hey | hey
            · by_cases hab : a = b
              · have hx0 : X.length = 0 := by rw [HFX.out hex hey |>.1 hab]; rfl
                have hy0 : Y.length = 0 := by rw [HFX.out hex hey |>.2.1 hab]; rfl
                have hxz : ((X.length : Int) == 0) = true := by rw [hx0]; rfl
                have hyz : ((Y.length : Int) == 0) = true := by rw [hy0]; rfl
                have HSM : Hid (decide (a = b) = true) := decide_eq_true hab
                subst hex hey
                clear hab hx0 hy0 HFX HEXC HEYC HX HY
                go_wp2_with fail
                refine (sameR true HSM.out _ _ _ (HRA.out.below HB22.out) (HRB.out.below HB22.out)).mono ?_
                rintro _ w23 ⟨rfl, hb⟩
                have HB23 := Lib.hid (HB22.out.trans (hb.mono HB22.out.size))
                have RX' := Lib.hid (RX.out.below hb)
                clear RX
                have RX := RX'
                clear RX'
                have RY' := Lib.hid (RY.out.below hb)
                clear RY
                have RY := RY'
                clear RY'
                clear hb HB22
                go_wp2
                go_ret
                exact ⟨by first | rfl | (simp; done), HB23.out⟩
              · by_cases hx0 : X.length = 0
                · have hy0 : Y.length ≠ 0 := fun h => hab ((HFX.out hex hey).2.2 (List.length_eq_zero_iff.1 hx0) (List.length_eq_zero_iff.1 h))
                  have hxz : ((X.length : Int) == 0) = true := by rw [hx0]; rfl
                  have hyz : ((Y.length : Int) == 0) = false := by simp; intro h; exact hy0 (by rw [h]; rfl)
                  have HSM : Hid (decide (a = b) = false) := decide_eq_false hab
                  subst hex hey
                  clear hab hx0 hy0 HFX HEXC HEYC HX HY
                  go_wp2_with fail
                  refine (sameR false HSM.out _ _ _ (HRA.out.below HB22.out) (HRB.out.below HB22.out)).mono ?_
                  rintro _ w23 ⟨rfl, hb⟩
                  have HB23 := Lib.hid (HB22.out.trans (hb.mono HB22.out.size))
                  have RX' := Lib.hid (RX.out.below hb)
                  clear RX
                  have RX := RX'
                  clear RX'
                  have RY' := Lib.hid (RY.out.below hb)
                  clear RY
                  have RY := RY'
                  clear RY'
                  clear hb HB22
                  go_wp2
                  go_ret
                  exact ⟨by first | rfl | (simp; done), HB23.out⟩
                · have hxz : ((X.length : Int) == 0) = false := by simp; intro h; exact hx0 (by rw [h]; rfl)
                  have HSM : Hid (decide (a = b) = false) := decide_eq_false hab
                  subst hex hey
                  clear hab hx0 HFX HEXC HEYC HX HY
                  go_wp2_with fail
                  refine (sameR false HSM.out _ _ _ (HRA.out.below HB22.out) (HRB.out.below HB22.out)).mono ?_
                  rintro _ w23 ⟨rfl, hb⟩
                  have HB23 := Lib.hid (HB22.out.trans (hb.mono HB22.out.size))
                  have RX' := Lib.hid (RX.out.below hb)
                  clear RX
                  have RX := RX'
                  clear RX'
                  have RY' := Lib.hid (RY.out.below hb)
                  clear RY
                  have RY := RY'
                  clear RY'
                  clear hb HB22
                  go_wp2
                  go_ret
                  exact ⟨by first | rfl | (simp; done), HB23.out⟩
            · skip
              subst hex hey
              clear HFX HEXC HEYC HX HY
              go_wp2
              go_ret
              exact ⟨by first | rfl | (simp; done), HB22.out⟩
          · skip
            subst hex
            clear HFX HEXC HEYC HX HY
            go_wp2
            go_ret
            exact ⟨by first | rfl | (simp; done), HB22.out⟩
        · skip
          have htz : tm < 0 := ht0
          have hixz : (ix : Int) < (len : Int) := by omega
          have hix0 : (0 : Int) ≤ (ix : Int) := by omega
          have HOL : Hid (∀ k, u12.ownBlock = some k → k < wr.heap.size) := HO1.out.lt
          go_wp2_with fail
          refine (KNL.out _ HBL.out).mono ?_
          rintro _ w15 ⟨q15, g15, c15, rfl, hs, hb, hf⟩
          have HF1 := Lib.hid hf
          have HS1 := Lib.hid hs
          have HSZ : Hid (wr.heap.size ≤ w15.heap.size) := hb.size
          clear hs hf
          have HB15 := Lib.hid (HBL.out.trans (hb.mono HBL.out.size))
          have HO1' := Lib.hid (HO1.out.below hb)
          clear HO1
          have HO1 := HO1'
          clear HO1'
          clear hb HBL
          have hp1 := HSL.out.2.1 (by omega)
          have hkl : ix < l.length := by rw [HLL.out]; exact hixl
          have HS3 := Lib.hid (HSL.out.below HB15.out)
          obtain ⟨u, hu⟩ : ∃ x, x = l[ix].1 := ⟨_, rfl⟩
          obtain ⟨v, hv⟩ : ∃ x, x = l[ix].2 := ⟨_, rfl⟩
          have d1 := (HS3.out.2.2.1 ix hkl).1
          have d2 := (HS3.out.2.2.1 ix hkl).2
          rw [← hu] at d1
          rw [← hv] at d2
          have hts := turn_same (l := l) (x := (u, v)) (by rw [show (u, v) = l[ix] from Prod.ext hu hv]; exact List.getElem_mem hkl)
          obtain ⟨T, hT⟩ : ∃ T, T = l.reverse ++ [(u, v)] := ⟨_, rfl⟩
          have HTL : Hid (T.length = len + 1) := by show _ = _; rw [hT]; simp; exact HLL.out
          have HTI : Hid (∀ s, s ∈ T → In64 s.1 ∧ In64 s.2) := fun s hs => by
            rw [hT] at hs
            rcases List.mem_append.1 hs with h | h
            · exact HSL.out.2.2.2.2.2 s (List.mem_reverse.1 h)
            · rw [List.mem_singleton.1 h, show (u, v) = l[ix] from Prod.ext hu hv]; exact HSL.out.2.2.2.2.2 _ (List.getElem_mem hkl)
          rw [← hT] at hts
          have HTS := Lib.hid hts
          have HT := Lib.hid hT
          have HBB2 : Hid (B ≤ w15.heap.size) := Nat.le_trans HBB.out HSZ.out
          have HRW : Hid (∀ (h : 0 < vL.length), some g15 ≠ u12.ownBlock) := fun h e => by have := HOL.out g15 e.symm; have := HF1.out h; omega
          clear hu hv hT hts
          subst hp1
          go_wp2_with (first | (at_builtin; refine list_app rfl _ _ rfl B u12 l.reverse rfl (HO1.out.alloc _) ⟨_, 0, none⟩ 1 1 [(u, v)] rfl rfl (From.new w15 u v _) (by rw [List.length_reverse, HLL.out]; omega) (by have := HBB2.out; simp; omega) ?_; intro v5 W5 own5 grow5; rw [← HT.out] at own5; have hA := (Below.refl w15.heap.size w15).alloc (Nat.le_refl _) (.cells #[.int .i64 u, .int .i64 v] 37); have hG : RowKit.Below B (w15.alloc (.cells #[.int .i64 u, .int .i64 v] 37)) W5 := (Below.refl _ _).grown grow5 (by have := HBB2.out; simp; omega) HO1.out.block; have HS5 := Lib.hid ((HS1.out.below hA).grown grow5 HRW.out); obtain ⟨q8, g8, c8, rfl, hs8⟩ := own5.reads (by rw [HTL.out]; omega) HTI.out; have HS8 := Lib.hid hs8; have HW5 := Lib.hid ((HB15.out.alloc HB15.out.size _).trans (hG.mono HWB.out)); clear own5 grow5 hA hG hs8) | fail)
          have RL1 := Lib.hid (HS5.out.rd (cap := c15))
          have knt := (Normal_any T q8 g8 0 c8 _ _ HS8.out (by rw [HTL.out]; omega)).mono fun _ _ h => out2_at h
          rw [HTS.out.1, HTS.out.2, ← HVL.out, ← HEL.out] at knt
          have KNT := Lib.hid knt
          clear knt
          clear HB15 HO1 HS1 HS5 HF1 HOL HSZ HBB2 HRW
          go_wp2_with fail
          refine KNT.out.mono ?_
          rintro _ w17 ⟨q17, g17, c17, rfl, hs, hb⟩
          have HB17 := Lib.hid (HW5.out.trans (hb.mono HW5.out.size))
          have RL1' := Lib.hid (RL1.out.below hb)
          clear RL1
          have RL1 := RL1'
          clear RL1'
          clear hb HW5
          have RL2 := Lib.hid (hs.rd (cap := c17))
          clear hs KNT HS8
          go_wp2_with fail
          refine (sameR true (decide_eq_true rfl) _ _ _ RL1.out RL2.out).mono ?_
          rintro _ w18 ⟨rfl, hb⟩
          have HB18 := Lib.hid (HB17.out.trans (hb.mono HB17.out.size))
          have RL1' := Lib.hid (RL1.out.below hb)
          clear RL1
          have RL1 := RL1'
          clear RL1'
          have RL2' := Lib.hid (RL2.out.below hb)
          clear RL2
          have RL2 := RL2'
          clear RL2'
          clear hb HB17
          clear RL1 RL2
          go_wp2_with fail
          refine (KA.out _ HB18.out).mono ?_
          rintro _ w19 ⟨rfl, hb⟩
          have HB19 := Lib.hid (HB18.out.trans (hb.mono HB18.out.size))
          clear hb HB18
          go_wp2_with fail
          refine (KB.out _ HB19.out).mono ?_
          rintro _ w20 ⟨rfl, hb⟩
          have HB20 := Lib.hid (HB19.out.trans (hb.mono HB19.out.size))
          clear hb HB19
          go_wp2_with fail
          refine (KX.out _ HB20.out).mono ?_
          rintro _ w21 ⟨q21, g21, c21, rfl, hs, hb⟩
          have HB21 := Lib.hid (HB20.out.trans (hb.mono HB20.out.size))
          clear hb HB20
          have RX := Lib.hid (hs.rd (cap := c21))
          clear hs
          go_wp2_with fail
          refine (KY.out _ HB21.out).mono ?_
          rintro _ w22 ⟨q22, g22, c22, rfl, hs, hb⟩
          have HB22 := Lib.hid (HB21.out.trans (hb.mono HB21.out.size))
          have RX' := Lib.hid (RX.out.below hb)
          clear RX
          have RX := RX'
          clear RX'
          clear hb HB21
          have RY := Lib.hid (hs.rd (cap := c22))
          clear hs
          rcases HEXC.out with hex | hex
          · rcases HEYC.out with hey | hey
            · by_cases hab : a = b
              · have hx0 : X.length = 0 := by rw [HFX.out hex hey |>.1 hab]; rfl
                have hy0 : Y.length = 0 := by rw [HFX.out hex hey |>.2.1 hab]; rfl
                have hxz : ((X.length : Int) == 0) = true := by rw [hx0]; rfl
                have hyz : ((Y.length : Int) == 0) = true := by rw [hy0]; rfl
                have HSM : Hid (decide (a = b) = true) := decide_eq_true hab
                subst hex hey
                clear hab hx0 hy0 HFX HEXC HEYC HX HY
                go_wp2_with fail
                refine (sameR true HSM.out _ _ _ (HRA.out.below HB22.out) (HRB.out.below HB22.out)).mono ?_
                rintro _ w23 ⟨rfl, hb⟩
                have HB23 := Lib.hid (HB22.out.trans (hb.mono HB22.out.size))
                have RX' := Lib.hid (RX.out.below hb)
                clear RX
                have RX := RX'
                clear RX'
                have RY' := Lib.hid (RY.out.below hb)
                clear RY
                have RY := RY'
                clear RY'
                clear hb HB22
                go_wp2
                go_ret
                exact ⟨by first | rfl | (simp; done), HB23.out⟩
              · by_cases hx0 : X.length = 0
                · have hy0 : Y.length ≠ 0 := fun h => hab ((HFX.out hex hey).2.2 (List.length_eq_zero_iff.1 hx0) (List.length_eq_zero_iff.1 h))
                  have hxz : ((X.length : Int) == 0) = true := by rw [hx0]; rfl
                  have hyz : ((Y.length : Int) == 0) = false := by simp; intro h; exact hy0 (by rw [h]; rfl)
                  have HSM : Hid (decide (a = b) = false) := decide_eq_false hab
                  subst hex hey
                  clear hab hx0 hy0 HFX HEXC HEYC HX HY
                  go_wp2_with fail
                  refine (sameR false HSM.out _ _ _ (HRA.out.below HB22.out) (HRB.out.below HB22.out)).mono ?_
                  rintro _ w23 ⟨rfl, hb⟩
                  have HB23 := Lib.hid (HB22.out.trans (hb.mono HB22.out.size))
                  have RX' := Lib.hid (RX.out.below hb)
                  clear RX
                  have RX := RX'
                  clear RX'
                  have RY' := Lib.hid (RY.out.below hb)
                  clear RY
                  have RY := RY'
                  clear RY'
                  clear hb HB22
                  go_wp2
                  go_ret
                  exact ⟨by first | rfl | (simp; done), HB23.out⟩
                · have hxz : ((X.length : Int) == 0) = false := by simp; intro h; exact hx0 (by rw [h]; rfl)
                  have HSM : Hid (decide (a = b) = false) := decide_eq_false hab
                  subst hex hey
                  clear hab hx0 HFX HEXC HEYC HX HY
                  go_wp2_with fail
                  refine (sameR false HSM.out _ _ _ (HRA.out.below HB22.out) (HRB.out.below HB22.out)).mono ?_
                  rintro _ w23 ⟨rfl, hb⟩
                  have HB23 := Lib.hid (HB22.out.trans (hb.mono HB22.out.size))
                  have RX' := Lib.hid (RX.out.below hb)
                  clear RX
                  have RX := RX'
                  clear RX'
                  have RY' := Lib.hid (RY.out.below hb)
                  clear RY
                  have RY := RY'
                  clear RY'
                  clear hb HB22
                  go_wp2
                  go_ret
                  exact ⟨by first | rfl | (simp; done), HB23.out⟩
            · skip
              subst hex hey
              clear HFX HEXC HEYC HX HY
              go_wp2
              go_ret
              exact ⟨by first | rfl | (simp; done), HB22.out⟩
          · skip
            subst hex
            clear HFX HEXC HEYC HX HY
            go_wp2
            go_ret
            exact ⟨by first | rfl | (simp; done), HB22.out⟩
  · have hl0z : ¬ (0 : Int) < (len : Int) := by omega
    have hlb : decide (0 < len) = false := decide_eq_false hl0
    have HB0 : Hid (RowKit.Below w.heap.size w w) := Below.refl _ _
    go_enter Try.func5, Try.ntmps5
    go_wp2_with fail
    refine (head_any _).mono ?_
    rintro _ w1 ⟨rfl, hb⟩
    have HB1 := Lib.hid (HB0.out.trans (hb.mono HB0.out.size))
    clear hb HB0
    go_wp2_with fail
    refine (KA.out _ HB1.out).mono ?_
    rintro _ w2 ⟨rfl, hb⟩
    have HB2 := Lib.hid (HB1.out.trans (hb.mono HB1.out.size))
    clear hb HB1
    go_wp2_with fail
    refine (KNA.out _ HB2.out).mono ?_
    rintro _ w3 ⟨q3, g3, c3, rfl, hs, hb⟩
    have HB3 := Lib.hid (HB2.out.trans (hb.mono HB2.out.size))
    clear hb HB2
    have RN1 := Lib.hid (hs.rd (cap := c3))
    clear hs
    go_wp2_with fail
    refine (sameR true (decide_eq_true rfl) _ _ _ RN1.out (HRA.out.below HB3.out)).mono ?_
    rintro _ w4 ⟨rfl, hb⟩
    have HB4 := Lib.hid (HB3.out.trans (hb.mono HB3.out.size))
    have RN1' := Lib.hid (RN1.out.below hb)
    clear RN1
    have RN1 := RN1'
    clear RN1'
    clear hb HB3
    clear RN1
    go_wp2_with fail
    refine (KA.out _ HB4.out).mono ?_
    rintro _ w5 ⟨rfl, hb⟩
    have HB5 := Lib.hid (HB4.out.trans (hb.mono HB4.out.size))
    clear hb HB4
    go_wp2_with fail
    refine (KB.out _ HB5.out).mono ?_
    rintro _ w6 ⟨rfl, hb⟩
    have HB6 := Lib.hid (HB5.out.trans (hb.mono HB5.out.size))
    clear hb HB5
    go_wp2_with fail
    refine (KX.out _ HB6.out).mono ?_
    rintro _ w7 ⟨q7, g7, c7, rfl, hs, hb⟩
    have HB7 := Lib.hid (HB6.out.trans (hb.mono HB6.out.size))
    clear hb HB6
    have RX := Lib.hid (hs.rd (cap := c7))
    clear hs
    go_wp2_with fail
    refine (KY.out _ HB7.out).mono ?_
    rintro _ w8 ⟨q8, g8, c8, rfl, hs, hb⟩
    have HB8 := Lib.hid (HB7.out.trans (hb.mono HB7.out.size))
    have RX' := Lib.hid (RX.out.below hb)
    clear RX
    have RX := RX'
    clear RX'
    clear hb HB7
    have RY := Lib.hid (hs.rd (cap := c8))
    clear hs
    rcases HEXC.out with hex | hex
    · rcases HEYC.out with hey | hey
      · by_cases hab : a = b
        · have hx0 : X.length = 0 := by rw [HFX.out hex hey |>.1 hab]; rfl
          have hy0 : Y.length = 0 := by rw [HFX.out hex hey |>.2.1 hab]; rfl
          have hxz : ((X.length : Int) == 0) = true := by rw [hx0]; rfl
          have hyz : ((Y.length : Int) == 0) = true := by rw [hy0]; rfl
          have HSM : Hid (decide (a = b) = true) := decide_eq_true hab
          subst hex hey
          clear hab hx0 hy0 HFX HEXC HEYC HX HY
          go_wp2_with fail
          refine (sameR true HSM.out _ _ _ (HRA.out.below HB8.out) (HRB.out.below HB8.out)).mono ?_
          rintro _ w9 ⟨rfl, hb⟩
          have HB9 := Lib.hid (HB8.out.trans (hb.mono HB8.out.size))
          have RX' := Lib.hid (RX.out.below hb)
          clear RX
          have RX := RX'
          clear RX'
          have RY' := Lib.hid (RY.out.below hb)
          clear RY
          have RY := RY'
          clear RY'
          clear hb HB8
          go_wp2
          go_ret
          exact ⟨by first | rfl | (simp; done), HB9.out⟩
        · by_cases hx0 : X.length = 0
          · have hy0 : Y.length ≠ 0 := fun h => hab ((HFX.out hex hey).2.2 (List.length_eq_zero_iff.1 hx0) (List.length_eq_zero_iff.1 h))
            have hxz : ((X.length : Int) == 0) = true := by rw [hx0]; rfl
            have hyz : ((Y.length : Int) == 0) = false := by simp; intro h; exact hy0 (by rw [h]; rfl)
            have HSM : Hid (decide (a = b) = false) := decide_eq_false hab
            subst hex hey
            clear hab hx0 hy0 HFX HEXC HEYC HX HY
            go_wp2_with fail
            refine (sameR false HSM.out _ _ _ (HRA.out.below HB8.out) (HRB.out.below HB8.out)).mono ?_
            rintro _ w9 ⟨rfl, hb⟩
            have HB9 := Lib.hid (HB8.out.trans (hb.mono HB8.out.size))
            have RX' := Lib.hid (RX.out.below hb)
            clear RX
            have RX := RX'
            clear RX'
            have RY' := Lib.hid (RY.out.below hb)
            clear RY
            have RY := RY'
            clear RY'
            clear hb HB8
            go_wp2
            go_ret
            exact ⟨by first | rfl | (simp; done), HB9.out⟩
          · have hxz : ((X.length : Int) == 0) = false := by simp; intro h; exact hx0 (by rw [h]; rfl)
            have HSM : Hid (decide (a = b) = false) := decide_eq_false hab
            subst hex hey
            clear hab hx0 HFX HEXC HEYC HX HY
            go_wp2_with fail
            refine (sameR false HSM.out _ _ _ (HRA.out.below HB8.out) (HRB.out.below HB8.out)).mono ?_
            rintro _ w9 ⟨rfl, hb⟩
            have HB9 := Lib.hid (HB8.out.trans (hb.mono HB8.out.size))
            have RX' := Lib.hid (RX.out.below hb)
            clear RX
            have RX := RX'
            clear RX'
            have RY' := Lib.hid (RY.out.below hb)
            clear RY
            have RY := RY'
            clear RY'
            clear hb HB8
            go_wp2
            go_ret
            exact ⟨by first | rfl | (simp; done), HB9.out⟩
      · skip
        subst hex hey
        clear HFX HEXC HEYC HX HY
        go_wp2
        go_ret
        exact ⟨by first | rfl | (simp; done), HB8.out⟩
    · skip
      subst hex
      clear HFX HEXC HEYC HX HY
      go_wp2
      go_ret
      exact ⟨by first | rfl | (simp; done), HB8.out⟩

theorem form_law (a : List (Int × Int)) (p : Option Addr) (bl off cap len1 : Nat) (b : List (Int × Int)) (p' : Option Addr) (bl' off' cap' len' : Nat) (l : List (Int × Int)) (pl : Option Addr) (bll offl capl len : Nat) (k : Int) (w : World) (hS : Sl w p bl off len1 a) (hS' : Sl w p' bl' off' len' b) (hL : Sl w pl bll offl len l) (_k0 : -9223372036854775808 ≤ k) (_k1 : k ≤ 9223372036854775807) (hbd : len ≤ 1048576) :
    Calls Try.prog 5 #[.slice p len1 cap, .slice p' len' cap', .slice pl len capl, .int .i64 k] w fun e w' => e = .returned (.bool true) ∧ RowKit.Below w.heap.size w w' := by
  cases hva : vl a with
  | false => exact form_bad a p bl off cap len1 b p' bl' off' cap' len' l pl bll offl capl len k w hS hS' hL _k0 _k1 hbd hva
  | true =>
    cases hvb : vl b with
    | false => exact form_half a p bl off cap len1 b p' bl' off' cap' len' l pl bll offl capl len k w hS hS' hL _k0 _k1 hbd hva hvb
    | true => exact form_full a p bl off cap len1 b p' bl' off' cap' len' l pl bll offl capl len k w hS hS' hL _k0 _k1 hbd hva hvb
end Go.Proofs.Ytomcngnfdflkkaa
