/-
  The contract of tokens.
-/
import Derived.Test.YtoaeceeookknnaaDoorLOwn
namespace Go.Proofs.YtoaeceeookknnaaDoor
open Go.RowKit Lx

theorem Kept.own {b B : Nat} {w u v : World} (h : Kept b w u) (k : RowKit.Below B u v) (hB : w.heap.size ≤ B) : Kept b w v :=
  ⟨k.os.trans h.os, k.tape.trans h.tape, k.output.trans h.output, Nat.le_trans h.size k.size, fun j hj hn => (k.block j (by omega)).trans (h.block j hj hn)⟩
theorem lx_skip {V : Nat → Int × Int × Int} (f i : Nat) (l : List UInt8) : lx V f i l = lx V f (i + gp false l) (l.drop (gp false l)) := by
  have hle := gp_le l false
  by_cases h : gp false l = l.length
  · rw [lx_end h, lx_end (by rw [List.drop_eq_nil_of_le (by omega)]; rfl)]
  · obtain ⟨d, _⟩ := gp_drop l false (by omega)
    cases f with
    | zero => simp only [lx, d, Nat.add_zero, List.length_drop]; rw [if_neg h, if_neg (by omega)]
    | succ f => simp only [lx, d, Nat.add_zero, Nat.zero_add, List.length_drop, List.drop_drop]; rw [if_neg h, if_neg (by omega)]
/-- What tokens leaves. -/
def Left (b : Nat) (w0 : World) (R : Res) (e : Ending) (w' : World) : Prop :=
  match R with
  | .ok ts => ∃ v, e = .returned v ∧ OwnT w' w0.heap.size v ts ∧ Kept b w0 w'
  | .er E a => e = .panicked (failV E a) ∧ Kept b w0 w'
theorem Left.ok {b : Nat} {w0 : World} {R : Res} {w' : World} {v : Value} {ts : List Tok} (h : R = .ok ts) (h1 : OwnT w' w0.heap.size v ts) (h2 : Kept b w0 w') : Left b w0 R (.returned v) w' := by subst h; exact ⟨v, rfl, h1, h2⟩
theorem Left.er {b : Nat} {w0 : World} {R : Res} {w' : World} {E : Int} {a : Nat} (h : R = .er E a) (h2 : Kept b w0 w') : Left b w0 R (.panicked (failV E a)) w' := by subst h; exact ⟨rfl, h2⟩
/-- How things stand in the loop. -/
def Run (b : Nat) (w0 : World) (s : ByteArray) (R : Res) (v : Value) (wr : World) (f j : Nat) (pre : List Tok) : Prop :=
  Kept b w0 wr ∧ At2 wr b (.string s) (.int .i64 j) ∧ OwnT wr w0.heap.size v pre ∧ pre.length + f = 2000 ∧ j ≤ s.size ∧ gp false (s.data.toList.drop j) = 0 ∧ (lx Vh f j (s.data.toList.drop j)).app pre = R
theorem own_len {w : World} {base : Nat} {v : Value} {l : List Tok} (h : OwnT w base v l) : ∃ q cap, v = .slice q l.length cap := by
  obtain ⟨_, h⟩ := h
  rcases h with ⟨rfl, h0⟩ | ⟨g, cap, cur, rfl, _⟩
  · exact ⟨none, 0, by rw [h0]⟩
  · exact ⟨_, cap, rfl⟩
set_option maxRecDepth 100000 in
set_option maxHeartbeats 3000000 in
theorem tokens_any (s : ByteArray) (b : Nat) (w : World) (hA : At2 w b (.string s) (.int .i64 0)) (hs : s.size ≤ 281474976710656) :
    Calls Tryd.prog 21 #[.pointer (some ⟨b, 0, none⟩)] w fun e w' => Left b w (lex Vh s.data.toList) e w' := by
  have hb := hA.lt
  have HA := Lib.hid hA
  obtain ⟨c0, c1, f0, f1⟩ := hA
  obtain ⟨R, hR⟩ : ∃ R, R = lex Vh s.data.toList := ⟨_, rfl⟩
  rw [← hR]
  by_cases h8 : 8000 < s.size
  · have HR : Hid (R = .er 2 0) := by show _ = _; rw [hR]; unfold lex; rw [if_pos (by rw [len_bytes]; exact h8)]
    have d1 : decide ((8000 : Int) < (s.size : Int)) = true := decide_eq_true (by omega)
    clear hR
    go_enter Tryd.func21, Tryd.ntmps21
    go_wp2_with fail
    have KF := Lib.hid (fail_any s 2 0 b w HA.out)
    refine KF.out.mono ?_
    rintro _ _ ⟨rfl, rfl⟩
    go_wp2_with fail
    exact bodyPost_panic rfl (Left.er HR.out (Kept.refl _ _))
  · have d1 : decide ((8000 : Int) < (s.size : Int)) = false := decide_eq_false (by omega)
    have d2 : ¬ (8000 : Int) < (s.size : Int) := by omega
    have HR : Hid (lx Vh 2000 0 s.data.toList = R) := by show _ = _; rw [hR]; unfold lex; rw [if_neg (by rw [len_bytes]; exact h8)]
    clear hR
    go_enter Tryd.func21, Tryd.ntmps21
    go_wp2_with fail
    have KS := Lib.hid (skip_any s 0 b w HA.out (by omega) hs)
    refine KS.out.mono ?_
    rintro _ w1 ⟨rfl, k1, a1⟩
    have H1 : Hid (Run b w s R (.slice none 0 0) w1 2000 (0 + gp false (s.data.toList.drop 0)) []) := by
      have hle := gp_le s.data.toList false
      rw [len_bytes] at hle
      refine ⟨k1, a1, OwnT.empty _ _, rfl, by simpa using hle, ?_, ?_⟩
      · simp only [List.drop_zero, Nat.zero_add]
        by_cases h : gp false s.data.toList = s.data.toList.length
        · rw [List.drop_eq_nil_of_le (by omega)]; rfl
        · exact (gp_drop _ _ (by rw [len_bytes] at h ⊢; omega)).1
      · rw [app_nil]
        simp only [List.drop_zero, Nat.zero_add]
        rw [← HR.out, lx_skip 2000 0 s.data.toList, Nat.zero_add]
    clear k1 a1 KS HR HA c0 c1 f0 f1
    generalize 0 + gp false (s.data.toList.drop 0) = j0 at H1
    go_wp2_with fail
    go_loopg [3] 2000 (fun g v wr => ∃ (f j : Nat) (pre : List Tok), f ≤ g ∧ Hid (Run b w s R v wr f j pre))
    case atStart => exact ⟨2000, j0, [], by omega, H1⟩
    case round =>
      clear H1
      obtain ⟨f, j, pre, hfg, H⟩ := hrel
      obtain ⟨q, cap, hv⟩ := own_len H.out.2.2.1
      subst hv
      have c0 := H.out.2.1.c0
      have c1 := H.out.2.1.c1
      have hpl := H.out.2.2.2.1
      by_cases hj : j < s.size
      · have hjz : (j : Int) < (s.size : Int) := by omega
        have hjl : ¬ 0 = (s.data.toList.drop j).length := by rw [List.length_drop, len_bytes]; omega
        cases f with
        | zero =>
          have HE : Hid (R = .er 2 j) := by
            have := H.out.2.2.2.2.2.2
            simp only [lx, H.out.2.2.2.2.2.1] at this
            rw [if_neg hjl] at this
            exact this.symm
          have e1 : ((pre.length : Int) == 2000) = true := by simp; omega
          clear hjl
          go_wp2_with fail
          go_quiet (fail)
          go_wp2_with fail
          have KF := Lib.hid (fail_any s 2 j b _ (H.out.2.1.bel (below_drewN (Below.refl _ _) nq)))
          refine KF.out.mono ?_
          rintro _ _ ⟨rfl, rfl⟩
          go_wp2_with fail
          exact bodyPost_panic rfl (Left.er HE.out (H.out.1.bel (below_drewN (Below.refl _ _) nq)))
        | succ f =>
          have e1 : ((pre.length : Int) == 2000) = false := by simp; omega
          cases hn : nx Vh (s.data.toList.drop j) with
          | er E =>
            have HE : Hid (R = .er E j) := by
              have := H.out.2.2.2.2.2.2
              simp only [lx, H.out.2.2.2.2.2.1] at this
              rw [if_neg hjl, List.drop_zero, hn] at this
              exact this.symm
            have HN := Lib.hid hn
            clear hjl hn
            go_wp2_with fail
            go_quiet (fail)
            go_wp2_with fail
            have KF := Lib.hid (token_er s j b _ (H.out.2.1.bel (below_drewN (Below.refl _ _) nq)) hj hs _ rfl E HN.out)
            refine KF.out.mono ?_
            rintro _ w2 ⟨rfl, k2⟩
            go_wp2_with fail
            exact bodyPost_panic rfl (Left.er HE.out ((H.out.1.bel (below_drewN (Below.refl _ _) nq)).trans k2))
          | ok t n =>
            have HE : Hid (((lx Vh f (j + n) (s.data.toList.drop (j + n))).app [mov (j : Nat) t]).app pre = R) := by
              have := H.out.2.2.2.2.2.2
              simp only [lx, H.out.2.2.2.2.2.1] at this
              rw [if_neg hjl, List.drop_zero, hn] at this
              simp only [Nat.zero_add, Nat.add_zero, List.drop_drop] at this
              exact this
            have HN := Lib.hid hn
            have hjn : j + n ≤ s.size := by have := (nx_pos hn).2.1; rw [List.length_drop, len_bytes] at this; omega
            clear hjl hn
            go_wp2_with fail
            go_quiet (fail)
            go_wp2_with fail
            have KT := Lib.hid (token_ok s j b _ (H.out.2.1.bel (below_drewN (Below.refl _ _) nq)) hj hs _ rfl t n HN.out)
            refine KT.out.mono ?_
            rintro _ w2 ⟨rfl, k2, a2⟩
            have K2 := Lib.hid ((H.out.1.bel (below_drewN (Below.refl _ _) nq)).trans k2)
            have A2 := Lib.hid a2
            have O2 := Lib.hid ((H.out.2.2.1.below (below_drewN (Below.refl _ _) nq)).kept k2 hb)
            clear k2 a2 KT
            generalize mov (j : Int) t = tt at HE ⊢
            unfold tokV
            have hw := K2.out.size
            go_wp2_with (refine list_appT (by rfl) (.tmp 31) (.tmp 34) (by rfl) w.heap.size (.slice q pre.length cap) pre (by rfl) (O2.out.alloc _) w2.heap.size 1 tt (by rfl) (OneT.new w2 tt _) (by omega) (by simp; omega) ?_; intro v3 w3 h3 g3)
            have B3 := Lib.hid (((Below.refl w.heap.size w2).alloc hw _).trans ((O2.out.alloc _).grown g3 (by simp; omega)))
            have K3 := Lib.hid (K2.out.own B3.out (Nat.le_refl _))
            have A3 := Lib.hid (A2.out.below B3.out hb)
            have O3 := Lib.hid h3
            clear h3 g3 B3 K2 A2 O2 c0 c1
            have KS := Lib.hid (skip_any s (j + n) b w3 A3.out hjn hs)
            refine KS.out.mono ?_
            rintro _ w4 ⟨rfl, k4, a4⟩
            have H4 : Hid (Run b w s R v3 w4 f (j + n + gp false (s.data.toList.drop (j + n))) (pre ++ [tt])) := by
              have hle := gp_le (s.data.toList.drop (j + n)) false
              rw [List.length_drop, len_bytes] at hle
              have hd : s.data.toList.drop (j + n + gp false (s.data.toList.drop (j + n))) = (s.data.toList.drop (j + n)).drop (gp false (s.data.toList.drop (j + n))) := (List.drop_drop).symm
              refine ⟨K3.out.trans k4, a4, O3.out.kept k4 hb, by rw [List.length_append, List.length_singleton]; omega, by omega, ?_, ?_⟩
              · rw [hd]
                by_cases h : gp false (s.data.toList.drop (j + n)) = (s.data.toList.drop (j + n)).length
                · rw [List.drop_eq_nil_of_le (by omega)]; rfl
                · exact (gp_drop _ _ (by rw [List.length_drop, len_bytes] at h ⊢; omega)).1
              · rw [hd, ← lx_skip, ← app_app]; exact HE.out
            clear k4 a4 K3 A3 O3 KS HE
            go_wp2_with fail
            go_roundg f
            case measure => omega
            case rel => exact ⟨f, _, _, Nat.le_refl _, H4⟩
      · have hjz : ¬ (j : Int) < (s.size : Int) := by omega
        have HE : Hid (R = .ok pre) := by
          have := H.out.2.2.2.2.2.2
          rw [List.drop_eq_nil_of_le (by rw [len_bytes]; omega), lx_end rfl] at this
          simp only [Res.app, List.append_nil] at this
          exact this.symm
        go_wp2_with fail
        go_quiet (fail)
        go_wp2_with fail
        go_ret
        exact Left.ok HE.out (H.out.2.2.1.below (below_drewN (Below.refl _ _) _)) (H.out.1.bel (below_drewN (Below.refl _ _) _))
end Go.Proofs.YtoaeceeookknnaaDoor
