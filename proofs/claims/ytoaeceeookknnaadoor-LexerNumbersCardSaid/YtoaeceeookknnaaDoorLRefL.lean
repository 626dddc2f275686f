/-
  The contract of the reference's Lex.
-/
import Derived.Test.YtoaeceeookknnaaDoorLNext
namespace Go.Proofs.YtoaeceeookknnaaDoor
open Go.RowKit Lx

def zTok : Value := .agg #[.int .i64 0, .int .i64 0, .string ⟨#[]⟩, .int .i64 0, .int .i64 0]
theorem valR_er {x : List UInt8} (h : (valR x).2.2 ≠ 0) : (frm x = false ∧ (valR x).2.2 = 8) ∨ (frm x = true ∧ (Vh (hun x)).2.2 ≠ 0 ∧ (valR x).2.2 = 3) := by
  unfold valR at h ⊢
  cases hf : frm x with
  | false => left; exact ⟨rfl, by simp⟩
  | true =>
    right
    rw [hf, if_pos rfl] at h
    refine ⟨rfl, h, ?_⟩
    rw [if_pos rfl]
    exact (mk_err (n := (hun x : Int)) (d := 100) (by decide) (show mk _ _ = ((Vh (hun x)).1, (Vh (hun x)).2.1, (Vh (hun x)).2.2) from rfl) h).2.2
theorem next_ok (s : ByteArray) (i : Nat) (w : World) (l : List UInt8) (hl : s.data.toList.drop i = l) (hi : i < s.size) (hs : s.size ≤ 8000) (t : Tok) (n : Nat) (hn : nx Vh l = .ok t n) :
    Calls Tryd.prog 22 #[.string s, .int .i64 i] w fun e w' => e = .returned (.tuple #[tokV (mov i t), .int .i64 (n : Nat), .int .i64 0]) ∧ RowKit.Below w.heap.size w w' := by
  obtain ⟨c, r, hcr, hc⟩ := token_kind hi hl
  rw [hcr] at hn
  simp only [nx] at hn
  by_cases h1 : ltr c = true
  · rw [if_pos h1] at hn
    have hd : dgt c = false := (ltr_not c h1).2.2.1
    split at hn
    · cases hn
    · rename_i h16
      injection hn with e1 e2
      subst e1 e2
      rw [← hcr] at h16 ⊢
      have : mov i ⟨1, 0, l.takeWhile wrd, 0, 0⟩ = ⟨1, i, l.takeWhile wrd, 0, 0⟩ := by unfold mov; simp
      rw [this]
      exact next_word_ok s i w l hl hi hs (by rw [hc]; exact hd) (by rw [hc]; exact h1) (l.takeWhile wrd) rfl (by omega)
  · rw [if_neg h1] at hn
    have h1' : ltr c = false := by simpa using h1
    by_cases h2 : dgt c = true
    · rw [if_pos h2] at hn
      split at hn
      · rename_i hf
        split at hn
        · rename_i hv
          injection hn with e1 e2
          subst e1 e2
          rw [← hcr] at hf hv ⊢
          have : ∀ n d, mov i ⟨2, 0, [], n, d⟩ = ⟨2, i, [], n, d⟩ := by intro n d; unfold mov; simp
          rw [this]
          exact next_num_ok s i w l hl hi hs (by rw [hc]; exact h2) _ rfl _ _ (by unfold valR; rw [if_pos hf, ← hv])
        · cases hn
      · cases hn
    · rw [if_neg h2] at hn
      have h2' : dgt c = false := by simpa using h2
      split at hn
      · cases hn
      · rename_i h0
        injection hn with e1 e2
        subst e1 e2
        rw [← hcr] at h0 ⊢
        have : mov i ⟨3, 0, l.take (sgn l), 0, 0⟩ = ⟨3, i, l.take (sgn l), 0, 0⟩ := by unfold mov; simp
        rw [this]
        exact next_sign_ok s i w l hl hi hs (by rw [hc]; exact h2') (by rw [hc]; exact h1') _ rfl (by omega)
theorem next_er (s : ByteArray) (i : Nat) (w : World) (l : List UInt8) (hl : s.data.toList.drop i = l) (hi : i < s.size) (hs : s.size ≤ 8000) (E : Int) (hn : nx Vh l = .er E) :
    Calls Tryd.prog 22 #[.string s, .int .i64 i] w fun e w' => e = .returned (.tuple #[zTok, .int .i64 0, .int .i64 E]) ∧ RowKit.Below w.heap.size w w' := by
  obtain ⟨c, r, hcr, hc⟩ := token_kind hi hl
  rw [hcr] at hn
  simp only [nx] at hn
  by_cases h1 : ltr c = true
  · rw [if_pos h1] at hn
    have hd : dgt c = false := (ltr_not c h1).2.2.1
    split at hn
    · rename_i h16
      injection hn with e1
      subst e1
      rw [← hcr] at h16
      exact next_word_er s i w l hl hi hs (by rw [hc]; exact hd) (by rw [hc]; exact h1) _ rfl h16
    · cases hn
  · rw [if_neg h1] at hn
    have h1' : ltr c = false := by simpa using h1
    by_cases h2 : dgt c = true
    · rw [if_pos h2] at hn
      have hE : (valR (l.takeWhile nmb)).2.2 = E ∧ E ≠ 0 := by
        rw [← hcr] at hn
        split at hn
        · rename_i hf
          split at hn
          · cases hn
          · rename_i hv
            injection hn with e1
            have hq : (valR (l.takeWhile nmb)).2.2 ≠ 0 := by unfold valR; rw [if_pos hf]; exact hv
            rcases valR_er hq with ⟨h, _⟩ | ⟨_, _, h⟩
            · rw [hf] at h; cases h
            · rw [h, ← e1]; decide
        · rename_i hf
          injection hn with e1
          have : valR (l.takeWhile nmb) = (0, 0, 8) := by unfold valR; rw [if_neg hf]
          rw [this, ← e1]; decide
      exact next_num_er s i w l hl hi hs (by rw [hc]; exact h2) _ rfl _ _ E (by rw [← hE.1]) hE.2
    · rw [if_neg h2] at hn
      have h2' : dgt c = false := by simpa using h2
      split at hn
      · rename_i h0
        injection hn with e1
        subst e1
        rw [← hcr] at h0
        exact next_sign_er s i w l hl hi hs (by rw [hc]; exact h2') (by rw [hc]; exact h1') _ rfl h0
      · cases hn
theorem nx_e0 {l : List UInt8} {E : Int} (h : nx Vh l = .er E) (hl : l ≠ []) : E ≠ 0 := by
  cases l with
  | nil => exact absurd rfl hl
  | cons c l =>
    simp only [nx] at h
    repeat' (split at h)
    all_goals first | (cases h; done) | (injection h with h; rw [← h]; decide)
/-- How things stand in the loop. -/
def RunR (w0 : World) (s : ByteArray) (R : Res) (v : Value) (wr : World) (f j : Nat) (pre : List Tok) : Prop :=
  RowKit.Below w0.heap.size w0 wr ∧ OwnT wr w0.heap.size v pre ∧ pre.length + f = 2000 ∧ j ≤ s.size ∧ gp false (s.data.toList.drop j) = 0 ∧ (lx Vh f j (s.data.toList.drop j)).app pre = R
theorem Gives.ok {w w' : World} {R : Res} {v : Value} {ts : List Tok} {base : Nat} (h : R = .ok ts) (ho : OwnT w' base v ts) (hm : ts.length ≤ 1000000) (hB : RowKit.Below w.heap.size w w') : ∀ e, e = .returned (.tuple #[v, .int .i64 0, .int .i64 0]) → Gives w R e w' := by
  subst h
  rintro _ rfl
  obtain ⟨q, b, cap, n, rfl, h1, h2, _⟩ := OwnT.reads ho hm
  exact ⟨q, b, cap, n, rfl, h1, h2, hB⟩
theorem Gives.er {w w' : World} {R : Res} {E : Int} {a : Nat} (h : R = .er E a) (hB : RowKit.Below w.heap.size w w') : Gives w R (.returned (.tuple #[.slice none 0 0, .int .i64 E, .int .i64 (a : Nat)])) w' := by
  subst h
  exact ⟨none, 0, 0, 0, rfl, SlT.nil _ _, Nat.le_refl _, hB⟩
set_option maxRecDepth 100000 in
set_option maxHeartbeats 3000000 in
theorem rlex_any (s : ByteArray) (w : World) (hs : s.size ≤ 281474976710656) : Calls Tryd.prog 12 #[.string s] w fun e w' => Gives w (lex Vh s.data.toList) e w' := by
  obtain ⟨R, hR⟩ : ∃ R, R = lex Vh s.data.toList := ⟨_, rfl⟩
  rw [← hR]
  by_cases h8 : 8000 < s.size
  · have HR : Hid (R = .er 2 0) := by show _ = _; rw [hR]; unfold lex; rw [if_pos (by rw [len_bytes]; exact h8)]
    have d1 : decide ((8000 : Int) < (s.size : Int)) = true := decide_eq_true (by omega)
    clear hR
    go_enter Tryd.func12, Tryd.ntmps12
    go_wp2_with fail
    go_ret3
    exact Gives.er HR.out (Below.refl _ _)
  · have d1 : decide ((8000 : Int) < (s.size : Int)) = false := decide_eq_false (by omega)
    have d2 : ¬ (8000 : Int) < (s.size : Int) := by omega
    have HR : Hid (lx Vh 2000 0 s.data.toList = R) := by show _ = _; rw [hR]; unfold lex; rw [if_neg (by rw [len_bytes]; exact h8)]
    have h8' : s.size ≤ 8000 := by omega
    clear hR
    go_enter Tryd.func12, Tryd.ntmps12
    go_wp2_with fail
    have KS := Lib.hid (rSkip_any s 0 w (by omega) hs)
    refine KS.out.mono ?_
    rintro _ _ ⟨rfl, rfl⟩
    rename World => w0
    have H1 : Hid (RunR w0 s R (.slice none 0 0) w0 2000 (0 + gp false (s.data.toList.drop 0)) []) := by
      have hle := gp_le s.data.toList false
      rw [len_bytes] at hle
      refine ⟨Below.refl _ _, OwnT.empty _ _, rfl, by simpa using hle, ?_, ?_⟩
      · simp only [List.drop_zero, Nat.zero_add]
        by_cases h : gp false s.data.toList = s.data.toList.length
        · rw [List.drop_eq_nil_of_le (by omega)]; rfl
        · exact (gp_drop _ _ (by rw [len_bytes] at h ⊢; omega)).1
      · rw [app_nil]
        simp only [List.drop_zero, Nat.zero_add]
        rw [← HR.out, lx_skip 2000 0 s.data.toList, Nat.zero_add]
    clear KS HR
    generalize 0 + gp false (s.data.toList.drop 0) = j0 at H1
    go_wp2_with fail
    go_loopg [5, 6] 2000 (fun g v s6 wr => ∃ (f j : Nat) (pre : List Tok), s6 = .int .i64 j ∧ f ≤ g ∧ Hid (RunR w0 s R v wr f j pre))
    case atStart => exact ⟨2000, j0, [], rfl, by omega, H1⟩
    case round =>
      clear H1
      obtain ⟨f, j, pre, rfl, hfg, H⟩ := hrel
      obtain ⟨q, cap, hv⟩ := own_len H.out.2.1
      subst hv
      have hpl := H.out.2.2.1
      by_cases hj : j < s.size
      · have hjz : (j : Int) < (s.size : Int) := by omega
        have hjl : ¬ 0 = (s.data.toList.drop j).length := by rw [List.length_drop, len_bytes]; omega
        cases f with
        | zero =>
          have HE : Hid (R = .er 2 j) := by
            have := H.out.2.2.2.2.2
            simp only [lx, H.out.2.2.2.2.1] at this
            rw [if_neg hjl] at this
            exact this.symm
          have e1 : ((pre.length : Int) == 2000) = true := by simp; omega
          clear hjl
          go_wp2_with fail
          go_ret3
          exact Gives.er HE.out H.out.1
        | succ f =>
          have e1 : ((pre.length : Int) == 2000) = false := by simp; omega
          cases hn : nx Vh (s.data.toList.drop j) with
          | er E =>
            have HE : Hid (R = .er E j) := by
              have := H.out.2.2.2.2.2
              simp only [lx, H.out.2.2.2.2.1] at this
              rw [if_neg hjl, List.drop_zero, hn] at this
              exact this.symm
            have HN := Lib.hid hn
            have hE0 : E ≠ 0 := nx_e0 hn (by intro e; rw [e] at hjl; exact hjl rfl)
            have hE1 : (E != 0) = true := by simpa using hE0
            clear hjl hn hE0
            go_wp2_with fail
            have KF := Lib.hid (next_er s j wr _ rfl hj h8' E HN.out)
            unfold zTok at KF
            refine KF.out.mono ?_
            rintro _ w2 ⟨rfl, k2⟩
            have B2 := Lib.hid (H.out.1.trans (k2.mono H.out.1.size))
            have hz := B2.out.size
            clear k2 KF
            go_wp2_with fail
            go_ret3
            exact Gives.er HE.out (by repeat' (first | exact B2.out | refine Below.alloc ?_ (by first | exact hz | (simp; omega)) _))
          | ok t n =>
            have HE : Hid (((lx Vh f (j + n) (s.data.toList.drop (j + n))).app [mov (j : Nat) t]).app pre = R) := by
              have := H.out.2.2.2.2.2
              simp only [lx, H.out.2.2.2.2.1] at this
              rw [if_neg hjl, List.drop_zero, hn] at this
              simp only [Nat.zero_add, Nat.add_zero, List.drop_drop] at this
              exact this
            have HN := Lib.hid hn
            have hjn : j + n ≤ s.size := by have := (nx_pos hn).2.1; rw [List.length_drop, len_bytes] at this; omega
            clear hjl hn
            go_wp2_with fail
            have KT := Lib.hid (next_ok s j wr _ rfl hj h8' t n HN.out)
            refine KT.out.mono ?_
            rintro _ w2 ⟨rfl, k2⟩
            have B2 := Lib.hid (H.out.1.trans (k2.mono H.out.1.size))
            have O2 := Lib.hid (H.out.2.1.below k2)
            clear k2 KT
            generalize mov (j : Int) t = tt at HE ⊢
            unfold tokV
            have hw := B2.out.size
            have hone : OneT ((w2.alloc (.cells #[.int .i64 tt.k, .int .i64 tt.a, .string (bs tt.t), .int .i64 tt.n, .int .i64 tt.d] 32)).alloc (.cells #[.int .i64 tt.k, .int .i64 tt.a, .string (bs tt.t), .int .i64 tt.n, .int .i64 tt.d] 32)) (w2.heap.size + 1) tt := by
              have h := OneT.new (w2.alloc (.cells #[.int .i64 tt.k, .int .i64 tt.a, .string (bs tt.t), .int .i64 tt.n, .int .i64 tt.d] 32)) tt 32
              rwa [World.size_alloc] at h
            have HONE := Lib.hid hone
            clear hone
            go_wp2_with (refine list_appT (by rfl) (.tmp 34) (.tmp 36) (by rfl) w0.heap.size (.slice q pre.length cap) pre (by rfl) ((O2.out.alloc _).alloc _) (w2.heap.size + 1) 1 tt (by rfl) HONE.out (by omega) (by simp; omega) ?_; intro v3 w3 h3 g3)
            have B3 := Lib.hid (((B2.out.alloc hw _).alloc (by simp; omega) _).trans (((O2.out.alloc _).alloc _).grown g3 (by simp; omega)))
            have O3 := Lib.hid h3
            clear h3 g3 B2 O2 HONE
            have KS : Hid (Calls Tryd.prog 15 #[.string s, .int .i64 ((j : Int) + (n : Int))] w3 fun e w' => e = .returned (.int .i64 (j + n + gp false (s.data.toList.drop (j + n)) : Nat)) ∧ w' = w3) := by
              have h := rSkip_any s (j + n) w3 hjn hs
              rw [show (j : Int) + (n : Int) = ((j + n : Nat) : Int) by omega]
              exact h
            refine KS.out.mono ?_
            rintro _ w4 ⟨rfl, hw4⟩
            have H4 : Hid (RunR w0 s R v3 w4 f (j + n + gp false (s.data.toList.drop (j + n))) (pre ++ [tt])) := by
              have hle := gp_le (s.data.toList.drop (j + n)) false
              rw [List.length_drop, len_bytes] at hle
              have hd : s.data.toList.drop (j + n + gp false (s.data.toList.drop (j + n))) = (s.data.toList.drop (j + n)).drop (gp false (s.data.toList.drop (j + n))) := (List.drop_drop).symm
              rw [hw4]
              refine ⟨B3.out, O3.out, by rw [List.length_append, List.length_singleton]; omega, by omega, ?_, ?_⟩
              · rw [hd]
                by_cases h : gp false (s.data.toList.drop (j + n)) = (s.data.toList.drop (j + n)).length
                · rw [List.drop_eq_nil_of_le (by omega)]; rfl
                · exact (gp_drop _ _ (by rw [List.length_drop, len_bytes] at h ⊢; omega)).1
              · rw [hd, ← lx_skip, ← app_app]; exact HE.out
            clear B3 O3 KS HE hw4
            go_wp2_with fail
            go_roundg f
            case measure => omega
            case rel => exact ⟨f, _, _, rfl, Nat.le_refl _, H4⟩
      · have hjz : ¬ (j : Int) < (s.size : Int) := by omega
        have HE : Hid (R = .ok pre) := by
          have := H.out.2.2.2.2.2
          rw [List.drop_eq_nil_of_le (by rw [len_bytes]; omega), lx_end rfl] at this
          simp only [Res.app, List.append_nil] at this
          exact this.symm
        go_wp2_with fail
        go_ret3
        exact Gives.ok HE.out H.out.2.1 (by omega) H.out.1 _ rfl
end Go.Proofs.YtoaeceeookknnaaDoor
