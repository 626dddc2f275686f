/-
  The contract of token.
-/
import Derived.Test.YtoaeceeookknnaaDoorLTok2
namespace Go.Proofs.YtoaeceeookknnaaDoor
open Go.RowKit Lx

set_option maxRecDepth 100000 in
set_option maxHeartbeats 1600000 in
theorem token_ret (s : ByteArray) (i b : Nat) (w : World) (hA : At2 w b (.string s) (.int .i64 i)) (hi : i < s.size) (F : FuncId)
    (hF : (ltr s[i] = true ∧ F = 38) ∨ (ltr s[i] = false ∧ dgt s[i] = true ∧ F = 40) ∨ (ltr s[i] = false ∧ dgt s[i] = false ∧ F = 36)) (v0 v1 v3 v4 : Int) (v2 : ByteArray) (j : Nat)
    (hK : ∀ w1, At2 w1 b (.string s) (.int .i64 i) → Calls Tryd.prog F #[.pointer (some ⟨b, 0, none⟩)] w1 fun e w' => e = .returned (.agg #[.int .i64 v0, .int .i64 v1, .string v2, .int .i64 v3, .int .i64 v4]) ∧ Kept b w1 w' ∧ At2 w' b (.string s) (.int .i64 (j : Nat))) :
    Calls Tryd.prog 28 #[.pointer (some ⟨b, 0, none⟩)] w fun e w' => e = .returned (.agg #[.int .i64 v0, .int .i64 v1, .string v2, .int .i64 v3, .int .i64 v4]) ∧ Kept b w w' ∧ At2 w' b (.string s) (.int .i64 (j : Nat)) := by
  have hb := hA.lt
  have hmf : ∀ (fn : Fn) (first cap : Array Value) (w : World), (Instr.makeFunc fn first cap).run Tryd.prog w = .ok (.func fn first cap) w := fun _ _ _ _ => rfl
  have KL := Lib.hid (isLetter_any s[i])
  have KD := Lib.hid (isDigit_any s[i])
  have K := Lib.hid hK
  have H1 := Lib.hid (St.start hA)
  have d2 : (i : Int) < (s.size : Int) := by omega
  clear hK hA
  rcases hF with ⟨h1, rfl⟩ | ⟨h1, h2, rfl⟩ | ⟨h1, h2, rfl⟩
  · rw [h1] at KL
    clear h1
    go_enter Tryd.func28, Tryd.ntmps28
    go_wp2_with fail
    change Code.wp _ _ _ _ (w.alloc zBox)
    have b1 := H1.out.2.1.c0
    have b2 := H1.out.2.1.c1
    generalize w.alloc zBox = w1 at *
    go_quiet (fail)
    have H2 := Lib.hid (St.bel hb H1.out (below_drewN (Below.refl _ _) nq))
    clear H1 b1 b2
    generalize w1.drewN nq = w2 at *
    go_wp2_with (first | ((with_reducible refine (KL.out _).mono ?_); rintro _ _ ⟨rfl, rfl⟩) | ((with_reducible refine (KD.out _).mono ?_); rintro _ _ ⟨rfl, rfl⟩))
    refine (K.out _ H2.out.2.1).mono ?_
    rintro _ w3 ⟨rfl, h4, h5⟩
    have H3 := Lib.hid (St.kept hb H2.out h4 h5)
    clear h4 h5 H2
    obtain ⟨⟨c0, c1, c2, c3, c4⟩, f0, f1, f2, f3, f4⟩ := H3.out.2.2
    go_wp2_with fail
    exact bodyPost_ret (v := .agg #[.int .i64 v0, .int .i64 v1, .string v2, .int .i64 v3, .int .i64 v4]) (by simp [results, Tryd.results28, go_sem, c0, c1, c2, c3, c4]) rfl ⟨rfl, (H3.out.fin hb _ _ _ _ _).1, (H3.out.fin hb _ _ _ _ _).2⟩
  · rw [h1] at KL
    rw [h2] at KD
    clear h1 h2
    go_enter Tryd.func28, Tryd.ntmps28
    go_wp2_with fail
    change Code.wp _ _ _ _ (w.alloc zBox)
    have b1 := H1.out.2.1.c0
    have b2 := H1.out.2.1.c1
    generalize w.alloc zBox = w1 at *
    go_quiet (fail)
    have H2 := Lib.hid (St.bel hb H1.out (below_drewN (Below.refl _ _) nq))
    clear H1 b1 b2
    generalize w1.drewN nq = w2 at *
    go_wp2_with (first | ((with_reducible refine (KL.out _).mono ?_); rintro _ _ ⟨rfl, rfl⟩) | ((with_reducible refine (KD.out _).mono ?_); rintro _ _ ⟨rfl, rfl⟩))
    refine (K.out _ H2.out.2.1).mono ?_
    rintro _ w3 ⟨rfl, h4, h5⟩
    have H3 := Lib.hid (St.kept hb H2.out h4 h5)
    clear h4 h5 H2
    obtain ⟨⟨c0, c1, c2, c3, c4⟩, f0, f1, f2, f3, f4⟩ := H3.out.2.2
    go_wp2_with fail
    exact bodyPost_ret (v := .agg #[.int .i64 v0, .int .i64 v1, .string v2, .int .i64 v3, .int .i64 v4]) (by simp [results, Tryd.results28, go_sem, c0, c1, c2, c3, c4]) rfl ⟨rfl, (H3.out.fin hb _ _ _ _ _).1, (H3.out.fin hb _ _ _ _ _).2⟩
  · rw [h1] at KL
    rw [h2] at KD
    clear h1 h2
    go_enter Tryd.func28, Tryd.ntmps28
    go_wp2_with fail
    change Code.wp _ _ _ _ (w.alloc zBox)
    have b1 := H1.out.2.1.c0
    have b2 := H1.out.2.1.c1
    generalize w.alloc zBox = w1 at *
    go_quiet (fail)
    have H2 := Lib.hid (St.bel hb H1.out (below_drewN (Below.refl _ _) nq))
    clear H1 b1 b2
    generalize w1.drewN nq = w2 at *
    go_wp2_with (first | ((with_reducible refine (KL.out _).mono ?_); rintro _ _ ⟨rfl, rfl⟩) | ((with_reducible refine (KD.out _).mono ?_); rintro _ _ ⟨rfl, rfl⟩))
    refine (K.out _ H2.out.2.1).mono ?_
    rintro _ w3 ⟨rfl, h4, h5⟩
    have H3 := Lib.hid (St.kept hb H2.out h4 h5)
    clear h4 h5 H2
    obtain ⟨⟨c0, c1, c2, c3, c4⟩, f0, f1, f2, f3, f4⟩ := H3.out.2.2
    go_wp2_with fail
    exact bodyPost_ret (v := .agg #[.int .i64 v0, .int .i64 v1, .string v2, .int .i64 v3, .int .i64 v4]) (by simp [results, Tryd.results28, go_sem, c0, c1, c2, c3, c4]) rfl ⟨rfl, (H3.out.fin hb _ _ _ _ _).1, (H3.out.fin hb _ _ _ _ _).2⟩

set_option maxRecDepth 100000 in
set_option maxHeartbeats 1600000 in
theorem token_pan (s : ByteArray) (i b : Nat) (w : World) (hA : At2 w b (.string s) (.int .i64 i)) (hi : i < s.size) (F : FuncId)
    (hF : (ltr s[i] = true ∧ F = 38) ∨ (ltr s[i] = false ∧ dgt s[i] = true ∧ F = 40) ∨ (ltr s[i] = false ∧ dgt s[i] = false ∧ F = 36)) (E : Int)
    (hK : ∀ w1, At2 w1 b (.string s) (.int .i64 i) → Calls Tryd.prog F #[.pointer (some ⟨b, 0, none⟩)] w1 fun e w' => e = .panicked (failV E i) ∧ Kept b w1 w') :
    Calls Tryd.prog 28 #[.pointer (some ⟨b, 0, none⟩)] w fun e w' => e = .panicked (failV E i) ∧ Kept b w w' := by
  have hb := hA.lt
  have hmf : ∀ (fn : Fn) (first cap : Array Value) (w : World), (Instr.makeFunc fn first cap).run Tryd.prog w = .ok (.func fn first cap) w := fun _ _ _ _ => rfl
  have KL := Lib.hid (isLetter_any s[i])
  have KD := Lib.hid (isDigit_any s[i])
  have K := Lib.hid hK
  have H1 := Lib.hid (St.start hA)
  have d2 : (i : Int) < (s.size : Int) := by omega
  clear hK hA
  rcases hF with ⟨h1, rfl⟩ | ⟨h1, h2, rfl⟩ | ⟨h1, h2, rfl⟩
  · rw [h1] at KL
    clear h1
    go_enter Tryd.func28, Tryd.ntmps28
    go_wp2_with fail
    change Code.wp _ _ _ _ (w.alloc zBox)
    have b1 := H1.out.2.1.c0
    have b2 := H1.out.2.1.c1
    generalize w.alloc zBox = w1 at *
    go_quiet (fail)
    have H2 := Lib.hid (St.bel hb H1.out (below_drewN (Below.refl _ _) nq))
    clear H1 b1 b2
    generalize w1.drewN nq = w2 at *
    go_wp2_with (first | ((with_reducible refine (KL.out _).mono ?_); rintro _ _ ⟨rfl, rfl⟩) | ((with_reducible refine (KD.out _).mono ?_); rintro _ _ ⟨rfl, rfl⟩))
    refine (K.out _ H2.out.2.1).mono ?_
    rintro _ w3 ⟨rfl, h4⟩
    go_wp2_with fail
    exact bodyPost_panic rfl ⟨rfl, H2.out.1.trans h4⟩
  · rw [h1] at KL
    rw [h2] at KD
    clear h1 h2
    go_enter Tryd.func28, Tryd.ntmps28
    go_wp2_with fail
    change Code.wp _ _ _ _ (w.alloc zBox)
    have b1 := H1.out.2.1.c0
    have b2 := H1.out.2.1.c1
    generalize w.alloc zBox = w1 at *
    go_quiet (fail)
    have H2 := Lib.hid (St.bel hb H1.out (below_drewN (Below.refl _ _) nq))
    clear H1 b1 b2
    generalize w1.drewN nq = w2 at *
    go_wp2_with (first | ((with_reducible refine (KL.out _).mono ?_); rintro _ _ ⟨rfl, rfl⟩) | ((with_reducible refine (KD.out _).mono ?_); rintro _ _ ⟨rfl, rfl⟩))
    refine (K.out _ H2.out.2.1).mono ?_
    rintro _ w3 ⟨rfl, h4⟩
    go_wp2_with fail
    exact bodyPost_panic rfl ⟨rfl, H2.out.1.trans h4⟩
  · rw [h1] at KL
    rw [h2] at KD
    clear h1 h2
    go_enter Tryd.func28, Tryd.ntmps28
    go_wp2_with fail
    change Code.wp _ _ _ _ (w.alloc zBox)
    have b1 := H1.out.2.1.c0
    have b2 := H1.out.2.1.c1
    generalize w.alloc zBox = w1 at *
    go_quiet (fail)
    have H2 := Lib.hid (St.bel hb H1.out (below_drewN (Below.refl _ _) nq))
    clear H1 b1 b2
    generalize w1.drewN nq = w2 at *
    go_wp2_with (first | ((with_reducible refine (KL.out _).mono ?_); rintro _ _ ⟨rfl, rfl⟩) | ((with_reducible refine (KD.out _).mono ?_); rintro _ _ ⟨rfl, rfl⟩))
    refine (K.out _ H2.out.2.1).mono ?_
    rintro _ w3 ⟨rfl, h4⟩
    go_wp2_with fail
    exact bodyPost_panic rfl ⟨rfl, H2.out.1.trans h4⟩

theorem token_kind {s : ByteArray} {i : Nat} (hi : i < s.size) {l : List UInt8} (hl : s.data.toList.drop i = l) : ∃ c r, l = c :: r ∧ s[i] = c := by
  have h : i < s.data.toList.length := by rw [len_bytes]; exact hi
  refine ⟨_, _, (hl.symm.trans (List.drop_eq_getElem_cons h)), ?_⟩
  rw [get_list s i hi, List.getD_eq_getElem?_getD, List.getElem?_eq_getElem h]; rfl
theorem token_ok (s : ByteArray) (i b : Nat) (w : World) (hA : At2 w b (.string s) (.int .i64 i)) (hi : i < s.size) (hs : s.size ≤ 281474976710656) (l : List UInt8) (hl : s.data.toList.drop i = l) (t : Tok) (n : Nat) (hn : nx Vh l = .ok t n) :
    Calls Tryd.prog 28 #[.pointer (some ⟨b, 0, none⟩)] w fun e w' => e = .returned (tokV (mov i t)) ∧ Kept b w w' ∧ At2 w' b (.string s) (.int .i64 (i + n : Nat)) := by
  obtain ⟨c, r, hcr, hc⟩ := token_kind hi hl
  rw [hcr] at hn
  simp only [nx] at hn
  by_cases h1 : ltr c = true
  · rw [if_pos h1] at hn
    split at hn
    · cases hn
    · rename_i h16
      injection hn with e1 e2
      subst e1 e2
      rw [← hcr] at h16 ⊢
      have : mov i ⟨1, 0, l.takeWhile wrd, 0, 0⟩ = ⟨1, i, l.takeWhile wrd, 0, 0⟩ := by unfold mov; simp
      rw [this]
      exact token_ret s i b w hA hi _ (Or.inl ⟨by rw [hc]; exact h1, rfl⟩) _ _ _ _ _ _ fun w1 h => word_ok s i b w1 _ h (by omega) hs (by rw [hl]) (by omega)
  · rw [if_neg h1] at hn
    have h1' : ltr c = false := by simpa using h1
    by_cases h2 : dgt c = true
    · rw [if_pos h2] at hn
      split at hn
      · rename_i hf
        split at hn
        · rename_i hv
          injection hn with e1 e2
          subst e1 e2
          rw [← hcr] at hf hv ⊢
          have : ∀ n d, mov i ⟨2, 0, [], n, d⟩ = ⟨2, i, [], n, d⟩ := by intro n d; unfold mov; simp
          rw [this]
          exact token_ret s i b w hA hi _ (Or.inr (Or.inl ⟨by rw [hc]; exact h1', by rw [hc]; exact h2, rfl⟩)) _ _ _ _ _ _ fun w1 h => number_ok s i b w1 _ h (by omega) hs (by rw [hl]) hf _ _ (by rw [← hv])
        · cases hn
      · cases hn
    · rw [if_neg h2] at hn
      have h2' : dgt c = false := by simpa using h2
      split at hn
      · cases hn
      · rename_i h0
        injection hn with e1 e2
        subst e1 e2
        rw [← hcr] at h0 ⊢
        have : mov i ⟨3, 0, l.take (sgn l), 0, 0⟩ = ⟨3, i, l.take (sgn l), 0, 0⟩ := by unfold mov; simp
        rw [this]
        exact token_ret s i b w hA hi _ (Or.inr (Or.inr ⟨by rw [hc]; exact h1', by rw [hc]; exact h2', rfl⟩)) _ _ _ _ _ _ fun w1 h => sign_ok s i b w1 l _ h (by omega) hs hl rfl (by omega)
theorem token_er (s : ByteArray) (i b : Nat) (w : World) (hA : At2 w b (.string s) (.int .i64 i)) (hi : i < s.size) (hs : s.size ≤ 281474976710656) (l : List UInt8) (hl : s.data.toList.drop i = l) (E : Int) (hn : nx Vh l = .er E) :
    Calls Tryd.prog 28 #[.pointer (some ⟨b, 0, none⟩)] w fun e w' => e = .panicked (failV E i) ∧ Kept b w w' := by
  obtain ⟨c, r, hcr, hc⟩ := token_kind hi hl
  rw [hcr] at hn
  simp only [nx] at hn
  by_cases h1 : ltr c = true
  · rw [if_pos h1] at hn
    split at hn
    · rename_i h16
      injection hn with e1
      subst e1
      rw [← hcr] at h16
      exact token_pan s i b w hA hi _ (Or.inl ⟨by rw [hc]; exact h1, rfl⟩) _ fun w1 h => word_er s i b w1 _ h (by omega) hs (by rw [hl]) h16
    · cases hn
  · rw [if_neg h1] at hn
    have h1' : ltr c = false := by simpa using h1
    by_cases h2 : dgt c = true
    · rw [if_pos h2] at hn
      split at hn
      · rename_i hf
        split at hn
        · cases hn
        · rename_i hv
          injection hn with e1
          subst e1
          rw [← hcr] at hf hv
          exact token_pan s i b w hA hi _ (Or.inr (Or.inl ⟨by rw [hc]; exact h1', by rw [hc]; exact h2, rfl⟩)) _ fun w1 h => number_er3 s i b w1 _ h (by omega) hs (by rw [hl]) hf _ _ _ rfl hv
      · rename_i hf
        injection hn with e1
        subst e1
        rw [← hcr] at hf
        exact token_pan s i b w hA hi _ (Or.inr (Or.inl ⟨by rw [hc]; exact h1', by rw [hc]; exact h2, rfl⟩)) _ fun w1 h => number_er8 s i b w1 _ h (by omega) hs (by rw [hl]) (by simpa using hf)
    · rw [if_neg h2] at hn
      have h2' : dgt c = false := by simpa using h2
      split at hn
      · rename_i h0
        injection hn with e1
        subst e1
        rw [← hcr] at h0
        exact token_pan s i b w hA hi _ (Or.inr (Or.inr ⟨by rw [hc]; exact h1', by rw [hc]; exact h2', rfl⟩)) _ fun w1 h => sign_er s i b w1 l h (by omega) hs hl h0 (by rw [hcr]; simp)
      · cases hn
end Go.Proofs.YtoaeceeookknnaaDoor
