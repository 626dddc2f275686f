/-
  The law on writing: the tokens of any source, written with blanks between them, are read as the same tokens.
-/
import Derived.Test.YtoaeceeookknnaaDoorLWriteW
namespace Go.Proofs.YtoaeceeookknnaaDoor
open Go.RowKit Lx

theorem Box.grown {w w' : World} {b : Nat} {row : Option Nat} {x0 x1 x2 x3 x4 : Value} (h : Box w b x0 x1 x2 x3 x4) (hg : w.grownBy w' row) (hne : some b ≠ row) : Box w' b x0 x1 x2 x3 x4 :=
  h.of (hg.block b (World.block_lt_of_cell? _ _ h.1.1) hne)
/-- How things stand in the loop. -/
def RunW (w0 : World) (X : List UInt8) (W : List Tok) (v : Value) (wv : World) (T : List UInt8) (pre rest : List Tok) : Prop :=
  RowKit.Below w0.heap.size w0 wv ∧ OwnT wv w0.heap.size v pre ∧ T ++ wrX rest = X ∧ pre ++ wrW T.length rest = W
set_option maxRecDepth 100000 in
set_option maxHeartbeats 3000000 in
theorem writes_main (s : ByteArray) (w : World) (l : List UInt8) (ts : List Tok) (hl : s.data.toList = l) (hs : s.size ≤ 4000) (h1 : lex Vh l = .ok ts) :
    Calls Tryd.prog 7 #[.string s] w fun e w' => e = .returned (.bool true) ∧ RowKit.Below w.heap.size w w' := by
  have hsz : s.size = l.length := by rw [← hl, len_bytes]
  have KL := Lib.hid (fun w => lexK (s := s) (l := l) (L := ts) (n := ts.length) (E := 0) (A := 0) w hl h1 rfl rfl rfl rfl (by omega))
  obtain ⟨x1, x2, x3⟩ := lex_wr h1 (by omega)
  have hs1 := lex_short h1
  obtain ⟨X, hX⟩ : ∃ X, X = wrX ts := ⟨_, rfl⟩
  obtain ⟨W, hW⟩ : ∃ W, W = wrW 0 ts := ⟨_, rfl⟩
  have hWl : W.length = ts.length := by rw [hW, wrW_len]
  rw [← hX] at x1 x3
  rw [← hW] at x1
  have KX := Lib.hid (fun w => lexK (s := bs X) (l := X) (L := W) (n := ts.length) (E := 0) (A := 0) w (bs_data X) x1 rfl hWl rfl rfl (by rw [bs_size]; omega))
  have TA := Lib.hid (lex_at x1)
  have HK := Lib.hid x2
  obtain ⟨n1, hn1⟩ : ∃ n1, ts.length = n1 := ⟨_, rfl⟩
  rw [hn1] at KL KX hs1 hWl
  have N1 := Lib.hid hn1
  have HX := Lib.hid hX
  have HW := Lib.hid hW
  have HWL := Lib.hid hWl
  have d1 : decide ((4000 : Int) < (s.size : Int)) = false := decide_eq_false (by omega)
  have d2 : ¬ (4000 : Int) < (s.size : Int) := by omega
  clear hl h1 hn1 hsz x1 x2 hX hW hWl
  go_enter Tryd.func7, Tryd.ntmps7
  go_wp2_with fail
  refine (head_any _).mono ?_
  rintro _ w1 ⟨rfl, hb⟩
  have B1 := Lib.hid hb
  clear hb
  go_wp2_with fail
  refine (KL.out _).mono ?_
  rintro _ w2 ⟨q2, b2, cap2, rfl, s2, hc2, hb2⟩
  have S2 := Lib.hid s2
  have B2 := Lib.hid (B1.out.trans (hb2.mono B1.out.size))
  clear hb2 B1 s2
  go_wp2_with fail
  go_loopg [7, 8, 31] n1 (fun g s7 v8 s31 wv => ∃ (k : Nat) (T : List UInt8) (pre : List Tok), s31 = .int .i64 k ∧ s7 = .string (bs T) ∧ k ≤ n1 ∧ n1 - k ≤ g ∧ pre.length = k ∧ Hid (RunW w2 X W v8 wv T pre (ts.drop k)))
  case atStart => exact ⟨0, [], [], rfl, rfl, by omega, by omega, rfl, Below.refl _ _, OwnT.empty _ _, HX.out.symm, HW.out.symm⟩
  case round =>
    rename World => wv
    obtain ⟨k, T, pre, rfl, rfl, hk, hkg, hpk, H⟩ := hrel
    obtain ⟨q, cap, hv⟩ := own_len H.out.2.1
    subst hv
    have HPK := Lib.hid hpk
    by_cases hlt : k < n1
    · have hltz : (k : Int) < (n1 : Int) := by omega
      have hkT : k < ts.length := by rw [N1.out]; exact hlt
      have hp := S2.out.ptr (by omega)
      obtain ⟨a0, a1, a2, a3, a4⟩ := cells_at (S2.out.bel H.out.1) hkT
      have hw := HK.out _ (List.getElem_mem hkT)
      have hH := H.out
      rw [List.drop_eq_getElem_cons hkT] at hH
      have hHX := hH.2.2.1
      have hHW := hH.2.2.2
      clear hH
      generalize ts[k] = t at *
      have HT : Hid ((T ++ wr t ++ [32]) ++ wrX (ts.drop (k + 1)) = X) := by
        show _ = _; rw [← hHX, wrX]; simp
      have hTl : T.length + (wr t).length + 1 ≤ 8000 := by
        have := congrArg List.length HT.out
        simp only [List.length_append, List.length_cons, List.length_nil] at this
        omega
      have HWW : Hid ((pre ++ [{ t with a := ((bs T).size : Int) }]) ++ wrW (T ++ wr t ++ [32]).length (ts.drop (k + 1)) = W) := by
        show _ = _
        rw [← hHW, wrW, bs_size]
        simp only [List.append_assoc, List.cons_append, List.nil_append, List.length_append, List.length_cons, List.length_nil, Nat.zero_add, Nat.add_assoc]
      have z1 : (bs T).size ≤ 8000 := by rw [bs_size]; omega
      have z2 : (bs (wr t)).size ≤ 8000 := by rw [bs_size]; omega
      have EQ : Hid (bs T ++ (bs (wr t) ++ ⟨#[32]⟩) = bs (T ++ wr t ++ [32])) := by
        show _ = _
        rw [show (⟨#[32]⟩ : ByteArray) = bs [32] from rfl, bs_app, bs_app, List.append_assoc]
      have hz := H.out.1.size
      have hpl : pre.length ≤ 1000000 := by omega
      clear hpk
      clear hHX hHW hTl
      have KW := Lib.hid (fun w => write_any { t with a := ((bs T).size : Int) } w hw)
      have ew : wr { t with a := ((bs T).size : Int) } = wr t := rfl
      rw [ew] at KW
      unfold tokV at KW
      generalize wr t = wt at *
      subst hp
      obtain ⟨tk, ta, tt, tn, td⟩ := t
      simp only [Nat.zero_add] at a0 a1 a2 a3 a4
      simp only at KW HWW
      clear ew
      have O1 := Lib.hid H.out.2.1
      have BB := Lib.hid H.out.1
      have hone : OneT ((wv.alloc (.cells #[.int .i64 tk, .int .i64 (bs T).size, .string (bs tt), .int .i64 tn, .int .i64 td] 32)).alloc (.cells #[.int .i64 tk, .int .i64 (bs T).size, .string (bs tt), .int .i64 tn, .int .i64 td] 32)) (wv.heap.size + 1) ⟨tk, (bs T).size, tt, tn, td⟩ := by
        have h := OneT.new (wv.alloc (.cells #[.int .i64 tk, .int .i64 (bs T).size, .string (bs tt), .int .i64 tn, .int .i64 td] 32)) ⟨tk, (bs T).size, tt, tn, td⟩ 32
        rwa [World.size_alloc] at h
      have HONE := Lib.hid hone
      have hbx : Hid (Box ((wv.alloc (.cells #[.int .i64 tk, .int .i64 (bs T).size, .string (bs tt), .int .i64 tn, .int .i64 td] 32)).alloc (.cells #[.int .i64 tk, .int .i64 (bs T).size, .string (bs tt), .int .i64 tn, .int .i64 td] 32)) wv.heap.size (.int .i64 tk) (.int .i64 (bs T).size) (.string (bs tt)) (.int .i64 tn) (.int .i64 td)) :=
        (Box.new wv _ _ _ _ _ 32).of (((Below.refl (wv.alloc _).heap.size (wv.alloc _)).alloc (Nat.le_refl _) _).block _ (by simp))
      clear hone
      have hne : Hid (some wv.heap.size ≠ (Value.slice q pre.length cap).ownBlock) := fun e => by
        have := O1.out.lt _ e.symm; omega
      have O2 := Lib.hid (((O1.out.alloc (.cells #[.int .i64 tk, .int .i64 (bs T).size, .string (bs tt), .int .i64 tn, .int .i64 td] 32)).alloc (.cells #[.int .i64 tk, .int .i64 (bs T).size, .string (bs tt), .int .i64 tn, .int .i64 td] 32)))
      have BB2 := Lib.hid ((BB.out.alloc hz (.cells #[.int .i64 tk, .int .i64 (bs T).size, .string (bs tt), .int .i64 tn, .int .i64 td] 32)).alloc (by simp; omega) (.cells #[.int .i64 tk, .int .i64 (bs T).size, .string (bs tt), .int .i64 tn, .int .i64 td] 32))
      by_cases h2 : tk = 2
      · subst h2
        obtain ⟨g1, g2, g3, g4, g5⟩ := hw rfl
        simp only at g1 g2 g3 g4 g5
        have e3 : decide (tn < 0) = false := decide_eq_false (by omega)
        have e4 : decide (td < 1) = false := decide_eq_false (by omega)
        have g6 : (100 : Int) % td = 0 := by
          have h1 : td = (td.toNat : Int) := by omega
          have h2 : ((100 % td.toNat : Nat) : Int) = (100 : Int) % (td.toNat : Int) := Int.natCast_emod 100 td.toNat
          rw [h1, ← h2, g5]; rfl
        have e5 : (100 % td != 0) = false := by rw [g6]; rfl
        go_wp2_with ((with_reducible show wpList _ _ _ ({ dst := some 63, op := _, type := _, pos := _, after := _, guard := _ } :: _) _ _); refine list_appT (by rfl) (.tmp 60) (.tmp 62) (by rfl) w2.heap.size (.slice q pre.length cap) pre (by rfl) ?_ (wv.heap.size + 1) 1 ⟨2, (bs T).size, tt, tn, td⟩ (by rfl) ?_ hpl ?_ ?_; exact O2.out; exact HONE.out; (simp; omega); intro v3 w3 h3 gr3; have HBX := Lib.hid (hbx.out.grown gr3 hne.out); have O3 := Lib.hid h3; have B3 := Lib.hid (BB2.out.trans (O2.out.grown gr3 (by simp; omega))); obtain ⟨⟨c0, c1, c2, c3, c4⟩, -⟩ := HBX.out; clear h3 gr3)
        refine (KW.out _).mono ?_
        rintro _ w4 ⟨rfl, hb4⟩
        have B4 := Lib.hid (B3.out.trans (hb4.mono B3.out.size))
        have O4 := Lib.hid (O3.out.below hb4)
        clear hb4 B3 O3 HBX c0 c1 c2 c3 c4
        go_wp2_with fail
        go_roundg (n1 - (k + 1))
        case measure => omega
        case rel => exact ⟨k + 1, _, _, by go_num, by rw [EQ.out], by omega, by omega, by rw [List.length_append, List.length_singleton, HPK.out], B4.out, O4.out, HT.out, HWW.out⟩
      · have e2 : (tk == 2) = false := by simpa using h2
        go_wp2_with ((with_reducible show wpList _ _ _ ({ dst := some 63, op := _, type := _, pos := _, after := _, guard := _ } :: _) _ _); refine list_appT (by rfl) (.tmp 60) (.tmp 62) (by rfl) w2.heap.size (.slice q pre.length cap) pre (by rfl) ?_ (wv.heap.size + 1) 1 ⟨tk, (bs T).size, tt, tn, td⟩ (by rfl) ?_ hpl ?_ ?_; exact O2.out; exact HONE.out; (simp; omega); intro v3 w3 h3 gr3; have HBX := Lib.hid (hbx.out.grown gr3 hne.out); have O3 := Lib.hid h3; have B3 := Lib.hid (BB2.out.trans (O2.out.grown gr3 (by simp; omega))); obtain ⟨⟨c0, c1, c2, c3, c4⟩, -⟩ := HBX.out; clear h3 gr3)
        refine (KW.out _).mono ?_
        rintro _ w4 ⟨rfl, hb4⟩
        have B4 := Lib.hid (B3.out.trans (hb4.mono B3.out.size))
        have O4 := Lib.hid (O3.out.below hb4)
        clear hb4 B3 O3 HBX c0 c1 c2 c3 c4
        go_wp2_with fail
        go_roundg (n1 - (k + 1))
        case measure => omega
        case rel => exact ⟨k + 1, _, _, by go_num, by rw [EQ.out], by omega, by omega, by rw [List.length_append, List.length_singleton, HPK.out], B4.out, O4.out, HT.out, HWW.out⟩
    · have hltz : ¬ (k : Int) < (n1 : Int) := by omega
      have hk1 : k = n1 := by omega
      subst hk1
      have hd : ts.drop k = [] := List.drop_eq_nil_of_le (by rw [N1.out]; omega)
      have hH := H.out
      rw [hd] at hH
      have eT : T = X := by have := hH.2.2.1; rw [wrX, List.append_nil] at this; exact this
      have eW : pre = W := by have := hH.2.2.2; rw [wrW, List.append_nil] at this; exact this
      subst eT eW
      obtain ⟨q', b', cap', n', hv, hs', hc', -⟩ := OwnT.reads hH.2.1 (by omega)
      have B3 := Lib.hid (B2.out.trans (hH.1.mono B2.out.size))
      injection hv with hv1 hv2 hv3
      subst hv1 hv3
      rw [hpk] at hv2
      subst hv2
      have S3 := Lib.hid hs'
      clear hH hs' H
      go_wp2_with fail
      refine (KX.out _).mono ?_
      rintro _ w5 ⟨q5, b5, cap5, rfl, s5, hc5, hb5⟩
      have S5 := Lib.hid s5
      have S4 := Lib.hid (S3.out.bel hb5)
      have B5 := Lib.hid (B3.out.trans (hb5.mono B3.out.size))
      clear hb5 B3 s5 S3
      go_wp2_with fail
      refine (same_yes pre pre 0 q q5 b' 0 cap k b5 0 cap5 k w5 S4.out S5.out (by omega) TA.out (mov_zero pre)).mono ?_
      rintro _ w6 ⟨rfl, hb6⟩
      have B6 := Lib.hid (B5.out.trans (hb6.mono B5.out.size))
      go_wp2_with fail
      go_ret
      exact ⟨rfl, B6.out⟩
set_option maxRecDepth 100000 in
set_option maxHeartbeats 2000000 in
theorem writes_up (s : ByteArray) (w : World) (l : List UInt8) (hl : s.data.toList = l) (hs : s.size ≤ 281474976710656) (e1 : Int) (h1 : (lex Vh l).e = e1) (h : e1 ≠ 0 ∨ (e1 = 0 ∧ 4000 < s.size)) :
    Calls Tryd.prog 7 #[.string s] w fun e w' => e = .returned (.bool true) ∧ RowKit.Below w.heap.size w w' := by
  have K1 := Lib.hid (fun w => lexK (s := s) w hl rfl rfl rfl h1 rfl hs)
  generalize (lex Vh l).tk = L1 at *
  generalize L1.length = n1 at *
  clear h1 hl
  rcases h with h | ⟨rfl, h⟩
  all_goals
    first
      | have q1 : (e1 != 0) = true := by simpa using h
      | have q3 : decide ((4000 : Int) < (s.size : Int)) = true := decide_eq_true (by omega)
    go_enter Tryd.func7, Tryd.ntmps7
    go_wp2_with fail
    refine (head_any _).mono ?_
    rintro _ w1 ⟨rfl, hb⟩
    have B1 := Lib.hid hb
    clear hb
    go_wp2_with fail
    refine (K1.out _).mono ?_
    rintro _ w2 ⟨q2, b2, cap2, rfl, s2, hc2, hb2⟩
    have B2 := Lib.hid (B1.out.trans (hb2.mono B1.out.size))
    clear hb2 B1 s2
    go_wp2_with fail
    go_ret
    exact ⟨rfl, B2.out⟩
theorem writes_law (s : ByteArray) (w : World) (hs : s.size ≤ 281474976710656) :
    Calls Tryd.prog 7 #[.string s] w fun e w' => e = .returned (.bool true) ∧ RowKit.Below w.heap.size w w' := by
  cases h1 : lex Vh s.data.toList with
  | er E a =>
    exact writes_up s w _ rfl hs E (by rw [h1]; rfl) (Or.inl (lex_er h1).1)
  | ok ts =>
    by_cases h3 : 4000 < s.size
    · exact writes_up s w _ rfl hs 0 (by rw [h1]; rfl) (Or.inr ⟨rfl, h3⟩)
    exact writes_main s w _ ts rfl (by omega) h1
end Go.Proofs.YtoaeceeookknnaaDoor
