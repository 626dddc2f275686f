/-
  The law on offsets: each token stands at its offset, and everything else are gaps.
-/
import Derived.Test.YtoaeceeookknnaaDoorLJoinsW
namespace Go.Proofs.YtoaeceeookknnaaDoor
open Go.RowKit Lx

/-- What length gives for a token that stands at its offset. -/
theorem length_any (s : ByteArray) (i : Nat) (l : List UInt8) (w : World) (t : Tok) (n : Nat) (hl : s.data.toList.drop i = l) (hi : i < s.size) (hs : s.size ≤ 8000) (hn : nx Vh l = .ok t n) :
    Calls Tryd.prog 14 #[.string s, tokV (mov i t)] w fun e w' => e = .returned (.int .i64 (n : Nat)) ∧ RowKit.Below w.heap.size w w' := by
  have KN := Lib.hid (fun w => next_ok s i w l hl hi hs t n hn)
  have ha : (mov i t).a = (i : Int) := by show t.a + (i : Int) = (i : Int); rw [(nx_pos hn).2.2]; omega
  unfold tokV at KN ⊢
  rw [ha] at KN ⊢
  generalize (mov i t).k = k at *
  generalize (mov i t).t = tt at *
  generalize (mov i t).n = a at *
  generalize (mov i t).d = d at *
  have d1 : decide ((i : Int) < 0) = false := decide_eq_false (by omega)
  have d2 : decide ((s.size : Int) ≤ (i : Int)) = false := decide_eq_false (by omega)
  have d3 : decide (s.size ≤ i) = false := decide_eq_false (by omega)
  have d4 : ¬ s.size ≤ i := by omega
  clear hl hn ha
  go_enter Tryd.func14, Tryd.ntmps14
  go_wp2_with fail
  have hq := Box.new w (.int .i64 k) (.int .i64 i) (.string (bs tt)) (.int .i64 a) (.int .i64 d) 32
  have hB1 := (Below.refl w.heap.size w).alloc (Nat.le_refl _) (.cells #[.int .i64 k, .int .i64 i, .string (bs tt), .int .i64 a, .int .i64 d] 32)
  generalize w.alloc (.cells #[.int .i64 k, .int .i64 i, .string (bs tt), .int .i64 a, .int .i64 d] 32) = w1 at *
  refine (KN.out _).mono ?_
  rintro _ w2 ⟨rfl, h2⟩
  have hq2 := hq.of (h2.block _ (World.block_lt_of_cell? _ _ hq.1.1))
  have B2 := Lib.hid (hB1.trans (h2.mono hB1.size))
  obtain ⟨⟨g0, g1, g2, g3, g4⟩, -⟩ := hq2
  have L : w.heap.size < w2.heap.size := World.block_lt_of_cell? _ _ g0
  clear hq hB1 h2
  go_wp2_with fail
  go_ret
  exact ⟨rfl, by repeat' (first | exact B2.out | refine Below.alloc ?_ (by first | omega | (simp; omega)) _)⟩
theorem drop_take_gp {l : List UInt8} {j : Nat} : j + gp false ((l.take (j + gp false (l.drop j))).drop j) = j + gp false (l.drop j) := by
  rw [List.drop_take, Nat.add_sub_cancel_left, gp_take _ _ _ (Nat.le_refl _)]
set_option maxRecDepth 100000 in
set_option maxHeartbeats 3000000 in
theorem offs_main (s : ByteArray) (w : World) (l : List UInt8) (ts : List Tok) (hl : s.data.toList = l) (hs : s.size ≤ 8000) (h1 : lex Vh l = .ok ts) :
    Calls Tryd.prog 4 #[.string s] w fun e w' => e = .returned (.bool true) ∧ RowKit.Below w.heap.size w w' := by
  have hsz : s.size = l.length := by rw [← hl, len_bytes]
  have KL := Lib.hid (fun w => lexK (s := s) (l := l) (L := ts) (n := ts.length) (E := 0) (A := 0) w hl h1 rfl rfl rfl rfl (by omega))
  have hlx : lx Vh 2000 0 l = .ok ts := by unfold lex at h1; rw [if_neg (by omega)] at h1; exact h1
  have hs1 := lex_short h1
  obtain ⟨n1, hn1⟩ : ∃ n1, ts.length = n1 := ⟨_, rfl⟩
  rw [hn1] at KL hs1
  have N1 := Lib.hid hn1
  have HLX := Lib.hid hlx
  have HZ := Lib.hid hsz
  have HL := Lib.hid hl
  clear hl h1 hlx hn1 hsz
  go_enter Tryd.func4, Tryd.ntmps4
  go_wp2_with fail
  refine (head_any _).mono ?_
  rintro _ w1 ⟨rfl, hb⟩
  have B1 := Lib.hid hb
  clear hb
  go_wp2_with fail
  refine (KL.out _).mono ?_
  rintro _ w2 ⟨q2, b2, cap2, rfl, s2, hc2, hb2⟩
  have S2 := Lib.hid s2
  have B2 := Lib.hid (B1.out.trans (hb2.mono B1.out.size))
  have LB : Hid (0 < n1 → b2 < w2.heap.size) := s2.lt
  clear hb2 B1 s2
  go_wp2_with fail
  go_loopg [7, 28] n1 (fun g s7 s28 wr => ∃ (k j f : Nat), s28 = .int .i64 k ∧ s7 = .int .i64 j ∧ k ≤ n1 ∧ n1 - k ≤ g ∧ j ≤ s.size ∧ Hid (RowKit.Below w2.heap.size w2 wr ∧ lx Vh f j (l.drop j) = .ok (ts.drop k)))
  case atStart => exact ⟨0, 0, 2000, rfl, rfl, by omega, by omega, by omega, Below.refl _ _, by simpa using HLX.out⟩
  case round =>
    obtain ⟨k, j, f, rfl, rfl, hk, hkg, hj, HI⟩ := hrel
    by_cases hlt : k < n1
    · have hltz : (k : Int) < (n1 : Int) := by omega
      have hkT : k < ts.length := by rw [N1.out]; exact hlt
      have hlx := lx_ok HI.out.2
      rw [List.drop_eq_getElem_cons hkT] at hlx
      rcases hlx with ⟨_, h⟩ | ⟨f', t, n, us, hf, hg, hn, hr, he⟩
      · cases h
      · injection he with he1 he2
        subst he2
        rw [List.drop_drop] at hn
        rw [List.drop_drop, ← Nat.add_assoc] at hr
        rw [List.length_drop] at hg
        have hnp := nx_pos hn
        rw [List.length_drop] at hnp
        have hz := HZ.out
        obtain ⟨at_, hat⟩ : ∃ at_, at_ = j + gp false (l.drop j) := ⟨_, rfl⟩
        have KS : Hid (∀ w : World, Calls Tryd.prog 15 #[.string (s.extract 0 at_), .int .i64 j] w fun e w' => e = .returned (.int .i64 (at_ : Nat)) ∧ w' = w) := fun w => by
          have hsd : (s.extract 0 at_).data.toList = l.take at_ := by rw [← HL.out]; simp
          have hss : (s.extract 0 at_).size = at_ := by rw [← len_bytes, hsd, List.length_take]; omega
          have h := rSkip_any (s.extract 0 at_) j w (by omega) (by omega)
          rw [hsd, hat, drop_take_gp, ← hat] at h
          exact h
        rw [← hat] at hn hr he1
        have hp := S2.out.ptr (by omega)
        obtain ⟨a0, a1, a2, a3, a4⟩ := cells_at (S2.out.bel HI.out.1) hkT
        rw [he1] at a0 a1 a2 a3 a4
        simp only [Nat.zero_add] at a0 a1 a2 a3 a4
        have KN := Lib.hid (fun w => length_any s at_ _ w t n (by rw [HL.out]) (by omega) hs hn)
        unfold tokV at KN
        have haa : (mov at_ t).a = (at_ : Int) := by show t.a + (at_ : Int) = (at_ : Int); rw [hnp.2.2]; omega
        rw [haa] at KN a1
        generalize (mov (at_ : Int) t).k = tk at *
        generalize (mov (at_ : Int) t).t = tt at *
        generalize (mov (at_ : Int) t).n = tn at *
        generalize (mov (at_ : Int) t).d = td at *
        have HR := Lib.hid hr
        have q1 : decide ((n : Int) < 1) = false := decide_eq_false (by omega)
        have q2' : decide ((at_ : Int) < (j : Int)) = false := decide_eq_false (by omega)
        have q3 : (at_ : Int) ≤ (s.size : Int) := by omega
        have q5 : decide (at_ < j) = false := decide_eq_false (by omega)
        have q6 : decide (n < 1) = false := decide_eq_false (by omega)
        have q7 : ¬ at_ < j := by omega
        have q4 : at_ + n ≤ s.size := by omega
        subst hp
        clear hn hr he1 hat haa hnp hg hz
        go_wp2_with fail
        have hq := Box.new wr (.int .i64 tk) (.int .i64 at_) (.string (bs tt)) (.int .i64 tn) (.int .i64 td) 32
        have hB1 := (Below.refl wr.heap.size wr).alloc (Nat.le_refl _) (.cells #[.int .i64 tk, .int .i64 at_, .string (bs tt), .int .i64 tn, .int .i64 td] 32)
        generalize wr.alloc (.cells #[.int .i64 tk, .int .i64 at_, .string (bs tt), .int .i64 tn, .int .i64 td] 32) = w4 at *
        refine (KN.out _).mono ?_
        rintro _ w5 ⟨rfl, h5⟩
        have hq2 := hq.of (h5.block _ (World.block_lt_of_cell? _ _ hq.1.1))
        have B5 := Lib.hid (HI.out.1.trans ((hB1.trans (h5.mono hB1.size)).mono HI.out.1.size))
        obtain ⟨⟨g0, g1, g2, g3, g4⟩, -⟩ := hq2
        clear hq hB1 h5 a0 a1 a2 a3 a4
        go_wp2_with fail
        go_quiet ((go_at_call 15; exact Calls.quiet_of_same (KS.out _)))
        go_wp2_with fail
        go_roundg (n1 - (k + 1))
        case measure => omega
        case rel => exact ⟨k + 1, at_ + n, f', by go_num, by go_num, by omega, by omega, by omega, below_drewN B5.out _, HR.out⟩
    · have hltz : ¬ (k : Int) < (n1 : Int) := by omega
      have KS : Hid (∀ w : World, Calls Tryd.prog 15 #[.string s, .int .i64 j] w fun e w' => e = .returned (.int .i64 (s.size : Nat)) ∧ w' = w) := fun w => by
        have h := rSkip_any s j w hj (by omega)
        have hlx := lx_ok HI.out.2
        have hdn : ts.drop k = [] := List.drop_eq_nil_of_le (by rw [N1.out]; omega)
        rw [hdn] at hlx
        rcases hlx with ⟨h2, _⟩ | ⟨f', t, n, us, hf, hg, hn, hr, he⟩
        · rw [HL.out, h2, List.length_drop, ← HZ.out, show j + (s.size - j) = s.size by omega] at h
          exact h
        · cases he
      have q9 : decide ((n1 : Int) ≤ 2000) = true := decide_eq_true (by omega)
      go_wp2_with (refine (KS.out _).mono ?_; rintro _ _ ⟨rfl, rfl⟩)
      go_ret
      exact ⟨rfl, B2.out.trans (HI.out.1.mono B2.out.size)⟩
set_option maxRecDepth 100000 in
set_option maxHeartbeats 2000000 in
theorem offs_law (s : ByteArray) (w : World) (hs : s.size ≤ 281474976710656) :
    Calls Tryd.prog 4 #[.string s] w fun e w' => e = .returned (.bool true) ∧ RowKit.Below w.heap.size w w' := by
  cases hR : lex Vh s.data.toList with
  | ok ts =>
    refine offs_main s w _ ts rfl ?_ hR
    unfold lex at hR
    split at hR
    · cases hR
    · rename_i h
      rw [len_bytes] at h; omega
  | er E a =>
    obtain ⟨e0, _⟩ := lex_er hR
    have KL := Lib.hid (fun w => lexK (s := s) (L := []) (n := 0) (E := E) (A := a) w rfl hR rfl rfl rfl rfl hs)
    have e1 : (E != 0) = true := by simpa using e0
    clear hR e0
    go_enter Tryd.func4, Tryd.ntmps4
    go_wp2_with fail
    refine (head_any _).mono ?_
    rintro _ w1 ⟨rfl, hb⟩
    have B1 := Lib.hid hb
    clear hb
    go_wp2_with fail
    refine (KL.out _).mono ?_
    rintro _ w2 ⟨q2, b2, cap2, rfl, s2, hc2, hb2⟩
    have B2 := Lib.hid (B1.out.trans (hb2.mono B1.out.size))
    clear hb2 B1
    go_wp2_with fail
    go_ret
    exact ⟨rfl, B2.out⟩
end Go.Proofs.YtoaeceeookknnaaDoor
