/-
  The law on errors: with an error there are no tokens, and the part of the source before it has none.
-/
import Derived.Test.YtoaeceeookknnaaDoorLHead
namespace Go.Proofs.YtoaeceeookknnaaDoor
open Go.RowKit Lx

theorem lx_e0 : ∀ (f i : Nat) (l : List UInt8) (E : Int) (a : Nat), lx Vh f i l = .er E a → E ≠ 0
  | 0, i, l, E, a, h => by
    simp only [lx] at h
    split at h
    · cases h
    · injection h with h1 h2; rw [← h1]; decide
  | f + 1, i, l, E, a, h => by
    have hle := gp_le l false
    simp only [lx] at h
    split at h
    · cases h
    · rename_i hne
      cases hn : nx Vh (l.drop (gp false l)) with
      | er e =>
        rw [hn] at h
        injection h with h1 h2
        rw [← h1]
        refine nx_e0 hn (fun e => ?_)
        have := congrArg List.length e
        rw [List.length_drop, List.length_nil] at this
        omega
      | ok t n =>
        rw [hn] at h
        simp only [] at h
        cases hr : lx Vh f (i + gp false l + n) (l.drop (gp false l + n)) with
        | ok us => rw [hr] at h; cases h
        | er e' a' =>
          rw [hr] at h
          simp only [Res.app, Res.er.injEq] at h
          rw [← h.1]
          exact lx_e0 f _ _ _ _ hr
theorem lex_er {l : List UInt8} {E : Int} {a : Nat} (h : lex Vh l = .er E a) : E ≠ 0 ∧ a < l.length ∧ ∃ ts, lex Vh (l.take a) = .ok ts := by
  unfold lex at h
  split at h
  · rename_i h8
    injection h with h1 h2
    subst h1 h2
    exact ⟨by decide, by omega, [], rfl⟩
  · rename_i h8
    obtain ⟨b1, b2, ts, b3⟩ := lx_part _ _ _ _ _ h
    refine ⟨lx_e0 _ _ _ _ _ h, by omega, ts, ?_⟩
    unfold lex
    rw [if_neg (by rw [List.length_take]; omega)]
    simpa using b3
set_option maxRecDepth 100000 in
set_option maxHeartbeats 2000000 in
theorem errors_law (s : ByteArray) (w : World) (hs : s.size ≤ 281474976710656) :
    Calls Tryd.prog 8 #[.string s] w fun e w' => e = .returned (.bool true) ∧ RowKit.Below w.heap.size w w' := by
  obtain ⟨l, hl⟩ : ∃ l, l = s.data.toList := ⟨_, rfl⟩
  have hsz : s.size = l.length := by rw [hl, len_bytes]
  have HLL := Lib.hid hl
  by_cases h8 : 8100 < s.size
  · have d1 : decide ((8100 : Int) < (s.size : Int)) = true := decide_eq_true (by omega)
    clear hsz hl
    go_enter Tryd.func8, Tryd.ntmps8
    go_wp2_with fail
    refine (head_any _).mono ?_
    rintro _ w1 ⟨rfl, hb⟩
    go_wp2_with fail
    go_ret
    exact ⟨rfl, hb⟩
  have d1 : decide ((8100 : Int) < (s.size : Int)) = false := decide_eq_false (by omega)
  cases hR : lex Vh l with
  | ok ts =>
    have KL := Lib.hid (fun w => lexK (s := s) (l := l) (L := ts) (n := ts.length) (E := 0) (A := 0) w hl.symm hR rfl rfl rfl rfl hs)
    clear hsz hl hR
    go_enter Tryd.func8, Tryd.ntmps8
    go_wp2_with fail
    refine (head_any _).mono ?_
    rintro _ w1 ⟨rfl, hb⟩
    have B1 := Lib.hid hb
    clear hb
    go_wp2_with fail
    refine (KL.out _).mono ?_
    rintro _ w2 ⟨q2, b2, cap2, rfl, s2, hc2, hb2⟩
    have B2 := Lib.hid (B1.out.trans (hb2.mono B1.out.size))
    clear hb2 B1
    go_wp2_with fail
    go_ret
    exact ⟨rfl, B2.out⟩
  | er E a =>
    obtain ⟨e0, ha, ts, hp⟩ := lex_er hR
    have KL := Lib.hid (fun w => lexK (s := s) (l := l) (L := []) (n := 0) (E := E) (A := a) w hl.symm hR rfl rfl rfl rfl hs)
    have KP := Lib.hid (fun w => lexK (s := s.extract 0 a) (l := l.take a) (L := ts) (n := ts.length) (E := 0) (A := 0) w (by rw [hl]; simp) hp rfl rfl rfl rfl (by simp; omega))
    have e1 : (E == 0) = false := by simpa using e0
    have e2 : (E != 0) = true := by simpa using e0
    have d3 : (a : Int) < (s.size : Int) := by omega
    have d4 : decide ((a : Int) < 0) = false := decide_eq_false (by omega)
    have d5 : decide ((s.size : Int) ≤ (a : Int)) = false := decide_eq_false (by omega)
    clear hsz hl hR hp e0 ha
    go_enter Tryd.func8, Tryd.ntmps8
    go_wp2_with fail
    refine (head_any _).mono ?_
    rintro _ w1 ⟨rfl, hb⟩
    have B1 := Lib.hid hb
    clear hb
    go_wp2_with fail
    refine (KL.out _).mono ?_
    rintro _ w2 ⟨q2, b2, cap2, rfl, s2, hc2, hb2⟩
    have B2 := Lib.hid (B1.out.trans (hb2.mono B1.out.size))
    clear hb2 B1
    go_wp2_with fail
    refine (KP.out _).mono ?_
    rintro _ w3 ⟨q3, b3, cap3, rfl, s3, hc3, hb3⟩
    have B3 := Lib.hid (B2.out.trans (hb3.mono B2.out.size))
    clear hb3 B2
    go_wp2_with fail
    go_ret
    exact ⟨rfl, B3.out⟩
end Go.Proofs.YtoaeceeookknnaaDoor
