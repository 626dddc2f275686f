/-
  The law's head: four sources.
-/
import Derived.Test.YtoaeceeookknnaaDoorLRefL
namespace Go.Proofs.YtoaeceeookknnaaDoor
open Go.RowKit Lx

theorem lex_h1 : lex Vh [102, 101, 101, 32, 49, 32, 60, 61, 32, 49, 50, 46, 53, 48, 32, 35, 32, 120] = .ok [⟨1, 0, [102, 101, 101], 0, 0⟩, ⟨2, 4, [], 1, 1⟩, ⟨3, 6, [60, 61], 0, 0⟩, ⟨2, 9, [], 25, 2⟩] := by kernel_rfl
theorem lex_h2 : lex Vh [97, 33, 98] = .er 10 1 := by kernel_rfl
theorem lex_h3 : lex Vh [32, 49, 50, 97] = .er 8 1 := by kernel_rfl
theorem lex_h4 : lex Vh [49, 50, 51, 52, 53, 54, 55, 56, 57, 46, 49, 50] = .er 3 0 := by kernel_rfl
/-- Lex at a source that is written out, its result a letter. -/
def GivesN (w : World) (n : Nat) (L : List Tok) (E : Int) (A : Int) (e : Ending) (w' : World) : Prop := ∃ q b cap, e = .returned (.tuple #[.slice q n cap, .int .i64 E, .int .i64 A]) ∧ SlT w' q b 0 n L ∧ n ≤ cap ∧ RowKit.Below w.heap.size w w'
theorem lexK {s : ByteArray} {l : List UInt8} {R : Res} {L : List Tok} {n : Nat} {E A : Int} (w : World) (hs : s.data.toList = l) (hR : lex Vh l = R) (hL : R.tk = L) (hn : L.length = n) (hE : R.e = E) (hA : (R.a : Int) = A) (hz : s.size ≤ 281474976710656) :
    Calls Tryd.prog 11 #[.string s] w fun e w' => GivesN w n L E A e w' := by
  subst hs hR hL hn hE hA
  refine (lex_any s w hz).mono ?_
  rintro e w' ⟨q, b, cap, n, rfl, h1, h2, h3⟩
  obtain rfl := h1.ln
  exact ⟨q, b, cap, rfl, h1, h2, h3⟩
theorem rlexK {s : ByteArray} {l : List UInt8} {R : Res} {L : List Tok} {n : Nat} {E A : Int} (w : World) (hs : s.data.toList = l) (hR : lex Vh l = R) (hL : R.tk = L) (hn : L.length = n) (hE : R.e = E) (hA : (R.a : Int) = A) (hz : s.size ≤ 281474976710656) :
    Calls Tryd.prog 12 #[.string s] w fun e w' => GivesN w n L E A e w' := by
  subst hs hR hL hn hE hA
  refine (rlex_any s w hz).mono ?_
  rintro e w' ⟨q, b, cap, n, rfl, h1, h2, h3⟩
  obtain rfl := h1.ln
  exact ⟨q, b, cap, rfl, h1, h2, h3⟩
set_option maxRecDepth 100000 in
set_option maxHeartbeats 2000000 in
theorem head_any (w : World) : Calls Tryd.prog 10 #[] w fun e w' => e = .returned (.bool true) ∧ RowKit.Below w.heap.size w w' := by
  go_enter Tryd.func10, Tryd.ntmps10
  go_wp2_with fail
  refine (lexK (L := [⟨1, 0, [102, 101, 101], 0, 0⟩, ⟨2, 4, [], 1, 1⟩, ⟨3, 6, [60, 61], 0, 0⟩, ⟨2, 9, [], 25, 2⟩]) (n := 4) (E := 0) (A := 0) _ rfl lex_h1 rfl rfl rfl rfl (by decide)).mono ?_
  rintro _ w1 ⟨q1, b1, cap1, rfl, s1, hc1, hb1⟩
  have S1 := Lib.hid s1
  have B1 := Lib.hid hb1
  clear s1 hb1
  go_wp2_with fail
  refine (lexK (L := []) (n := 0) (E := 10) (A := 1) _ rfl lex_h2 rfl rfl rfl rfl (by decide)).mono ?_
  rintro _ w2 ⟨q2, b2, cap2, rfl, s2, hc2, hb2⟩
  have S2 := Lib.hid (S1.out.bel hb2)
  have B2 := Lib.hid (B1.out.trans (hb2.mono B1.out.size))
  clear S1 B1 s2 hb2
  go_wp2_with fail
  refine (lexK (L := []) (n := 0) (E := 8) (A := 1) _ rfl lex_h3 rfl rfl rfl rfl (by decide)).mono ?_
  rintro _ w3 ⟨q3, b3, cap3, rfl, s3, hc3, hb3⟩
  have S3 := Lib.hid (S2.out.bel hb3)
  have B3 := Lib.hid (B2.out.trans (hb3.mono B2.out.size))
  clear S2 B2 s3 hb3
  go_wp2_with fail
  refine (lexK (L := []) (n := 0) (E := 3) (A := 0) _ rfl lex_h4 rfl rfl rfl rfl (by decide)).mono ?_
  rintro _ w4 ⟨q4, b4, cap4, rfl, s4, hc4, hb4⟩
  have S4 := Lib.hid (S3.out.bel hb4)
  have B4 := Lib.hid (B3.out.trans (hb4.mono B3.out.size))
  clear S3 B3 s4 hb4
  have hp := S4.out.ptr (by decide)
  obtain ⟨a0, a1, a2, a3, a4⟩ := S4.out.cells 0 (by decide)
  obtain ⟨c0, c1, c2, c3, c4⟩ := S4.out.cells 1 (by decide)
  obtain ⟨d0, d1, d2, d3, d4⟩ := S4.out.cells 2 (by decide)
  obtain ⟨e0, e1, e2, e3, e4⟩ := S4.out.cells 3 (by decide)
  subst hp
  simp only [List.getElem_cons_zero, List.getElem_cons_succ, Nat.zero_mul, Nat.one_mul, Nat.reduceMul, Nat.reduceAdd, bs] at a0 a1 a2 a3 a4 c0 c1 c2 c3 c4 d0 d1 d2 d3 d4 e0 e1 e2 e3 e4
  go_wp2_with fail
  go_ret
  exact ⟨rfl, B4.out⟩
end Go.Proofs.YtoaeceeookknnaaDoor
