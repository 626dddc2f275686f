/-
  The law that compares: the program and the reference give the same tokens, error and offset.
-/
import Derived.Test.YtoaeceeookknnaaDoorLSame
namespace Go.Proofs.YtoaeceeookknnaaDoor
open Go.RowKit Lx

set_option maxRecDepth 100000 in
set_option maxHeartbeats 2000000 in
theorem match_law (s : ByteArray) (w : World) (hs : s.size ≤ 281474976710656) :
    Calls Tryd.prog 3 #[.string s] w fun e w' => e = .returned (.bool true) ∧ RowKit.Below w.heap.size w w' := by
  by_cases h8 : 8100 < s.size
  · have d1 : decide ((8100 : Int) < (s.size : Int)) = true := decide_eq_true (by omega)
    go_enter Tryd.func3, Tryd.ntmps3
    go_wp2_with fail
    refine (head_any _).mono ?_
    rintro _ w1 ⟨rfl, hb⟩
    go_wp2_with fail
    go_ret
    exact ⟨rfl, hb⟩
  have d1 : decide ((8100 : Int) < (s.size : Int)) = false := decide_eq_false (by omega)
  obtain ⟨l, hl⟩ : ∃ l, l = s.data.toList := ⟨_, rfl⟩
  obtain ⟨R, hR⟩ : ∃ R, lex Vh l = R := ⟨_, rfl⟩
  have hat := res_at R hR
  obtain ⟨L, hL⟩ : ∃ L, R.tk = L := ⟨_, rfl⟩
  obtain ⟨n, hn⟩ : ∃ n, L.length = n := ⟨_, rfl⟩
  obtain ⟨E, hE⟩ : ∃ E, R.e = E := ⟨_, rfl⟩
  obtain ⟨A, hA⟩ : ∃ A : Int, (R.a : Int) = A := ⟨_, rfl⟩
  rw [hL] at hat
  have HAT := Lib.hid hat
  have KL := Lib.hid (fun w => lexK (s := s) (l := l) w hl.symm hR hL hn hE hA hs)
  have KR := Lib.hid (fun w => rlexK (s := s) (l := l) w hl.symm hR hL hn hE hA hs)
  clear hl hR hat hL hn hE hA
  go_enter Tryd.func3, Tryd.ntmps3
  go_wp2_with fail
  refine (head_any _).mono ?_
  rintro _ w1 ⟨rfl, hb⟩
  have B1 := Lib.hid hb
  clear hb
  go_wp2_with fail
  refine (KL.out _).mono ?_
  rintro _ w2 ⟨q2, b2, cap2, rfl, s2, hc2, hb2⟩
  have S2 := Lib.hid s2
  have B2 := Lib.hid (B1.out.trans (hb2.mono B1.out.size))
  clear hb2 B1 s2
  go_wp2_with fail
  refine (KR.out _).mono ?_
  rintro _ w3 ⟨q3, b3, cap3, rfl, s3, hc3, hb3⟩
  have S3 := Lib.hid (S2.out.bel hb3)
  have R3 := Lib.hid s3
  have B3 := Lib.hid (B2.out.trans (hb3.mono B2.out.size))
  clear hb3 B2 s3 S2
  go_wp2_with fail
  refine (same_yes L L 0 q2 q3 b2 0 cap2 n b3 0 cap3 n w3 S3.out R3.out (by omega) HAT.out (mov_zero L)).mono ?_
  rintro _ w4 ⟨rfl, hb4⟩
  have B4 := Lib.hid (B3.out.trans (hb4.mono B3.out.size))
  clear hb4 B3
  go_wp2_with fail
  go_ret
  exact ⟨rfl, B4.out⟩
end Go.Proofs.YtoaeceeookknnaaDoor
