/-
  The law on the reference.
-/
import Derived.Test.YtohnmffokichkaaDoorMatchWalk
namespace Go.Proofs.YtohnmffokichkaaDoor
open Go.RowKit

theorem match_law (a b c d n m : Int) (s : ByteArray) (w : World) (hE : Env w)
    (a0 : -9223372036854775808 ≤ a) (a1 : a ≤ 9223372036854775807) (b0 : -9223372036854775808 ≤ b) (b1 : b ≤ 9223372036854775807)
    (c0 : -9223372036854775808 ≤ c) (c1 : c ≤ 9223372036854775807) (d0 : -9223372036854775808 ≤ d) (d1 : d ≤ 9223372036854775807)
    (n0 : -9223372036854775808 ≤ n) (n1 : n ≤ 9223372036854775807) (m0 : -9223372036854775808 ≤ m) (m1 : m ≤ 9223372036854775807) (hs : s.size ≤ 281474976710656) :
    Calls Tryd.prog 3 #[.agg #[.int .i64 a, .int .i64 b], .agg #[.int .i64 c, .int .i64 d], .int .i64 n, .int .i64 m, .string s] w fun e w' =>
      e = .returned (.bool true) ∧ Below w.heap.size w w' :=
  match_walk a b c d n m _ _ _ _ _ _ _ _ _ _ _ _ _ _ _ _ _ _ _ _ _ _ _ s _ _ w hE
    (fun w _ => valid_any a b w a0 a1 b0 b1) (fun w _ => rvalid_any a b w a0 a1 b0 b1)
    (fun w _ => make_any n m w n0 n1 m0 m1) (fun w _ => rmake_any n m w n0 n1 m0 m1)
    (fun w _ => add_any a b c d w a0 a1 b0 b1 c0 c1 d0 d1) (fun w _ => radd_any a b c d w a0 a1 b0 b1 c0 c1 d0 d1)
    (fun w _ => sub_any a b c d w a0 a1 b0 b1 c0 c1 d0 d1) (fun w _ => rsub_any a b c d w a0 a1 b0 b1 c0 c1 d0 d1)
    (fun w _ => mul_any a b c d w a0 a1 b0 b1 c0 c1 d0 d1) (fun w _ => rmul_any a b c d w a0 a1 b0 b1 c0 c1 d0 d1)
    (fun w _ => div_any a b c d w a0 a1 b0 b1 c0 c1 d0 d1) (fun w _ => rdiv_any a b c d w a0 a1 b0 b1 c0 c1 d0 d1)
    (fun w _ => compare_any a b c d w a0 a1 b0 b1 c0 c1 d0 d1) (fun w _ => rcompare_any a b c d w a0 a1 b0 b1 c0 c1 d0 d1)
    (fun w _ => floor_any a b w a0 a1 b0 b1) (fun w _ => rfloor_any a b w a0 a1 b0 b1)
    (fun w hE => text_any a b w hE a0 a1 b0 b1) (fun w _ => rtext_any a b w a0 a1 b0 b1)
    (fun w hE => parse_any s w hE hs) (fun w _ => rparse_any s w hs)
end Go.Proofs.YtohnmffokichkaaDoor
