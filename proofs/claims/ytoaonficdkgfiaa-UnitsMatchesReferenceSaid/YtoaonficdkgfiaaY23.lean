/- Texts on units: RSam LHdK -/
import Derived.Test.YtoaonficdkgfiaaY19
import Derived.Test.YtoaonficdkgfiaaY22
namespace Go.Proofs.Ytoaonficdkgfiaa
open Go.RowKit Un MapKept

set_option maxRecDepth 100000 in
set_option maxHeartbeats 8000000 in
theorem rSame_any (l m : List (Int × Int)) (v u : Value) (w : World) (hl : DgM w v l) (hm : DgM w u m) :
  Calls Try.prog 17 #[v, u] w fun e w' => e = .returned (.bool (decide (l = m))) ∧ RowKit.Below w.heap.size w w' := by
 obtain ⟨p, b, c, rfl, hs⟩ := hl
 obtain ⟨p', b', c', rfl, hs'⟩ := hm
 have HS := Lib.hid hs
 have HS' := Lib.hid hs'
 have h1 := hs.max
 have h2 := hs'.max
 have HB := Lib.hid (Below.refl w.heap.size w)
 obtain ⟨R, hR⟩ : ∃ R, R = decide (l = m) := ⟨_, rfl⟩
 rw [← hR]
 have HR := Lib.hid hR
 clear hs hs' hR
 by_cases hn : l.length = m.length
 ·rw [← hn] at HS' ⊢
  have HN := Lib.hid hn
  have hzz : ((l.length : Int) != (l.length : Int)) = false := by simp
  clear hn h2
  go_enter Try.func17, Try.ntmps17
  go_wp2_with fail
  go_loopg [5] l.length (fun g v5 wr => ∃ i : Nat, i ≤ l.length ∧ l.length - i ≤ g ∧ v5 = .int .i64 i ∧ Hid (l.take i = m.take i) ∧ Hid (RowKit.Below w.heap.size w wr))
  case atStart => exact ⟨0, Nat.zero_le _, by omega, by simp, by show _ = _; simp, HB⟩
  case round =>
   obtain ⟨i, hi, hg, rfl, HM, HW⟩ := hrel
   by_cases hlt : i < l.length
   ·have hz : (i : Int) < (l.length : Int) := by omega
    have hlt' : i < m.length := by have := HN.out; omega
    have hq := HS.out.ptr (by omega)
    have hq' := HS'.out.ptr (by omega)
    subst hq
    subst hq'
    have ha := ((HS.out.bel HW.out).at_ i (gC l[i]) (by rw [List.getElem?_map, List.getElem?_eq_getElem hlt]; rfl)).2
    have hb := ((HS'.out.bel HW.out).at_ i (gC m[i]) (by rw [List.getElem?_map, List.getElem?_eq_getElem hlt']; rfl)).2
    have E1 : Hid (l[i] = m[i] → l.take (i + 1) = m.take (i + 1)) := fun h => by rw [List.take_succ_eq_append_getElem hlt, List.take_succ_eq_append_getElem hlt', HM.out, h]
    have E2 : Hid (l[i] ≠ m[i] → R = false) := fun h => by
     rw [HR.out]
     refine decide_eq_false (fun e => h ?_)
     subst e; rfl
    generalize l[i] = x at *
    generalize m[i] = y at *
    obtain ⟨x1, x2⟩ := x
    obtain ⟨y1, y2⟩ := y
    have z0 := ha 0 _ rfl
    have z1 := ha 1 _ rfl
    have u0 := hb 0 _ rfl
    have u1 := hb 1 _ rfl
    simp only [Nat.zero_add, Nat.add_zero] at z0 z1 u0 u1
    have e2 : IntKind.i64.wrap ((i : Int) + 1) = ((i + 1 : Nat) : Int) := by rw [IntWalk.i64_in _ (by omega)]; rfl
    clear ha hb
    by_cases hx : x1 = y1
    ·by_cases hy : x2 = y2
     ·subst hx
      subst hy
      have E3 := Lib.hid (E1.out rfl)
      clear E1 E2
      go_wp2_with fail
      go_quiet (fail)
      go_wp2_with fail
      go_roundg (l.length - (i + 1))
      case measure => omega
      case rel => exact ⟨i + 1, by omega, Nat.le_refl _, by simp, E3, by show RowKit.Below _ _ _; exact below_drewN HW.out _⟩
     ·subst hx
      have hyb : (x2 == y2) = false := by simpa using hy
      have E3 := Lib.hid (E2.out (fun e => hy (by injection e)))
      clear E1 E2
      go_wp2_with fail
      go_quiet (fail)
      go_wp2_with fail
      go_ret
      exact ⟨ret_bool E3.out.symm, below_drewN HW.out _⟩
    ·have hxb : (x1 == y1) = false := by simpa using hx
     have E3 := Lib.hid (E2.out (fun e => hx (by injection e)))
     clear E1 E2
     go_wp2_with fail
     go_quiet (fail)
     go_wp2_with fail
     go_ret
     exact ⟨ret_bool E3.out.symm, below_drewN HW.out _⟩
   ·have hz : ¬ (i : Int) < (l.length : Int) := by omega
    have hie : i = l.length := by omega
    subst hie
    have hml := HM.out
    rw [List.take_length, HN.out, List.take_length] at hml
    go_wp2_with fail
    go_ret
    exact ⟨ret_bool (by rw [HR.out]; exact (decide_eq_true hml).symm), HW.out⟩
 ·have hz : ((l.length : Int) != (m.length : Int)) = true := by simp; omega
  have hzb : ((l.length : Int) == (m.length : Int)) = false := by simp; omega
  have HRF : Hid (R = false) := by show _ = _; rw [HR.out]; exact decide_eq_false (fun e => hn (by rw [e]))
  go_enter Try.func17, Try.ntmps17
  go_wp2_with fail
  go_ret
  exact ⟨ret_bool HRF.out.symm, HB.out⟩
end Go.Proofs.Ytoaonficdkgfiaa
namespace Go.Proofs.Ytoaonficdkgfiaa
open Go.RowKit Un MapKept

theorem nfl (s : List UInt8) (p : Int) (w : World) (A : Nat → Prop) : NdM w A (nFact s p) ⟨none, 0⟩ := by
 unfold nFact NdM
 exact ⟨0, 0, fun h => absurd h (by simp), by simp, by simp only [KdM]⟩
theorem nnl (n p : Int) (w : World) (A : Nat → Prop) : NdM w A (nNum n p) ⟨none, 0⟩ := by
 unfold nNum NdM
 exact ⟨0, 0, fun h => absurd h (by simp), by simp, by simp only [KdM]⟩
theorem ntl (w : World) (A : Nat → Prop) : NdM w A nTrue ⟨none, 0⟩ := by
 unfold nTrue NdM
 exact ⟨0, 0, fun h => absurd h (by simp), by simp, by simp only [KdM]⟩
theorem nll (w : World) (A : Nat → Prop) : NdM w A nNil ⟨none, 0⟩ := by
 unfold nNil NdM
 exact ⟨0, 0, fun h => absurd h (by simp), by simp, by simp only [KdM]⟩
/-- A node over two leaves. -/
theorem two_leaf (op pl : Int) (ta tb : Nd) (w : World) (ha : NdM w (fun _ => True) ta ⟨none, 0⟩) (hb : NdM w (fun _ => True) tb ⟨none, 0⟩) :
  Calls Try.prog 24 #[.int .i64 op, .int .i64 pl, nV ta ⟨none, 0⟩, nV tb ⟨none, 0⟩] w fun e w' => ∃ q c, e = .returned (.agg #[.int .i64 op, .int .i64 pl, .string ⟨#[]⟩, .int .i64 0, .int .i64 0, .bool false, .int .i64 0, .int .i64 0, .int .i64 0, .slice q 2 c]) ∧ Hid (NdM w' (fun _ => True) (nTwo op pl ta tb) ⟨q, c⟩) ∧ RowKit.Below w.heap.size w w' := by
 refine (ltwo_any op pl ta tb ⟨none, 0⟩ ⟨none, 0⟩ (fun _ => True) w ha hb).mono ?_
 rintro e w' ⟨⟨q, c⟩, rfl, hn, hB⟩
 exact ⟨q, c, rfl, NdM.keep (Nat.le_refl _) (fun _ _ _ => rfl) (fun _ _ _ => trivial) _ _ hn, hB⟩
theorem of_two (op pl : Int) (ta tb : Nd) (g : Got) (h1 : nin ta) (h2 : nin tb) (hg : ofV vld L0 (nTwo op pl ta tb) = g) (b : Nat) (q : Option Addr) (c : Nat) (w : World) (hS : SlR w (some ⟨b, 0, none⟩) b 0 2 8 (L0.map dC)) (hn : NdM w (fun _ => True) (nTwo op pl ta tb) ⟨q, c⟩) :
  Calls Try.prog 13 #[.slice (some ⟨b, 0, none⟩) 2 2, .agg #[.int .i64 op, .int .i64 pl, .string ⟨#[]⟩, .int .i64 0, .int .i64 0, .bool false, .int .i64 0, .int .i64 0, .int .i64 0, .slice q 2 c]] w fun e w' => e = .returned (OfV g) ∧ RowKit.Below w.heap.size w w' := by
 subst hg
 exact uOf_any L0 (nTwo op pl ta tb) (by unfold nTwo nin; exact ⟨by unfold in64; omega, by unfold in64; omega, by simp only [nins]; exact ⟨h1, h2, trivial⟩⟩) _ b 0 2 _ ⟨q, c⟩ w hS hn
theorem nin_f (s : List UInt8) (p : Int) : nin (nFact s p) := by unfold nFact nin; exact ⟨by unfold in64; omega, by unfold in64; omega, by simp only [nins]⟩
theorem nin_n (n p : Int) (h : in64 n) : nin (nNum n p) := by unfold nNum nin; exact ⟨h, by unfold in64; omega, by simp only [nins]⟩
theorem nin_t : nin nTrue := by unfold nTrue nin; exact ⟨by unfold in64; omega, by unfold in64; omega, by simp only [nins]⟩
theorem nin_l : nin nNil := by unfold nNil nin; exact ⟨by unfold in64; omega, by unfold in64; omega, by simp only [nins]⟩
/-- The rule of the example, as cells. -/
@[reducible] def rFeeL : List Value := [.string ⟨#[102, 101, 101]⟩, .int .i64 1, .int .i64 1, .string ⟨#[]⟩, .int .i64 0, .int .i64 10, .int .i64 0, .int .i64 17, .int .i64 0, .string ⟨#[]⟩, .int .i64 0, .int .i64 0, .bool false, .int .i64 0, .int .i64 0, .int .i64 0, .slice none 0 0, .int .i64 2, .int .i64 0, .string ⟨#[114, 101, 110, 116]⟩, .int .i64 0, .int .i64 0, .bool false, .int .i64 0, .int .i64 0, .int .i64 0, .slice none 0 0, .int .i64 0]
theorem build_fee (w : World) : (Instr.build 58 #[(0, .string ⟨#[102, 101, 101]⟩), (1, .int .i64 1), (2, .int .i64 1), (4, .agg #[.int .i64 0, .int .i64 10]), (6, .agg #[.int .i64 17, .int .i64 0, .string ⟨#[]⟩, .int .i64 0, .int .i64 0, .bool false, .int .i64 0, .int .i64 0, .int .i64 0, .slice none 0 0]), (7, .agg #[.int .i64 2, .int .i64 0, .string ⟨#[114, 101, 110, 116]⟩, .int .i64 0, .int .i64 0, .bool false, .int .i64 0, .int .i64 0, .int .i64 0, .slice none 0 0])]).run Try.prog w = .ok (.agg rFeeL.toArray) w := by kernel_rfl
theorem slice_two (w : World) : (Instr.buildSlice 23 2 #[(0, .agg rFeeL.toArray), (1, .agg rFeeL.toArray)]).run Try.prog w = .ok (.slice (some ⟨w.heap.size, 0, none⟩) 2 2) (w.alloc (.cells (rFeeL ++ rFeeL).toArray 58)) := by kernel_rfl
theorem fee_c : RuC rFee ⟨none, 0⟩ ⟨none, 0⟩ rFeeL := RuC.of rFee ⟨none, 0⟩ ⟨none, 0⟩
theorem fee_n : RuN rFee := ⟨nin_t, nin_f _ _⟩
theorem fee_m (w : World) (A : Nat → Prop) : RuM w A rFee ⟨none, 0⟩ ⟨none, 0⟩ := ⟨ntl _ _, nfl _ _ _ _⟩
theorem fees2 (w : World) : RsM (w.alloc (.cells (rFeeL ++ rFeeL).toArray 58)) (fun _ => True) (some ⟨w.heap.size, 0, none⟩) w.heap.size 0 [rFee, rFee] [rFeeL, rFeeL] := by
 have hx := BoxL.new w (rFeeL ++ rFeeL) 58
 refine ⟨⟨rfl, fun _ => rfl, fun i r hr => ?_, fun _ => by simp, by decide⟩, fun i h h' => ?_, fun r hr => ?_⟩
 ·match i, hr with
  | 0, hr =>
   cases hr
   refine ⟨rfl, fun j v hv => ?_⟩
   have hj := (List.getElem?_eq_some_iff.1 hv).1
   rw [show 0 + 0 * 28 + j = j by omega]
   exact (hx j v (by rw [List.getElem?_append_left hj]; exact hv)).1
  | 1, hr =>
   cases hr
   refine ⟨rfl, fun j v hv => ?_⟩
   rw [show 0 + 1 * 28 + j = 28 + j by omega]
   exact (hx (28 + j) v (by rw [List.getElem?_append_right (by show 28 ≤ 28 + j; omega)]; rw [show 28 + j - rFeeL.length = j by show 28 + j - 28 = j; omega]; exact hv)).1
  | i + 2, hr => simp at hr
 ·match i, h, h' with
  | 0, _, _ => exact ⟨_, _, fee_c, fee_m _ _⟩
  | 1, _, _ => exact ⟨_, _, fee_c, fee_m _ _⟩
  | i + 2, h, _ => exact absurd h (by simp)
 ·simp at hr; subst hr; exact fee_n
theorem fees1 (w : World) : RsM (w.alloc (.cells rFeeL.toArray 58)) (fun _ => True) (some ⟨w.heap.size, 0, none⟩) w.heap.size 0 [rFee] [rFeeL] := by
 have hx := BoxL.new w rFeeL 58
 refine ⟨⟨rfl, fun _ => rfl, fun i r hr => ?_, fun _ => by simp, by decide⟩, fun i h h' => ?_, fun r hr => ?_⟩
 ·match i, hr with
  | 0, hr =>
   cases hr
   refine ⟨rfl, fun j v hv => ?_⟩
   rw [show 0 + 0 * 28 + j = j by omega]
   exact (hx j v hv).1
  | i + 1, hr => simp at hr
 ·match i, h, h' with
  | 0, _, _ => exact ⟨_, _, fee_c, fee_m _ _⟩
  | i + 1, h, _ => exact absurd h (by simp)
 ·simp at hr; subst hr; exact fee_n
theorem check2 (b : Nat) (p : Option Addr) (br : Nat) (w : World) (hS : SlR w (some ⟨b, 0, none⟩) b 0 2 8 (L0.map dC)) (hR : RsM w (fun _ => True) p br 0 [rFee, rFee] [rFeeL, rFeeL]) :
  Calls Try.prog 18 #[.agg #[.slice (some ⟨b, 0, none⟩) 2 2, .slice p 2 2]] w fun e w' => ∃ v, e = .returned v ∧ DgM w' v [(0, 5)] ∧ RowKit.Below w.heap.size w w' := by
 have := uCheck_any L0 [rFee, rFee] [rFeeL, rFeeL] (some ⟨b, 0, none⟩) p b 0 2 br 0 2 (fun _ => True) w hS hR
 rw [hm8] at this
 exact this
theorem check1 (b : Nat) (p : Option Addr) (br : Nat) (w : World) (hS : SlR w (some ⟨b, 0, none⟩) b 0 2 8 (L0.map dC)) (hR : RsM w (fun _ => True) p br 0 [rFee] [rFeeL]) :
  Calls Try.prog 18 #[.agg #[.slice (some ⟨b, 0, none⟩) 2 2, .slice p 1 1]] w fun e w' => ∃ q c, e = .returned (.slice q 0 c) ∧ RowKit.Below w.heap.size w w' := by
 have := uCheck_any L0 [rFee] [rFeeL] (some ⟨b, 0, none⟩) p b 0 2 br 0 1 (fun _ => True) w hS hR
 rw [hm9] at this
 refine this.mono ?_
 rintro _ w' ⟨_, rfl, ⟨q, _, c, rfl, -⟩, hB⟩
 exact ⟨q, c, rfl, hB⟩
theorem diag1 (w : World) : DgM (w.alloc (.cells #[.int .i64 0, .int .i64 5] 66)) (.slice (some ⟨w.heap.size, 0, none⟩) 1 1) [(0, 5)] := by
 have hx := BoxL.new w [.int .i64 0, .int .i64 5] 66
 refine ⟨_, w.heap.size, _, rfl, rfl, fun _ => rfl, fun i r hr => ?_, fun _ => by simp, by decide⟩
 match i, hr with
 | 0, hr =>
  cases hr
  refine ⟨rfl, fun j v hv => ?_⟩
  rw [show 0 + 0 * 2 + j = j by omega]
  exact (hx j v hv).1
 | i + 1, hr => simp at hr
section
variable {P : Program} {ops : Array Oper} {rest : List Oper} {o : Oper} {a : Act} {w w' : World} {Q : Exit → Act → World → Prop} {t : TypeId} {v : Value}
theorem wl_slice2 {x z : Operand} {y u : Value} (hgd : o.guard = none) (ho : o.op = .buildSlice t 2 #[(0, x), (1, z)]) (hx : a.eval x = y) (hz : a.eval z = u) (hr : (Instr.buildSlice t 2 #[(0, y), (1, u)]).run P w = .ok v w') (h : wpList P ops Q rest (a.put o.dst v) w') : wpList P ops Q (o :: rest) a w :=
 wpList_plain hgd fun _ hK => by
  unfold Oper.wp execOp
  simp only [ho, Sem.run_bind, Sem.run_pure, List.map_toArray, List.map_cons, List.map_nil, hx, hz, hr]
  exact hK _ _ h
end
theorem valid_1 (b : Nat) (w : World) (hS : SlR w (some ⟨b, 0, none⟩) b 0 2 8 (L0.map dC)) : Calls Try.prog 15 #[.slice (some ⟨b, 0, none⟩) 2 2, .agg #[.int .i64 2, .int .i64 0, .string ⟨#[114, 101, 110, 116]⟩, .int .i64 0, .int .i64 0, .bool false, .int .i64 0, .int .i64 0, .int .i64 0, .slice none 0 0]] w fun e w' => e = .returned (.bool true) ∧ RowKit.Below w.heap.size w w' := by
 have := uValid_any L0 (nFact sRent 0) (nin_f _ _) (some ⟨b, 0, none⟩) b 0 2 (fun _ => True) ⟨none, 0⟩ w hS (nfl _ _ _ _)
 rw [hm6] at this
 exact this
theorem valid_2 (b : Nat) (w : World) (hS : SlR w (some ⟨b, 0, none⟩) b 0 2 8 (L0.map dC)) : Calls Try.prog 15 #[.slice (some ⟨b, 0, none⟩) 2 2, .agg #[.int .i64 0, .int .i64 0, .string ⟨#[]⟩, .int .i64 0, .int .i64 0, .bool false, .int .i64 0, .int .i64 0, .int .i64 0, .slice none 0 0]] w fun e w' => e = .returned (.bool false) ∧ RowKit.Below w.heap.size w w' := by
 have := uValid_any L0 nNil nin_l (some ⟨b, 0, none⟩) b 0 2 (fun _ => True) ⟨none, 0⟩ w hS (nll _ _)
 rw [hm7] at this
 exact this
section
variable {P : Program} {md : Region.Mode} {Q : Exit → Act → World → Prop} {S : World → Prop}
theorem tk24 {o0 o1 o2 o3 o4 o5 o6 o7 o8 o9 o10 o11 o12 o13 o14 o15 o16 o17 o18 o19 o20 o21 o22 o23 o24 : Oper} {r : List Oper} {v : Value} {fuel : Nat} {listed : Array Bool} {a : Act} {w : World} (hs : Region.noSelect (List.toArray (o0 :: o1 :: o2 :: o3 :: o4 :: o5 :: o6 :: o7 :: o8 :: o9 :: o10 :: o11 :: o12 :: o13 :: o14 :: o15 :: o16 :: o17 :: o18 :: o19 :: o20 :: o21 :: o22 :: o23 :: o24 :: r)) = true) (hf : Region.free md (List.toArray (o0 :: o1 :: o2 :: o3 :: o4 :: o5 :: o6 :: o7 :: o8 :: o9 :: o10 :: o11 :: o12 :: o13 :: o14 :: o15 :: o16 :: o17 :: o18 :: o19 :: o20 :: o21 :: o22 :: o23 :: o24 :: r)) listed 24 = true)
  (hr : (Region.ready md (List.toArray (o0 :: o1 :: o2 :: o3 :: o4 :: o5 :: o6 :: o7 :: o8 :: o9 :: o10 :: o11 :: o12 :: o13 :: o14 :: o15 :: o16 :: o17 :: o18 :: o19 :: o20 :: o21 :: o22 :: o23 :: o24 :: r)) listed).contains 24 = true) (hQ : ∀ c a w, Q (.panic c) (a.put o24.dst v) w → Q (.panic c) a w) (hy : YieldsIf P (List.toArray (o0 :: o1 :: o2 :: o3 :: o4 :: o5 :: o6 :: o7 :: o8 :: o9 :: o10 :: o11 :: o12 :: o13 :: o14 :: o15 :: o16 :: o17 :: o18 :: o19 :: o20 :: o21 :: o22 :: o23 :: o24 :: r)) S o24 v a) (hS : S w)
  (h : wpAnyH P md (List.toArray (o0 :: o1 :: o2 :: o3 :: o4 :: o5 :: o6 :: o7 :: o8 :: o9 :: o10 :: o11 :: o12 :: o13 :: o14 :: o15 :: o16 :: o17 :: o18 :: o19 :: o20 :: o21 :: o22 :: o23 :: o24 :: r)) Q S fuel (listed.setIfInBounds 24 true) (a.put o24.dst v) w) : wpAnyH P md (List.toArray (o0 :: o1 :: o2 :: o3 :: o4 :: o5 :: o6 :: o7 :: o8 :: o9 :: o10 :: o11 :: o12 :: o13 :: o14 :: o15 :: o16 :: o17 :: o18 :: o19 :: o20 :: o21 :: o22 :: o23 :: o24 :: r)) Q S (fuel + 1) listed a w := wpAnyH_take (i := 24) rfl hs hf hr hQ hy hS h
theorem st24 {o0 o1 o2 o3 o4 o5 o6 o7 o8 o9 o10 o11 o12 o13 o14 o15 o16 o17 o18 o19 o20 o21 o22 o23 o24 : Oper} {r : List Oper} {fuel : Nat} {listed : Array Bool} {a : Act} {w : World} {rs : List Nat}
  (h : ∀ K' : Act → World → Prop, Shut (∀ a w, S w → (S w → wpAnyH P md (List.toArray (o0 :: o1 :: o2 :: o3 :: o4 :: o5 :: o6 :: o7 :: o8 :: o9 :: o10 :: o11 :: o12 :: o13 :: o14 :: o15 :: o16 :: o17 :: o18 :: o19 :: o20 :: o21 :: o22 :: o23 :: o24 :: r)) Q S fuel (listed.setIfInBounds 24 true) a w) → K' a w) → if Region.wanted o24 (yielded (List.toArray (o0 :: o1 :: o2 :: o3 :: o4 :: o5 :: o6 :: o7 :: o8 :: o9 :: o10 :: o11 :: o12 :: o13 :: o14 :: o15 :: o16 :: o17 :: o18 :: o19 :: o20 :: o21 :: o22 :: o23 :: o24 :: r)) a.tmps) = true then Oper.wp P o24 a w K' Q else K' (a.put o24.dst undef) w)
  (hs : AllReadyH P md (List.toArray (o0 :: o1 :: o2 :: o3 :: o4 :: o5 :: o6 :: o7 :: o8 :: o9 :: o10 :: o11 :: o12 :: o13 :: o14 :: o15 :: o16 :: o17 :: o18 :: o19 :: o20 :: o21 :: o22 :: o23 :: o24 :: r)) Q S fuel listed a w rs) : AllReadyH P md (List.toArray (o0 :: o1 :: o2 :: o3 :: o4 :: o5 :: o6 :: o7 :: o8 :: o9 :: o10 :: o11 :: o12 :: o13 :: o14 :: o15 :: o16 :: o17 :: o18 :: o19 :: o20 :: o21 :: o22 :: o23 :: o24 :: r)) Q S fuel listed a w (24 :: rs) := AllReadyH.cons (i := 24) rfl h hs
theorem tk25 {o0 o1 o2 o3 o4 o5 o6 o7 o8 o9 o10 o11 o12 o13 o14 o15 o16 o17 o18 o19 o20 o21 o22 o23 o24 o25 : Oper} {r : List Oper} {v : Value} {fuel : Nat} {listed : Array Bool} {a : Act} {w : World} (hs : Region.noSelect (List.toArray (o0 :: o1 :: o2 :: o3 :: o4 :: o5 :: o6 :: o7 :: o8 :: o9 :: o10 :: o11 :: o12 :: o13 :: o14 :: o15 :: o16 :: o17 :: o18 :: o19 :: o20 :: o21 :: o22 :: o23 :: o24 :: o25 :: r)) = true) (hf : Region.free md (List.toArray (o0 :: o1 :: o2 :: o3 :: o4 :: o5 :: o6 :: o7 :: o8 :: o9 :: o10 :: o11 :: o12 :: o13 :: o14 :: o15 :: o16 :: o17 :: o18 :: o19 :: o20 :: o21 :: o22 :: o23 :: o24 :: o25 :: r)) listed 25 = true)
  (hr : (Region.ready md (List.toArray (o0 :: o1 :: o2 :: o3 :: o4 :: o5 :: o6 :: o7 :: o8 :: o9 :: o10 :: o11 :: o12 :: o13 :: o14 :: o15 :: o16 :: o17 :: o18 :: o19 :: o20 :: o21 :: o22 :: o23 :: o24 :: o25 :: r)) listed).contains 25 = true) (hQ : ∀ c a w, Q (.panic c) (a.put o25.dst v) w → Q (.panic c) a w) (hy : YieldsIf P (List.toArray (o0 :: o1 :: o2 :: o3 :: o4 :: o5 :: o6 :: o7 :: o8 :: o9 :: o10 :: o11 :: o12 :: o13 :: o14 :: o15 :: o16 :: o17 :: o18 :: o19 :: o20 :: o21 :: o22 :: o23 :: o24 :: o25 :: r)) S o25 v a) (hS : S w)
  (h : wpAnyH P md (List.toArray (o0 :: o1 :: o2 :: o3 :: o4 :: o5 :: o6 :: o7 :: o8 :: o9 :: o10 :: o11 :: o12 :: o13 :: o14 :: o15 :: o16 :: o17 :: o18 :: o19 :: o20 :: o21 :: o22 :: o23 :: o24 :: o25 :: r)) Q S fuel (listed.setIfInBounds 25 true) (a.put o25.dst v) w) : wpAnyH P md (List.toArray (o0 :: o1 :: o2 :: o3 :: o4 :: o5 :: o6 :: o7 :: o8 :: o9 :: o10 :: o11 :: o12 :: o13 :: o14 :: o15 :: o16 :: o17 :: o18 :: o19 :: o20 :: o21 :: o22 :: o23 :: o24 :: o25 :: r)) Q S (fuel + 1) listed a w := wpAnyH_take (i := 25) rfl hs hf hr hQ hy hS h
theorem tk26 {o0 o1 o2 o3 o4 o5 o6 o7 o8 o9 o10 o11 o12 o13 o14 o15 o16 o17 o18 o19 o20 o21 o22 o23 o24 o25 o26 : Oper} {r : List Oper} {v : Value} {fuel : Nat} {listed : Array Bool} {a : Act} {w : World} (hs : Region.noSelect (List.toArray (o0 :: o1 :: o2 :: o3 :: o4 :: o5 :: o6 :: o7 :: o8 :: o9 :: o10 :: o11 :: o12 :: o13 :: o14 :: o15 :: o16 :: o17 :: o18 :: o19 :: o20 :: o21 :: o22 :: o23 :: o24 :: o25 :: o26 :: r)) = true) (hf : Region.free md (List.toArray (o0 :: o1 :: o2 :: o3 :: o4 :: o5 :: o6 :: o7 :: o8 :: o9 :: o10 :: o11 :: o12 :: o13 :: o14 :: o15 :: o16 :: o17 :: o18 :: o19 :: o20 :: o21 :: o22 :: o23 :: o24 :: o25 :: o26 :: r)) listed 26 = true)
  (hr : (Region.ready md (List.toArray (o0 :: o1 :: o2 :: o3 :: o4 :: o5 :: o6 :: o7 :: o8 :: o9 :: o10 :: o11 :: o12 :: o13 :: o14 :: o15 :: o16 :: o17 :: o18 :: o19 :: o20 :: o21 :: o22 :: o23 :: o24 :: o25 :: o26 :: r)) listed).contains 26 = true) (hQ : ∀ c a w, Q (.panic c) (a.put o26.dst v) w → Q (.panic c) a w) (hy : YieldsIf P (List.toArray (o0 :: o1 :: o2 :: o3 :: o4 :: o5 :: o6 :: o7 :: o8 :: o9 :: o10 :: o11 :: o12 :: o13 :: o14 :: o15 :: o16 :: o17 :: o18 :: o19 :: o20 :: o21 :: o22 :: o23 :: o24 :: o25 :: o26 :: r)) S o26 v a) (hS : S w)
  (h : wpAnyH P md (List.toArray (o0 :: o1 :: o2 :: o3 :: o4 :: o5 :: o6 :: o7 :: o8 :: o9 :: o10 :: o11 :: o12 :: o13 :: o14 :: o15 :: o16 :: o17 :: o18 :: o19 :: o20 :: o21 :: o22 :: o23 :: o24 :: o25 :: o26 :: r)) Q S fuel (listed.setIfInBounds 26 true) (a.put o26.dst v) w) : wpAnyH P md (List.toArray (o0 :: o1 :: o2 :: o3 :: o4 :: o5 :: o6 :: o7 :: o8 :: o9 :: o10 :: o11 :: o12 :: o13 :: o14 :: o15 :: o16 :: o17 :: o18 :: o19 :: o20 :: o21 :: o22 :: o23 :: o24 :: o25 :: o26 :: r)) Q S (fuel + 1) listed a w := wpAnyH_take (i := 26) rfl hs hf hr hQ hy hS h
theorem tk27 {o0 o1 o2 o3 o4 o5 o6 o7 o8 o9 o10 o11 o12 o13 o14 o15 o16 o17 o18 o19 o20 o21 o22 o23 o24 o25 o26 o27 : Oper} {r : List Oper} {v : Value} {fuel : Nat} {listed : Array Bool} {a : Act} {w : World} (hs : Region.noSelect (List.toArray (o0 :: o1 :: o2 :: o3 :: o4 :: o5 :: o6 :: o7 :: o8 :: o9 :: o10 :: o11 :: o12 :: o13 :: o14 :: o15 :: o16 :: o17 :: o18 :: o19 :: o20 :: o21 :: o22 :: o23 :: o24 :: o25 :: o26 :: o27 :: r)) = true) (hf : Region.free md (List.toArray (o0 :: o1 :: o2 :: o3 :: o4 :: o5 :: o6 :: o7 :: o8 :: o9 :: o10 :: o11 :: o12 :: o13 :: o14 :: o15 :: o16 :: o17 :: o18 :: o19 :: o20 :: o21 :: o22 :: o23 :: o24 :: o25 :: o26 :: o27 :: r)) listed 27 = true)
  (hr : (Region.ready md (List.toArray (o0 :: o1 :: o2 :: o3 :: o4 :: o5 :: o6 :: o7 :: o8 :: o9 :: o10 :: o11 :: o12 :: o13 :: o14 :: o15 :: o16 :: o17 :: o18 :: o19 :: o20 :: o21 :: o22 :: o23 :: o24 :: o25 :: o26 :: o27 :: r)) listed).contains 27 = true) (hQ : ∀ c a w, Q (.panic c) (a.put o27.dst v) w → Q (.panic c) a w) (hy : YieldsIf P (List.toArray (o0 :: o1 :: o2 :: o3 :: o4 :: o5 :: o6 :: o7 :: o8 :: o9 :: o10 :: o11 :: o12 :: o13 :: o14 :: o15 :: o16 :: o17 :: o18 :: o19 :: o20 :: o21 :: o22 :: o23 :: o24 :: o25 :: o26 :: o27 :: r)) S o27 v a) (hS : S w)
  (h : wpAnyH P md (List.toArray (o0 :: o1 :: o2 :: o3 :: o4 :: o5 :: o6 :: o7 :: o8 :: o9 :: o10 :: o11 :: o12 :: o13 :: o14 :: o15 :: o16 :: o17 :: o18 :: o19 :: o20 :: o21 :: o22 :: o23 :: o24 :: o25 :: o26 :: o27 :: r)) Q S fuel (listed.setIfInBounds 27 true) (a.put o27.dst v) w) : wpAnyH P md (List.toArray (o0 :: o1 :: o2 :: o3 :: o4 :: o5 :: o6 :: o7 :: o8 :: o9 :: o10 :: o11 :: o12 :: o13 :: o14 :: o15 :: o16 :: o17 :: o18 :: o19 :: o20 :: o21 :: o22 :: o23 :: o24 :: o25 :: o26 :: o27 :: r)) Q S (fuel + 1) listed a w := wpAnyH_take (i := 27) rfl hs hf hr hQ hy hS h
end
section
variable {P : Program} {ops : Array Oper} {rest : List Oper} {o : Oper} {a : Act} {w w' : World} {Q : Exit → Act → World → Prop} {t : TypeId} {v u : Value}
theorem wl_wanted (hw : Region.wanted o (yielded ops a.tmps) = true) (h : ∀ K : Act → World → Prop, (∀ a w, wpList P ops Q rest a w → K a w) → o.wp P a w K Q) : wpList P ops Q (o :: rest) a w :=
 wpList_step fun K hK => by rw [if_pos hw]; exact h K hK
theorem wl_loadG {x : Operand} {y : Value} (hw : Region.wanted o (yielded ops a.tmps) = true) (ho : o.op = .load t x) (hx : a.eval x = y) (hr : (Instr.loadAt t y).run P w = .ok u w) (h : wpList P ops Q rest (a.put o.dst u) w) : wpList P ops Q (o :: rest) a w := wl_wanted hw fun _ hK => wp_load ho hx hr (hK _ _ h)
theorem wl_sliceG {x : Operand} {y : Value} (hw : Region.wanted o (yielded ops a.tmps) = true) (ho : o.op = .buildSlice t 1 #[(0, x)]) (hx : a.eval x = y) (hr : (Instr.buildSlice t 1 #[(0, y)]).run P w = .ok u w') (h : wpList P ops Q rest (a.put o.dst u) w') : wpList P ops Q (o :: rest) a w := wl_wanted hw fun _ hK => wp_slice1 ho hx hr (hK _ _ h)
end
theorem alloc_unit (w : World) : (Instr.alloc 29 true (.tuple #[])).run Try.prog w = .ok (.pointer (some ⟨w.heap.size, 0, none⟩)) (w.alloc (.cells ([.bool false, .int .i64 0, .int .i64 0, .int .i64 0] : List Value).toArray 29)) := by kernel_rfl
def zNodeL : List Value := [.int .i64 0, .int .i64 0, .string ⟨#[]⟩, .int .i64 0, .int .i64 0, .bool false, .int .i64 0, .int .i64 0, .int .i64 0, .slice none 0 0]
theorem alloc_node (w : World) : (Instr.alloc 32 true (.tuple #[])).run Try.prog w = .ok (.pointer (some ⟨w.heap.size, 0, none⟩)) (w.alloc (.cells zNodeL.toArray 32)) := by kernel_rfl
/-- A node's box is made and filled. -/
theorem wl_nbox {ops : Array Oper} {rest : List Oper} {o1 o2 : Oper} {a : Act} {v : World} {Q : Exit → Act → World → Prop} {L : List Value} (g1 : o1.guard = none) (g2 : o2.guard = none) (h1 : o1.op = .alloc 32) {x2 y2 : Operand} (h2 : o2.op = .store 32 x2 y2) (hL : L.length = 10) (oL : ∀ u ∈ L, u.oneCell' = true)
  (hx : (a.put o1.dst (.pointer (some ⟨v.heap.size, 0, none⟩))).eval x2 = .pointer (some ⟨v.heap.size, 0, none⟩)) (hy : (a.put o1.dst (.pointer (some ⟨v.heap.size, 0, none⟩))).eval y2 = .agg L.toArray)
  (h : ∀ V : World, RowKit.Below v.heap.size v V → V.heap.size = v.heap.size + 1 → BoxL V v.heap.size L → wpList Try.prog ops Q rest ((a.put o1.dst (.pointer (some ⟨v.heap.size, 0, none⟩))).put o2.dst undef) V) :
  wpList Try.prog ops Q (o1 :: o2 :: rest) a v := by
 have b1 := (Below.refl v.heap.size v).alloc (Nat.le_refl _) (.cells zNodeL.toArray 32)
 have D := BoxL.new v zNodeL 32
 have hs : (v.alloc (.cells zNodeL.toArray 32)).heap.size = v.heap.size + 1 := by simp
 refine wl_alloc g1 h1 (alloc_node v) ?_
 generalize v.alloc (.cells zNodeL.toArray 32) = V0 at *
 refine wl_store g2 h2 hx hy (store_row 32 10 (by kernel_rfl) V0 v.heap.size zNodeL L D rfl hL oL) ?_
 have k1 := kept_setCells (b := v.heap.size) (w := V0) L 0 V0 (Kept.refl _ _)
 refine h _ (b1.trans (k1.below (Nat.le_refl _) (by omega))) (by rw [setCells_size]; exact hs) (D.cells (by rw [hL]; rfl))
def zUnitL : List Value := [.bool false, .int .i64 0, .int .i64 0, .int .i64 0]
/-- A unit's box is made and filled. -/
theorem wl_ubox {ops : Array Oper} {rest : List Oper} {o1 o2 : Oper} {a : Act} {v : World} {Q : Exit → Act → World → Prop} {L : List Value} (g1 : o1.guard = none) (g2 : o2.guard = none) (h1 : o1.op = .alloc 29) {x2 y2 : Operand} (h2 : o2.op = .store 29 x2 y2) (hL : L.length = 4) (oL : ∀ u ∈ L, u.oneCell' = true)
  (hx : (a.put o1.dst (.pointer (some ⟨v.heap.size, 0, none⟩))).eval x2 = .pointer (some ⟨v.heap.size, 0, none⟩)) (hy : (a.put o1.dst (.pointer (some ⟨v.heap.size, 0, none⟩))).eval y2 = .agg L.toArray)
  (h : ∀ V : World, RowKit.Below v.heap.size v V → V.heap.size = v.heap.size + 1 → BoxL V v.heap.size L → wpList Try.prog ops Q rest ((a.put o1.dst (.pointer (some ⟨v.heap.size, 0, none⟩))).put o2.dst undef) V) :
  wpList Try.prog ops Q (o1 :: o2 :: rest) a v := by
 have b1 := (Below.refl v.heap.size v).alloc (Nat.le_refl _) (.cells zUnitL.toArray 29)
 have D := BoxL.new v zUnitL 29
 have hs : (v.alloc (.cells zUnitL.toArray 29)).heap.size = v.heap.size + 1 := by simp
 refine wl_alloc g1 h1 (alloc_unit v) ?_
 change wpList _ _ _ _ _ (v.alloc (.cells zUnitL.toArray 29))
 generalize v.alloc (.cells zUnitL.toArray 29) = V0 at *
 refine wl_store g2 h2 hx hy (store_row 29 4 (by kernel_rfl) V0 v.heap.size zUnitL L D rfl hL oL) ?_
 have k1 := kept_setCells (b := v.heap.size) (w := V0) L 0 V0 (Kept.refl _ _)
 refine h _ (b1.trans (k1.below (Nat.le_refl _) (by omega))) (by rw [setCells_size]; exact hs) (D.cells (by rw [hL]; rfl))
theorem below_kept {w u v : World} {b : Nat} (h : RowKit.Below w.heap.size w u) (k : Kept b u v) (hb : w.heap.size ≤ b) : RowKit.Below w.heap.size w v :=
 h.trans (k.below hb h.size)
/-- The frame of head, whatever is in the temporaries that are not read any more. -/
inductive HdA (v1 v2 v3 v4 v5 v6 v7 v8 v9 v10 v11 v12 v13 v14 v15 v16 v17 v18 v19 v20 : Value) : Act → Prop where
 | mk (u0 u21 u22 u23 u24 u25 u26 u27 u28 u29 u30 u31 u32 u33 u34 u35 u36 u37 u38 u39 u40 u41 u42 u43 u44 u45 u46 u47 u48 u49 u50 u51 u52 u53 u54 u55 u56 u57 u58 u59 u60 u61 u62 u63 u64 u65 u66 u67 u68 u69 u70 u71 u72 u73 u74 u75 u76 u77 u78 u79 u80 u81 u82 u83 u84 u85 u86 u87 u88 u89 u90 u91 u92 u93 u94 u95 u96 u97 u98 u99 u100 u101 u102 u103 u104 u105 u106 u107 u108 u109 u110 u111 u112 u113 u114 u115 u116 u117 u118 u119 u120 u121 u122 u123 u124 u125 u126 u127 u128 u129 u130 u131 u132 u133 u134 u135 u136 u137 u138 u139 u140 u141 u142 u143 u144 u145 u146 : Value) : HdA v1 v2 v3 v4 v5 v6 v7 v8 v9 v10 v11 v12 v13 v14 v15 v16 v17 v18 v19 v20 { tmps := List.toArray (u0 :: v1 :: v2 :: v3 :: v4 :: v5 :: v6 :: v7 :: v8 :: v9 :: v10 :: v11 :: v12 :: v13 :: v14 :: v15 :: v16 :: v17 :: v18 :: v19 :: v20 :: u21 :: u22 :: u23 :: u24 :: u25 :: u26 :: u27 :: u28 :: u29 :: u30 :: u31 :: u32 :: u33 :: u34 :: u35 :: u36 :: u37 :: u38 :: u39 :: u40 :: u41 :: u42 :: u43 :: u44 :: u45 :: u46 :: u47 :: u48 :: u49 :: u50 :: u51 :: u52 :: u53 :: u54 :: u55 :: u56 :: u57 :: u58 :: u59 :: u60 :: u61 :: u62 :: u63 :: u64 :: u65 :: u66 :: u67 :: u68 :: u69 :: u70 :: u71 :: u72 :: u73 :: u74 :: u75 :: u76 :: u77 :: u78 :: u79 :: u80 :: u81 :: u82 :: u83 :: u84 :: u85 :: u86 :: u87 :: u88 :: u89 :: u90 :: u91 :: u92 :: u93 :: u94 :: u95 :: u96 :: u97 :: u98 :: u99 :: u100 :: u101 :: u102 :: u103 :: u104 :: u105 :: u106 :: u107 :: u108 :: u109 :: u110 :: u111 :: u112 :: u113 :: u114 :: u115 :: u116 :: u117 :: u118 :: u119 :: u120 :: u121 :: u122 :: u123 :: u124 :: u125 :: u126 :: u127 :: u128 :: u129 :: u130 :: u131 :: u132 :: u133 :: u134 :: u135 :: u136 :: u137 :: u138 :: u139 :: u140 :: u141 :: u142 :: u143 :: u144 :: u145 :: u146 :: []), defers := [] }
end Go.Proofs.Ytoaonficdkgfiaa
