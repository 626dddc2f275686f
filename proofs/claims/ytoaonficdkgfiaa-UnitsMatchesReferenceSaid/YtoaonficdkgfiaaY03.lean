/- Texts on units: UBas UNode USml UHlp UMen -/
import Derived.Test.YtoaonficdkgfiaaY02
import Derived.Test.YtoaonficdkgfiaaY01
namespace Go.Proofs.Ytoaonficdkgfiaa
open Go.RowKit Un

set_option maxRecDepth 100000 in
set_option maxHeartbeats 4000000 in
theorem uisBasic_any (u : U) (w : World) : Calls Try.prog 59 #[.agg #[.bool u.f, .int .i64 u.m, .int .i64 u.a, .int .i64 u.d]] w fun e w' => e = .returned (.bool (basic u)) ∧ RowKit.Below w.heap.size w w' := by
 have HB := Lib.hid (Below.refl w.heap.size w)
 obtain ⟨f, m, a, d⟩ := u
 simp only
 obtain ⟨R, hR⟩ : ∃ R, R = basic ⟨f, m, a, d⟩ := ⟨_, rfl⟩
 rw [← hR]
 have HR := Lib.hid hR
 clear hR
 cases f with
 | true =>
  go_enter Try.func59, Try.ntmps59
  go_wp2_with fail
  all_goals
   go_ret
   refine ⟨ret_bool ?_, (by repeat' (first | (with_reducible exact HB.out) | (with_reducible refine Below.setCell ?_ ?_ _) | (with_reducible refine Below.alloc ?_ ?_ _) | (with_reducible refine Below.drew ?_) | (with_reducible refine below_drewN ?_ _) | (with_reducible exact Below.refl _ _) | omega | (simp; done) | (simp; omega)))⟩
   rw [HR.out]
   simp_all [basic, uFlag, uNum, uMoney, uArea, uDays]
 | false =>
  go_enter Try.func59, Try.ntmps59
  go_wp2_with fail
  all_goals
   go_ret
   refine ⟨ret_bool ?_, (by repeat' (first | (with_reducible exact HB.out) | (with_reducible refine Below.setCell ?_ ?_ _) | (with_reducible refine Below.alloc ?_ ?_ _) | (with_reducible refine Below.drew ?_) | (with_reducible refine below_drewN ?_ _) | (with_reducible exact Below.refl _ _) | omega | (simp; done) | (simp; omega)))⟩
   rw [HR.out]
   simp_all [basic, uFlag, uNum, uMoney, uArea, uDays]
theorem rFlag_any (w : World) : Calls Try.prog 27 #[] w fun e w' => e = .returned (.agg #[.bool true, .int .i64 0, .int .i64 0, .int .i64 0]) ∧ RowKit.Below w.heap.size w w' := by
 have HB := Lib.hid (Below.refl w.heap.size w)
 go_enter Try.func27, Try.ntmps27
 go_wp2_with fail
 exact bodyPost_ret (v := .agg #[.bool true, .int .i64 0, .int .i64 0, .int .i64 0]) (by simp [results, Try.results27, go_sem]) rfl ⟨rfl, (by repeat' (first | (with_reducible exact HB.out) | (with_reducible refine Below.setCell ?_ ?_ _) | (with_reducible refine Below.alloc ?_ ?_ _) | (with_reducible refine Below.drew ?_) | (with_reducible refine below_drewN ?_ _) | (with_reducible exact Below.refl _ _) | omega | (simp; done) | (simp; omega)))⟩
theorem rNumber_any (w : World) : Calls Try.prog 51 #[] w fun e w' => e = .returned (.agg #[.bool false, .int .i64 0, .int .i64 0, .int .i64 0]) ∧ RowKit.Below w.heap.size w w' := by
 have HB := Lib.hid (Below.refl w.heap.size w)
 go_enter Try.func51, Try.ntmps51
 go_wp2_with fail
 exact bodyPost_ret (v := .agg #[.bool false, .int .i64 0, .int .i64 0, .int .i64 0]) (by simp [results, Try.results51, go_sem]) rfl ⟨rfl, (by repeat' (first | (with_reducible exact HB.out) | (with_reducible refine Below.setCell ?_ ?_ _) | (with_reducible refine Below.alloc ?_ ?_ _) | (with_reducible refine Below.drew ?_) | (with_reducible refine below_drewN ?_ _) | (with_reducible exact Below.refl _ _) | omega | (simp; done) | (simp; omega)))⟩
theorem rMoney_any (w : World) : Calls Try.prog 33 #[] w fun e w' => e = .returned (.agg #[.bool false, .int .i64 1, .int .i64 0, .int .i64 0]) ∧ RowKit.Below w.heap.size w w' := by
 have HB := Lib.hid (Below.refl w.heap.size w)
 go_enter Try.func33, Try.ntmps33
 go_wp2_with fail
 exact bodyPost_ret (v := .agg #[.bool false, .int .i64 1, .int .i64 0, .int .i64 0]) (by simp [results, Try.results33, go_sem]) rfl ⟨rfl, (by repeat' (first | (with_reducible exact HB.out) | (with_reducible refine Below.setCell ?_ ?_ _) | (with_reducible refine Below.alloc ?_ ?_ _) | (with_reducible refine Below.drew ?_) | (with_reducible refine below_drewN ?_ _) | (with_reducible exact Below.refl _ _) | omega | (simp; done) | (simp; omega)))⟩
theorem rDays_any (w : World) : Calls Try.prog 52 #[] w fun e w' => e = .returned (.agg #[.bool false, .int .i64 0, .int .i64 0, .int .i64 1]) ∧ RowKit.Below w.heap.size w w' := by
 have HB := Lib.hid (Below.refl w.heap.size w)
 go_enter Try.func52, Try.ntmps52
 go_wp2_with fail
 exact bodyPost_ret (v := .agg #[.bool false, .int .i64 0, .int .i64 0, .int .i64 1]) (by simp [results, Try.results52, go_sem]) rfl ⟨rfl, (by repeat' (first | (with_reducible exact HB.out) | (with_reducible refine Below.setCell ?_ ?_ _) | (with_reducible refine Below.alloc ?_ ?_ _) | (with_reducible refine Below.drew ?_) | (with_reducible refine below_drewN ?_ _) | (with_reducible exact Below.refl _ _) | omega | (simp; done) | (simp; omega)))⟩
set_option maxRecDepth 100000 in
set_option maxHeartbeats 4000000 in
theorem uisBounded_any (nm : ByteArray) (u : U) (lo hi pl : Int) (w : World) : Calls Try.prog 60 #[.agg #[.string nm, .bool u.f, .int .i64 u.m, .int .i64 u.a, .int .i64 u.d, .int .i64 lo, .int .i64 hi, .int .i64 pl]] w fun e w' => e = .returned (.bool (decide (0 ≤ lo) && decide (lo ≤ hi) && decide (hi ≤ 1000000) && (!u.f || decide (hi ≤ 1)))) ∧ RowKit.Below w.heap.size w w' := by
 have HB := Lib.hid (Below.refl w.heap.size w)
 obtain ⟨f, m, a, d⟩ := u
 simp only
 obtain ⟨R, hR⟩ : ∃ R, R = (decide (0 ≤ lo) && decide (lo ≤ hi) && decide (hi ≤ 1000000) && (!f || decide (hi ≤ 1))) := ⟨_, rfl⟩
 rw [← hR]
 have HR := Lib.hid hR
 clear hR
 cases f with
 | true =>
  go_enter Try.func60, Try.ntmps60
  go_wp2_with fail
  all_goals
   go_ret
   refine ⟨ret_bool ?_, (by repeat' (first | (with_reducible exact HB.out) | (with_reducible refine Below.setCell ?_ ?_ _) | (with_reducible refine Below.alloc ?_ ?_ _) | (with_reducible refine Below.drew ?_) | (with_reducible refine below_drewN ?_ _) | (with_reducible exact Below.refl _ _) | omega | (simp; done) | (simp; omega)))⟩
   rw [HR.out, Bool.eq_iff_iff]
   simp only [Bool.and_eq_true, decide_eq_true_eq, Bool.not_true, Bool.false_or] at *
   first | omega | (simp_all; done) | (simp_all; omega)
 | false =>
  go_enter Try.func60, Try.ntmps60
  go_wp2_with fail
  all_goals
   go_ret
   refine ⟨ret_bool ?_, (by repeat' (first | (with_reducible exact HB.out) | (with_reducible refine Below.setCell ?_ ?_ _) | (with_reducible refine Below.alloc ?_ ?_ _) | (with_reducible refine Below.drew ?_) | (with_reducible refine below_drewN ?_ _) | (with_reducible exact Below.refl _ _) | omega | (simp; done) | (simp; omega)))⟩
   rw [HR.out, Bool.eq_iff_iff]
   simp only [Bool.and_eq_true, decide_eq_true_eq, Bool.not_false, Bool.true_or] at *
   first | omega | (simp_all; done) | (simp_all; omega)
set_option maxRecDepth 100000 in
set_option maxHeartbeats 4000000 in
theorem rbounds_any (nm : ByteArray) (u : U) (lo hi pl : Int) (w : World) : Calls Try.prog 65 #[.agg #[.string nm, .bool u.f, .int .i64 u.m, .int .i64 u.a, .int .i64 u.d, .int .i64 lo, .int .i64 hi, .int .i64 pl]] w fun e w' => e = .returned (.bool (decide (0 ≤ lo) && decide (lo ≤ hi) && decide (hi ≤ 1000000) && (!u.f || decide (hi ≤ 1)))) ∧ RowKit.Below w.heap.size w w' := by
 have HB := Lib.hid (Below.refl w.heap.size w)
 obtain ⟨f, m, a, d⟩ := u
 simp only
 obtain ⟨R, hR⟩ : ∃ R, R = (decide (0 ≤ lo) && decide (lo ≤ hi) && decide (hi ≤ 1000000) && (!f || decide (hi ≤ 1))) := ⟨_, rfl⟩
 rw [← hR]
 have HR := Lib.hid hR
 clear hR
 cases f with
 | true =>
  go_enter Try.func65, Try.ntmps65
  go_wp2_with fail
  all_goals
   go_ret
   refine ⟨ret_bool ?_, (by repeat' (first | (with_reducible exact HB.out) | (with_reducible refine Below.setCell ?_ ?_ _) | (with_reducible refine Below.alloc ?_ ?_ _) | (with_reducible refine Below.drew ?_) | (with_reducible refine below_drewN ?_ _) | (with_reducible exact Below.refl _ _) | omega | (simp; done) | (simp; omega)))⟩
   rw [HR.out, Bool.eq_iff_iff]
   simp only [Bool.and_eq_true, decide_eq_true_eq, Bool.not_true, Bool.false_or] at *
   first | omega | (simp_all; done) | (simp_all; omega)
 | false =>
  go_enter Try.func65, Try.ntmps65
  go_wp2_with fail
  all_goals
   go_ret
   refine ⟨ret_bool ?_, (by repeat' (first | (with_reducible exact HB.out) | (with_reducible refine Below.setCell ?_ ?_ _) | (with_reducible refine Below.alloc ?_ ?_ _) | (with_reducible refine Below.drew ?_) | (with_reducible refine below_drewN ?_ _) | (with_reducible exact Below.refl _ _) | omega | (simp; done) | (simp; omega)))⟩
   rw [HR.out, Bool.eq_iff_iff]
   simp only [Bool.and_eq_true, decide_eq_true_eq, Bool.not_false, Bool.true_or] at *
   first | omega | (simp_all; done) | (simp_all; omega)
theorem uneed_ok (E at0 : Int) (w : World) : Calls Try.prog 55 #[.bool true, .int .i64 E, .int .i64 at0] w fun e w' => e = .returned (.tuple #[]) ∧ w' = w := by
 go_enter Try.func55, Try.ntmps55
 go_wp2_with fail
 go_end0
 exact ⟨rfl, rfl⟩
/-- The panic by which a check gives up. -/
def failU (E at0 : Int) : List PanicEntry := [{ v := .iface 83 (.agg #[.int .i64 at0, .int .i64 E]), recovered := false }]
theorem uneed_er (E at0 : Int) (w : World) : Calls Try.prog 55 #[.bool false, .int .i64 E, .int .i64 at0] w fun e w' => e = .panicked (failU E at0) ∧ w' = w := by
 go_enter Try.func55, Try.ntmps55
 go_wp2_with fail
 exact bodyPost_panic rfl ⟨rfl, rfl⟩
set_option maxRecDepth 100000 in
set_option maxHeartbeats 4000000 in
theorem uisAmount_any (op pl : Int) (nm : ByteArray) (n d : Int) (u : U) (q : Option Addr) (k c : Nat) (w : World) : Calls Try.prog 56 #[.agg #[.int .i64 op, .int .i64 pl, .string nm, .int .i64 n, .int .i64 d, .bool u.f, .int .i64 u.m, .int .i64 u.a, .int .i64 u.d, .slice q k c]] w fun e w' => e = .returned (.bool (!u.f && (u.m == 0 || d == 1))) ∧ RowKit.Below w.heap.size w w' := by
 have HB := Lib.hid (Below.refl w.heap.size w)
 obtain ⟨f, m, a, z⟩ := u
 simp only
 obtain ⟨R, hR⟩ : ∃ R, R = (!f && (m == 0 || d == 1)) := ⟨_, rfl⟩
 rw [← hR]
 have HR := Lib.hid hR
 clear hR
 cases f with
 | true =>
  go_enter Try.func56, Try.ntmps56
  go_wp2_with fail
  all_goals
   go_ret
   refine ⟨ret_bool ?_, (by repeat' (first | (with_reducible exact HB.out) | (with_reducible refine Below.setCell ?_ ?_ _) | (with_reducible refine Below.alloc ?_ ?_ _) | (with_reducible refine Below.drew ?_) | (with_reducible refine below_drewN ?_ _) | (with_reducible exact Below.refl _ _) | omega | (simp; done) | (simp; omega)))⟩
   rw [HR.out]
   simp_all
 | false =>
  go_enter Try.func56, Try.ntmps56
  go_wp2_with fail
  all_goals
   go_ret
   refine ⟨ret_bool ?_, (by repeat' (first | (with_reducible exact HB.out) | (with_reducible refine Below.setCell ?_ ?_ _) | (with_reducible refine Below.alloc ?_ ?_ _) | (with_reducible refine Below.drew ?_) | (with_reducible refine below_drewN ?_ _) | (with_reducible exact Below.refl _ _) | omega | (simp; done) | (simp; omega)))⟩
   rw [HR.out]
   simp_all
end Go.Proofs.Ytoaonficdkgfiaa
namespace Go.Proofs.Ytoaonficdkgfiaa
open Go.RowKit Un

def in64 (n : Int) : Prop := -9223372036854775808 ≤ n ∧ n ≤ 9223372036854775807
/-- Is a node as it must be, but for its operands? -/
def okN (op : Int) (nm : List UInt8) (n d : Int) (u : U) (kl : Nat) : Bool := decide ((kl : Int) = arity op) && (if op = 1 then nm.isEmpty && (vld n d && decide (0 ≤ n) && basic u) else if op = 2 then isName nm && (n == 0 && d == 0 && u == uNum) else nm.isEmpty && (n == 0 && d == 0 && u == uNum))
theorem okN_eq (op pl : Int) (nm : List UInt8) (n d : Int) (u : U) (ks : List Nd) : okNode vld (.mk op pl nm n d u ks) = okN op nm n d u ks.length := rfl
theorem nm_test (nm : List UInt8) : ((bs nm).toList == []) = nm.isEmpty := by rw [bs_list]; cases nm <;> rfl
/-- The frame of isNode, whatever is in the temporaries that are not read any more. -/
inductive IsN (A : Nat) (x2 x3 x4 : Value) : Act → Prop where
 | mk (u0 u5 u6 u7 u8 u9 u10 u11 u12 u13 u14 u15 u16 u17 u18 u19 u20 u21 u22 u23 u24 u25 u26 u27 u28 u29 u30 u31 u32 u33 u34 u35 u36 u37 u38 u39 u40 u41 u42 u43 u44 u45 u46 u47 u48 u49 u50 u51 u52 u53 u54 u55 u56 u57 u58 u59 u60 u61 u62 u63 u64 u65 u66 : Value) : IsN A x2 x3 x4 { tmps := List.toArray (u0 :: .pointer (some ⟨A, 0, none⟩) :: x2 :: x3 :: x4 :: u5 :: u6 :: u7 :: u8 :: u9 :: u10 :: u11 :: u12 :: u13 :: u14 :: u15 :: u16 :: u17 :: u18 :: u19 :: u20 :: u21 :: u22 :: u23 :: u24 :: u25 :: u26 :: u27 :: u28 :: u29 :: u30 :: u31 :: u32 :: u33 :: u34 :: u35 :: u36 :: u37 :: u38 :: u39 :: u40 :: u41 :: u42 :: u43 :: u44 :: u45 :: u46 :: u47 :: u48 :: u49 :: u50 :: u51 :: u52 :: u53 :: u54 :: u55 :: u56 :: u57 :: u58 :: u59 :: u60 :: u61 :: u62 :: u63 :: u64 :: u65 :: u66 :: []), defers := [] }
set_option maxRecDepth 100000 in
set_option maxHeartbeats 8000000 in
theorem uisNode_any (op pl : Int) (nm : List UInt8) (n d : Int) (u : U) (q : Option Addr) (kl c : Nat) (hn : in64 n) (hd : in64 d) (hkl : kl ≤ 9223372036854775807) (w : World) :
  Calls Try.prog 83 #[.agg #[.int .i64 op, .int .i64 pl, .string (bs nm), .int .i64 n, .int .i64 d, .bool u.f, .int .i64 u.m, .int .i64 u.a, .int .i64 u.d, .slice q kl c]] w fun e w' => e = .returned (.bool (okN op nm n d u kl)) ∧ RowKit.Below w.heap.size w w' := by
 obtain ⟨R, hR⟩ : ∃ R, R = okN op nm n d u kl := ⟨_, rfl⟩
 rw [← hR]
 have HR := Lib.hid hR
 have KV := Lib.hid (fun w => valid_any n d w hn.1 hn.2 hd.1 hd.2)
 have KN := Lib.hid (fun w => uisName_any nm w)
 have KB := Lib.hid (fun w => uisBasic_any u w)
 have e1 := nm_test nm
 obtain ⟨E, hE⟩ : ∃ E, nm.isEmpty = E := ⟨_, rfl⟩
 rw [hE] at e1
 have HE := Lib.hid hE
 generalize bs nm = s at *
 obtain ⟨f, m, a, z⟩ := u
 simp only at KB ⊢
 clear hR hE hn hd
 obtain ⟨b, hb⟩ : ∃ b, b = (n == 0 && d == 0 && (⟨f, m, a, z⟩ : U) == uNum) := ⟨_, rfl⟩
 have HBB := Lib.hid hb
 have B := Lib.hid ((Below.refl w.heap.size w).alloc (Nat.le_refl _) (.cells #[.int .i64 op, .int .i64 pl, .string s, .int .i64 n, .int .i64 d, .bool f, .int .i64 m, .int .i64 a, .int .i64 z, .slice q kl c] 32))
 have D := Lib.hid (BoxL.new w [.int .i64 op, .int .i64 pl, .string s, .int .i64 n, .int .i64 d, .bool f, .int .i64 m, .int .i64 a, .int .i64 z, .slice q kl c] 32)
 clear hb
 obtain ⟨A, hA⟩ : ∃ A, A = w.heap.size := ⟨_, rfl⟩
 have HA := Lib.hid hA
 clear hA
 go_enter Try.func83, Try.ntmps83
 obtain ⟨K0, hK0⟩ : ∃ K0 : Act → World → Prop, K0 = (fun act V => IsN A (.bool false) undef undef act ∧ Hid (BoxL V A [.int .i64 op, .int .i64 pl, .string s, .int .i64 n, .int .i64 d, .bool f, .int .i64 m, .int .i64 a, .int .i64 z, .slice q kl c]) ∧ Hid (RowKit.Below w.heap.size w V)) := ⟨_, rfl⟩
 have HK0 := Lib.hid hK0
 clear hK0
 refine wp_seq_cut K0 ?_ ?_
 rotate_left
 ·intro J K hJ hK
  have HJ := Lib.hid hJ
  clear hJ
  go_wp2_with fail
  refine Handed.intro 0 (by decide) (HJ.out 0 _ _ ?_)
  rw [HK0.out]
  rw [HA.out]
  exact ⟨by constructor, D, B⟩
 clear B D
 rw [HK0.out]
 clear HK0
 rintro act v ⟨ha, D, B⟩
 cases ha
 obtain ⟨K0, hK0⟩ : ∃ K0 : Act → World → Prop, K0 = (fun act V => IsN A (.bool false) (.bool E) undef act ∧ Hid (BoxL V A [.int .i64 op, .int .i64 pl, .string s, .int .i64 n, .int .i64 d, .bool f, .int .i64 m, .int .i64 a, .int .i64 z, .slice q kl c]) ∧ Hid (RowKit.Below w.heap.size w V)) := ⟨_, rfl⟩
 have HK0 := Lib.hid hK0
 clear hK0
 refine wp_seq_cut K0 ?_ ?_
 rotate_left
 ·intro J K hJ hK
  have HJ := Lib.hid hJ
  clear hJ
  obtain ⟨c2, f2⟩ := D.out 2 _ rfl
  go_wp2_with fail
  refine Handed.intro 0 (by decide) (HJ.out 0 _ _ ?_)
  rw [HK0.out]
  exact ⟨by constructor, D, B⟩
 clear B D e1
 rw [HK0.out]
 clear HK0
 rintro act v ⟨ha, D, B⟩
 cases ha
 obtain ⟨K0, hK0⟩ : ∃ K0 : Act → World → Prop, K0 = (fun act V => IsN A (.bool false) (.bool E) (.bool b) act ∧ Hid (BoxL V A [.int .i64 op, .int .i64 pl, .string s, .int .i64 n, .int .i64 d, .bool f, .int .i64 m, .int .i64 a, .int .i64 z, .slice q kl c]) ∧ Hid (RowKit.Below w.heap.size w V)) := ⟨_, rfl⟩
 have HK0 := Lib.hid hK0
 clear hK0
 refine wp_seq_cut K0 ?_ ?_
 rotate_left
 ·intro J K hJ hK
  have HJ := Lib.hid hJ
  clear hJ
  obtain ⟨c3, f3⟩ := D.out 3 _ rfl
  obtain ⟨c4, f4⟩ := D.out 4 _ rfl
  obtain ⟨c5, f5⟩ := D.out 5 _ rfl
  obtain ⟨c6, f6⟩ := D.out 6 _ rfl
  obtain ⟨c7, f7⟩ := D.out 7 _ rfl
  obtain ⟨c8, f8⟩ := D.out 8 _ rfl
  go_wp2_with fail
  all_goals
   refine Handed.intro 0 (by decide) (HJ.out 0 _ _ ?_)
   rw [HK0.out]
   first
    | (obtain rfl : b = true := (by rw [HBB.out]; simp_all [uNum]; done); exact ⟨by constructor, D, B⟩)
    | (obtain rfl : b = false := (by rw [HBB.out]; simp_all [uNum]; done); exact ⟨by constructor, D, B⟩)
 clear B D
 rw [HK0.out]
 clear HK0
 rintro act v ⟨ha, D, B⟩
 cases ha
 by_cases h1 : op = 1
 ·subst h1
  have HRF : Hid (R = (decide ((kl : Int) = 0) && (E && (vld n d && decide (0 ≤ n) && basic ⟨f, m, a, z⟩)))) := by show _ = _; rw [HR.out, okN, if_pos rfl, HE.out]; rfl
  clear HR KN HE
  generalize vld n d = vv at *
  generalize basic ⟨f, m, a, z⟩ = bb at *
  obtain ⟨c0, f0⟩ := D.out 0 _ rfl
  obtain ⟨c2, f2⟩ := D.out 2 _ rfl
  obtain ⟨c3, f3⟩ := D.out 3 _ rfl
  obtain ⟨c4, f4⟩ := D.out 4 _ rfl
  obtain ⟨c5, f5⟩ := D.out 5 _ rfl
  obtain ⟨c6, f6⟩ := D.out 6 _ rfl
  obtain ⟨c7, f7⟩ := D.out 7 _ rfl
  obtain ⟨c8, f8⟩ := D.out 8 _ rfl
  obtain ⟨c9, f9⟩ := D.out 9 _ rfl
  cases E <;>
  cases vv <;>
  cases bb <;>
  (
   go_wp2_with (first
    | ((with_reducible show Calls _ 93 _ _ _); refine (KV.out _).mono ?_; rintro _ v1 ⟨rfl, hb⟩; have D2 := D.out.bel (Nat.succ_pos _) hb; replace B := Lib.hid (B.out.trans (hb.mono B.out.size)); clear hb; obtain ⟨c3, f3⟩ := D2 3 _ rfl; obtain ⟨c5, f5⟩ := D2 5 _ rfl; obtain ⟨c6, f6⟩ := D2 6 _ rfl; obtain ⟨c7, f7⟩ := D2 7 _ rfl; obtain ⟨c8, f8⟩ := D2 8 _ rfl; obtain ⟨c9, f9⟩ := D2 9 _ rfl; replace D := Lib.hid D2; clear D2)
    | ((with_reducible show Calls _ 59 _ _ _); refine (KB.out _).mono ?_; rintro _ v2 ⟨rfl, hb⟩; have D2 := D.out.bel (Nat.succ_pos _) hb; replace B := Lib.hid (B.out.trans (hb.mono B.out.size)); clear hb; obtain ⟨c9, f9⟩ := D2 9 _ rfl; replace D := Lib.hid D2; clear D2)
    | ((with_reducible show Calls _ 58 _ _ _); refine (KN.out _).mono ?_; rintro _ v3 ⟨rfl, hw⟩; obtain rfl := hw.symm))
   all_goals
    go_ret
    refine ⟨ret_bool ?_, B.out⟩
    rw [HRF.out]
    simp_all <;> (rw [Bool.eq_iff_iff, beq_iff_eq, decide_eq_true_eq]; try omega)
  )
 ·have e1 : (op == 1) = false := by simpa using h1
  by_cases h2 : op = 2
  ·subst h2
   have HRF : Hid (R = (decide ((kl : Int) = 0) && (isName nm && b))) := by show _ = _; rw [HR.out, okN, if_neg (by decide), if_pos rfl, HBB.out]; rfl
   clear HR HE
   generalize isName nm = nn at *
   obtain ⟨c0, f0⟩ := D.out 0 _ rfl
   obtain ⟨c2, f2⟩ := D.out 2 _ rfl
   obtain ⟨c3, f3⟩ := D.out 3 _ rfl
   obtain ⟨c4, f4⟩ := D.out 4 _ rfl
   obtain ⟨c5, f5⟩ := D.out 5 _ rfl
   obtain ⟨c6, f6⟩ := D.out 6 _ rfl
   obtain ⟨c7, f7⟩ := D.out 7 _ rfl
   obtain ⟨c8, f8⟩ := D.out 8 _ rfl
   obtain ⟨c9, f9⟩ := D.out 9 _ rfl
   cases nn <;>
   cases b <;>
   (
    go_wp2_with (first
     | ((with_reducible show Calls _ 93 _ _ _); refine (KV.out _).mono ?_; rintro _ v1 ⟨rfl, hb⟩; have D2 := D.out.bel (Nat.succ_pos _) hb; replace B := Lib.hid (B.out.trans (hb.mono B.out.size)); clear hb; obtain ⟨c3, f3⟩ := D2 3 _ rfl; obtain ⟨c5, f5⟩ := D2 5 _ rfl; obtain ⟨c6, f6⟩ := D2 6 _ rfl; obtain ⟨c7, f7⟩ := D2 7 _ rfl; obtain ⟨c8, f8⟩ := D2 8 _ rfl; obtain ⟨c9, f9⟩ := D2 9 _ rfl; replace D := Lib.hid D2; clear D2)
     | ((with_reducible show Calls _ 59 _ _ _); refine (KB.out _).mono ?_; rintro _ v2 ⟨rfl, hb⟩; have D2 := D.out.bel (Nat.succ_pos _) hb; replace B := Lib.hid (B.out.trans (hb.mono B.out.size)); clear hb; obtain ⟨c9, f9⟩ := D2 9 _ rfl; replace D := Lib.hid D2; clear D2)
     | ((with_reducible show Calls _ 58 _ _ _); refine (KN.out _).mono ?_; rintro _ v3 ⟨rfl, hw⟩; obtain rfl := hw.symm))
    all_goals
     go_ret
     refine ⟨ret_bool ?_, B.out⟩
     rw [HRF.out]
     simp_all <;> (rw [Bool.eq_iff_iff, beq_iff_eq, decide_eq_true_eq]; try omega)
   )
  ·have e2 : (op == 2) = false := by simpa using h2
   have HRF : Hid (R = (decide ((kl : Int) = arity op) && (E && b))) := by show _ = _; rw [HR.out, okN, if_neg h1, if_neg h2, HBB.out, HE.out]
   clear HR HE
   by_cases h17 : op = 17
   ·subst h17
    rw [show arity 17 = 0 from rfl] at HRF
    obtain ⟨c0, f0⟩ := D.out 0 _ rfl
    obtain ⟨c2, f2⟩ := D.out 2 _ rfl
    obtain ⟨c3, f3⟩ := D.out 3 _ rfl
    obtain ⟨c4, f4⟩ := D.out 4 _ rfl
    obtain ⟨c5, f5⟩ := D.out 5 _ rfl
    obtain ⟨c6, f6⟩ := D.out 6 _ rfl
    obtain ⟨c7, f7⟩ := D.out 7 _ rfl
    obtain ⟨c8, f8⟩ := D.out 8 _ rfl
    obtain ⟨c9, f9⟩ := D.out 9 _ rfl
    cases E <;>
    cases b <;>
    (
     go_wp2_with (first
      | ((with_reducible show Calls _ 93 _ _ _); refine (KV.out _).mono ?_; rintro _ v1 ⟨rfl, hb⟩; have D2 := D.out.bel (Nat.succ_pos _) hb; replace B := Lib.hid (B.out.trans (hb.mono B.out.size)); clear hb; obtain ⟨c3, f3⟩ := D2 3 _ rfl; obtain ⟨c5, f5⟩ := D2 5 _ rfl; obtain ⟨c6, f6⟩ := D2 6 _ rfl; obtain ⟨c7, f7⟩ := D2 7 _ rfl; obtain ⟨c8, f8⟩ := D2 8 _ rfl; obtain ⟨c9, f9⟩ := D2 9 _ rfl; replace D := Lib.hid D2; clear D2)
      | ((with_reducible show Calls _ 59 _ _ _); refine (KB.out _).mono ?_; rintro _ v2 ⟨rfl, hb⟩; have D2 := D.out.bel (Nat.succ_pos _) hb; replace B := Lib.hid (B.out.trans (hb.mono B.out.size)); clear hb; obtain ⟨c9, f9⟩ := D2 9 _ rfl; replace D := Lib.hid D2; clear D2)
      | ((with_reducible show Calls _ 58 _ _ _); refine (KN.out _).mono ?_; rintro _ v3 ⟨rfl, hw⟩; obtain rfl := hw.symm))
     all_goals
      go_ret
      refine ⟨ret_bool ?_, B.out⟩
      rw [HRF.out]
      simp_all <;> (rw [Bool.eq_iff_iff, beq_iff_eq, decide_eq_true_eq]; try omega)
    )
   ·have e17 : (op == 17) = false := by simpa using h17
    by_cases h15 : op = 15
    ·subst h15
     rw [show arity 15 = 1 from rfl] at HRF
     obtain ⟨c0, f0⟩ := D.out 0 _ rfl
     obtain ⟨c2, f2⟩ := D.out 2 _ rfl
     obtain ⟨c3, f3⟩ := D.out 3 _ rfl
     obtain ⟨c4, f4⟩ := D.out 4 _ rfl
     obtain ⟨c5, f5⟩ := D.out 5 _ rfl
     obtain ⟨c6, f6⟩ := D.out 6 _ rfl
     obtain ⟨c7, f7⟩ := D.out 7 _ rfl
     obtain ⟨c8, f8⟩ := D.out 8 _ rfl
     obtain ⟨c9, f9⟩ := D.out 9 _ rfl
     cases E <;>
     cases b <;>
     (
      go_wp2_with (first
       | ((with_reducible show Calls _ 93 _ _ _); refine (KV.out _).mono ?_; rintro _ v1 ⟨rfl, hb⟩; have D2 := D.out.bel (Nat.succ_pos _) hb; replace B := Lib.hid (B.out.trans (hb.mono B.out.size)); clear hb; obtain ⟨c3, f3⟩ := D2 3 _ rfl; obtain ⟨c5, f5⟩ := D2 5 _ rfl; obtain ⟨c6, f6⟩ := D2 6 _ rfl; obtain ⟨c7, f7⟩ := D2 7 _ rfl; obtain ⟨c8, f8⟩ := D2 8 _ rfl; obtain ⟨c9, f9⟩ := D2 9 _ rfl; replace D := Lib.hid D2; clear D2)
       | ((with_reducible show Calls _ 59 _ _ _); refine (KB.out _).mono ?_; rintro _ v2 ⟨rfl, hb⟩; have D2 := D.out.bel (Nat.succ_pos _) hb; replace B := Lib.hid (B.out.trans (hb.mono B.out.size)); clear hb; obtain ⟨c9, f9⟩ := D2 9 _ rfl; replace D := Lib.hid D2; clear D2)
       | ((with_reducible show Calls _ 58 _ _ _); refine (KN.out _).mono ?_; rintro _ v3 ⟨rfl, hw⟩; obtain rfl := hw.symm))
      all_goals
       go_ret
       refine ⟨ret_bool ?_, B.out⟩
       rw [HRF.out]
       simp_all <;> (rw [Bool.eq_iff_iff, beq_iff_eq, decide_eq_true_eq]; try omega)
     )
    ·have e15 : (op == 15) = false := by simpa using h15
     by_cases h16 : op = 16
     ·subst h16
      rw [show arity 16 = 3 from rfl] at HRF
      obtain ⟨c0, f0⟩ := D.out 0 _ rfl
      obtain ⟨c2, f2⟩ := D.out 2 _ rfl
      obtain ⟨c3, f3⟩ := D.out 3 _ rfl
      obtain ⟨c4, f4⟩ := D.out 4 _ rfl
      obtain ⟨c5, f5⟩ := D.out 5 _ rfl
      obtain ⟨c6, f6⟩ := D.out 6 _ rfl
      obtain ⟨c7, f7⟩ := D.out 7 _ rfl
      obtain ⟨c8, f8⟩ := D.out 8 _ rfl
      obtain ⟨c9, f9⟩ := D.out 9 _ rfl
      cases E <;>
      cases b <;>
      (
       go_wp2_with (first
        | ((with_reducible show Calls _ 93 _ _ _); refine (KV.out _).mono ?_; rintro _ v1 ⟨rfl, hb⟩; have D2 := D.out.bel (Nat.succ_pos _) hb; replace B := Lib.hid (B.out.trans (hb.mono B.out.size)); clear hb; obtain ⟨c3, f3⟩ := D2 3 _ rfl; obtain ⟨c5, f5⟩ := D2 5 _ rfl; obtain ⟨c6, f6⟩ := D2 6 _ rfl; obtain ⟨c7, f7⟩ := D2 7 _ rfl; obtain ⟨c8, f8⟩ := D2 8 _ rfl; obtain ⟨c9, f9⟩ := D2 9 _ rfl; replace D := Lib.hid D2; clear D2)
        | ((with_reducible show Calls _ 59 _ _ _); refine (KB.out _).mono ?_; rintro _ v2 ⟨rfl, hb⟩; have D2 := D.out.bel (Nat.succ_pos _) hb; replace B := Lib.hid (B.out.trans (hb.mono B.out.size)); clear hb; obtain ⟨c9, f9⟩ := D2 9 _ rfl; replace D := Lib.hid D2; clear D2)
        | ((with_reducible show Calls _ 58 _ _ _); refine (KN.out _).mono ?_; rintro _ v3 ⟨rfl, hw⟩; obtain rfl := hw.symm))
       all_goals
        go_ret
        refine ⟨ret_bool ?_, B.out⟩
        rw [HRF.out]
        simp_all <;> (rw [Bool.eq_iff_iff, beq_iff_eq, decide_eq_true_eq]; try omega)
      )
     ·have e16 : (op == 16) = false := by simpa using h16
      by_cases h3 : op < 3
      ·have ha : arity op = -1 := by unfold arity; rw [if_neg (by omega), if_neg h15, if_neg h16, if_neg (by omega)]
       rw [ha] at HRF
       have hk0 : ¬ (kl : Int) = -1 := by omega
       clear ha
       obtain ⟨c0, f0⟩ := D.out 0 _ rfl
       obtain ⟨c2, f2⟩ := D.out 2 _ rfl
       obtain ⟨c3, f3⟩ := D.out 3 _ rfl
       obtain ⟨c4, f4⟩ := D.out 4 _ rfl
       obtain ⟨c5, f5⟩ := D.out 5 _ rfl
       obtain ⟨c6, f6⟩ := D.out 6 _ rfl
       obtain ⟨c7, f7⟩ := D.out 7 _ rfl
       obtain ⟨c8, f8⟩ := D.out 8 _ rfl
       obtain ⟨c9, f9⟩ := D.out 9 _ rfl
       cases E <;>
       cases b <;>
       (
        go_wp2_with (first
         | ((with_reducible show Calls _ 93 _ _ _); refine (KV.out _).mono ?_; rintro _ v1 ⟨rfl, hb⟩; have D2 := D.out.bel (Nat.succ_pos _) hb; replace B := Lib.hid (B.out.trans (hb.mono B.out.size)); clear hb; obtain ⟨c3, f3⟩ := D2 3 _ rfl; obtain ⟨c5, f5⟩ := D2 5 _ rfl; obtain ⟨c6, f6⟩ := D2 6 _ rfl; obtain ⟨c7, f7⟩ := D2 7 _ rfl; obtain ⟨c8, f8⟩ := D2 8 _ rfl; obtain ⟨c9, f9⟩ := D2 9 _ rfl; replace D := Lib.hid D2; clear D2)
         | ((with_reducible show Calls _ 59 _ _ _); refine (KB.out _).mono ?_; rintro _ v2 ⟨rfl, hb⟩; have D2 := D.out.bel (Nat.succ_pos _) hb; replace B := Lib.hid (B.out.trans (hb.mono B.out.size)); clear hb; obtain ⟨c9, f9⟩ := D2 9 _ rfl; replace D := Lib.hid D2; clear D2)
         | ((with_reducible show Calls _ 58 _ _ _); refine (KN.out _).mono ?_; rintro _ v3 ⟨rfl, hw⟩; obtain rfl := hw.symm))
        all_goals
         go_ret
         refine ⟨ret_bool ?_, B.out⟩
         rw [HRF.out]
         simp_all <;> (rw [Bool.eq_iff_iff, beq_iff_eq, decide_eq_true_eq]; try omega)
       )
      ·by_cases h14 : 14 < op
       ·have ha : arity op = -1 := by unfold arity; rw [if_neg (by omega), if_neg h15, if_neg h16, if_neg (by omega)]
        rw [ha] at HRF
        have hk0 : ¬ (kl : Int) = -1 := by omega
        clear ha
        obtain ⟨c0, f0⟩ := D.out 0 _ rfl
        obtain ⟨c2, f2⟩ := D.out 2 _ rfl
        obtain ⟨c3, f3⟩ := D.out 3 _ rfl
        obtain ⟨c4, f4⟩ := D.out 4 _ rfl
        obtain ⟨c5, f5⟩ := D.out 5 _ rfl
        obtain ⟨c6, f6⟩ := D.out 6 _ rfl
        obtain ⟨c7, f7⟩ := D.out 7 _ rfl
        obtain ⟨c8, f8⟩ := D.out 8 _ rfl
        obtain ⟨c9, f9⟩ := D.out 9 _ rfl
        cases E <;>
        cases b <;>
        (
         go_wp2_with (first
          | ((with_reducible show Calls _ 93 _ _ _); refine (KV.out _).mono ?_; rintro _ v1 ⟨rfl, hb⟩; have D2 := D.out.bel (Nat.succ_pos _) hb; replace B := Lib.hid (B.out.trans (hb.mono B.out.size)); clear hb; obtain ⟨c3, f3⟩ := D2 3 _ rfl; obtain ⟨c5, f5⟩ := D2 5 _ rfl; obtain ⟨c6, f6⟩ := D2 6 _ rfl; obtain ⟨c7, f7⟩ := D2 7 _ rfl; obtain ⟨c8, f8⟩ := D2 8 _ rfl; obtain ⟨c9, f9⟩ := D2 9 _ rfl; replace D := Lib.hid D2; clear D2)
          | ((with_reducible show Calls _ 59 _ _ _); refine (KB.out _).mono ?_; rintro _ v2 ⟨rfl, hb⟩; have D2 := D.out.bel (Nat.succ_pos _) hb; replace B := Lib.hid (B.out.trans (hb.mono B.out.size)); clear hb; obtain ⟨c9, f9⟩ := D2 9 _ rfl; replace D := Lib.hid D2; clear D2)
          | ((with_reducible show Calls _ 58 _ _ _); refine (KN.out _).mono ?_; rintro _ v3 ⟨rfl, hw⟩; obtain rfl := hw.symm))
         all_goals
          go_ret
          refine ⟨ret_bool ?_, B.out⟩
          rw [HRF.out]
          simp_all <;> (rw [Bool.eq_iff_iff, beq_iff_eq, decide_eq_true_eq]; try omega)
        )
       ·have ha : arity op = 2 := by unfold arity; rw [if_neg (by omega), if_neg h15, if_neg h16, if_pos (by omega)]
        rw [ha] at HRF
        clear ha
        obtain ⟨c0, f0⟩ := D.out 0 _ rfl
        obtain ⟨c2, f2⟩ := D.out 2 _ rfl
        obtain ⟨c3, f3⟩ := D.out 3 _ rfl
        obtain ⟨c4, f4⟩ := D.out 4 _ rfl
        obtain ⟨c5, f5⟩ := D.out 5 _ rfl
        obtain ⟨c6, f6⟩ := D.out 6 _ rfl
        obtain ⟨c7, f7⟩ := D.out 7 _ rfl
        obtain ⟨c8, f8⟩ := D.out 8 _ rfl
        obtain ⟨c9, f9⟩ := D.out 9 _ rfl
        cases E <;>
        cases b <;>
        (
         go_wp2_with (first
          | ((with_reducible show Calls _ 93 _ _ _); refine (KV.out _).mono ?_; rintro _ v1 ⟨rfl, hb⟩; have D2 := D.out.bel (Nat.succ_pos _) hb; replace B := Lib.hid (B.out.trans (hb.mono B.out.size)); clear hb; obtain ⟨c3, f3⟩ := D2 3 _ rfl; obtain ⟨c5, f5⟩ := D2 5 _ rfl; obtain ⟨c6, f6⟩ := D2 6 _ rfl; obtain ⟨c7, f7⟩ := D2 7 _ rfl; obtain ⟨c8, f8⟩ := D2 8 _ rfl; obtain ⟨c9, f9⟩ := D2 9 _ rfl; replace D := Lib.hid D2; clear D2)
          | ((with_reducible show Calls _ 59 _ _ _); refine (KB.out _).mono ?_; rintro _ v2 ⟨rfl, hb⟩; have D2 := D.out.bel (Nat.succ_pos _) hb; replace B := Lib.hid (B.out.trans (hb.mono B.out.size)); clear hb; obtain ⟨c9, f9⟩ := D2 9 _ rfl; replace D := Lib.hid D2; clear D2)
          | ((with_reducible show Calls _ 58 _ _ _); refine (KN.out _).mono ?_; rintro _ v3 ⟨rfl, hw⟩; obtain rfl := hw.symm))
         all_goals
          go_ret
          refine ⟨ret_bool ?_, B.out⟩
          rw [HRF.out]
          simp_all <;> (rw [Bool.eq_iff_iff, beq_iff_eq, decide_eq_true_eq]; try omega)
        )
end Go.Proofs.Ytoaonficdkgfiaa
namespace Go.Proofs.Ytoaonficdkgfiaa
open Go.RowKit Un

set_option maxRecDepth 100000 in
set_option maxHeartbeats 4000000 in
theorem rexponent_any (n : Int) (w : World) : Calls Try.prog 92 #[.int .i64 n] w fun e w' => e = .returned (.bool (decide (-3 ≤ n) && decide (n ≤ 3))) ∧ w' = w := by
 by_cases h1 : -3 ≤ n <;> by_cases h2 : n ≤ 3 <;>
 (
  go_enter Try.func92, Try.ntmps92
  go_wp2_with fail
  all_goals
   go_ret
   exact ⟨ret_bool (by simp [h1, h2]), rfl⟩
 )
set_option maxRecDepth 100000 in
set_option maxHeartbeats 4000000 in
theorem rScoped_any (k : Int) (w : World) : Calls Try.prog 29 #[.int .i64 k] w fun e w' => e = .returned (.bool (decide (k = 3) || decide (k = 4) || decide (k = 6) || decide (k = 7))) ∧ w' = w := by
 by_cases h1 : k = 3
 ·subst h1
  go_enter Try.func29, Try.ntmps29
  go_wp2_with fail
  all_goals
   go_ret
   exact ⟨ret_bool (by decide), rfl⟩
 ·have e1 : (k == 3) = false := by simpa using h1
  by_cases h2 : k = 4
  ·subst h2
   go_enter Try.func29, Try.ntmps29
   go_wp2_with fail
   all_goals
    go_ret
    exact ⟨ret_bool (by decide), rfl⟩
  ·have e2 : (k == 4) = false := by simpa using h2
   by_cases h3 : k = 6
   ·subst h3
    go_enter Try.func29, Try.ntmps29
    go_wp2_with fail
    all_goals
     go_ret
     exact ⟨ret_bool (by decide), rfl⟩
   ·have e3 : (k == 6) = false := by simpa using h3
    go_enter Try.func29, Try.ntmps29
    go_wp2_with fail
    all_goals
     go_ret
     exact ⟨ret_bool (by rw [Bool.eq_iff_iff]; simp [h1, h2, h3]), rfl⟩
set_option maxRecDepth 100000 in
set_option maxHeartbeats 4000000 in
theorem roperands_any (op : Int) (w : World) : Calls Try.prog 68 #[.int .i64 op] w fun e w' => e = .returned (.int .i64 (arity op)) ∧ w' = w := by
 obtain ⟨R, hR⟩ : ∃ R, R = arity op := ⟨_, rfl⟩
 rw [← hR]
 have HR := Lib.hid hR
 clear hR
 by_cases h1 : op = 1
 ·subst h1
  go_enter Try.func68, Try.ntmps68
  go_wp2_with fail
  all_goals
   go_ret
   exact ⟨ret_i64 (by rw [HR.out]; rfl), rfl⟩
 ·have e1 : (op == 1) = false := by simpa using h1
  by_cases h2 : op = 2
  ·subst h2
   go_enter Try.func68, Try.ntmps68
   go_wp2_with fail
   all_goals
    go_ret
    exact ⟨ret_i64 (by rw [HR.out]; rfl), rfl⟩
  ·have e2 : (op == 2) = false := by simpa using h2
   by_cases h17 : op = 17
   ·subst h17
    go_enter Try.func68, Try.ntmps68
    go_wp2_with fail
    all_goals
     go_ret
     exact ⟨ret_i64 (by rw [HR.out]; rfl), rfl⟩
   ·have e17 : (op == 17) = false := by simpa using h17
    by_cases h15 : op = 15
    ·subst h15
     go_enter Try.func68, Try.ntmps68
     go_wp2_with fail
     all_goals
      go_ret
      exact ⟨ret_i64 (by rw [HR.out]; rfl), rfl⟩
    ·have e15 : (op == 15) = false := by simpa using h15
     by_cases h16 : op = 16
     ·subst h16
      go_enter Try.func68, Try.ntmps68
      go_wp2_with fail
      all_goals
       go_ret
       exact ⟨ret_i64 (by rw [HR.out]; rfl), rfl⟩
     ·have e16 : (op == 16) = false := by simpa using h16
      by_cases h3 : 3 ≤ op <;> by_cases h14 : op ≤ 14 <;>
      (
       go_enter Try.func68, Try.ntmps68
       go_wp2_with fail
       all_goals
        go_ret
        exact ⟨ret_i64 (by rw [HR.out]; unfold arity; simp [h1, h2, h15, h16, h17, h3, h14]), rfl⟩
      )
set_option maxRecDepth 100000 in
set_option maxHeartbeats 4000000 in
theorem rplain_any (op pl : Int) (nm : List UInt8) (n d : Int) (u : U) (q : Option Addr) (kl c : Nat) (w : World) :
  Calls Try.prog 69 #[.agg #[.int .i64 op, .int .i64 pl, .string (bs nm), .int .i64 n, .int .i64 d, .bool u.f, .int .i64 u.m, .int .i64 u.a, .int .i64 u.d, .slice q kl c]] w fun e w' => e = .returned (.bool (nm.isEmpty && (n == 0 && d == 0) && u == uNum)) ∧ RowKit.Below w.heap.size w w' := by
 have HB := Lib.hid (Below.refl w.heap.size w)
 have e1 := nm_test nm
 obtain ⟨E, hE⟩ : ∃ E, nm.isEmpty = E := ⟨_, rfl⟩
 rw [hE] at e1
 rw [hE]
 clear hE
 generalize bs nm = s at *
 obtain ⟨f, m, a, z⟩ := u
 simp only
 obtain ⟨R, hR⟩ : ∃ R, R = (E && (n == 0 && d == 0) && (⟨f, m, a, z⟩ : U) == uNum) := ⟨_, rfl⟩
 rw [← hR]
 have HR := Lib.hid hR
 clear hR
 cases E <;> cases f <;>
 (
  go_enter Try.func69, Try.ntmps69
  go_wp2_with fail
  all_goals
   go_ret
   refine ⟨ret_bool ?_, (by repeat' (first | (with_reducible exact HB.out) | (with_reducible refine Below.setCell ?_ ?_ _) | (with_reducible refine Below.alloc ?_ ?_ _) | (with_reducible refine Below.drew ?_) | (with_reducible refine below_drewN ?_ _) | (with_reducible exact Below.refl _ _) | omega | (simp; done) | (simp; omega)))⟩
   rw [HR.out]
   simp_all [uNum]
 )
end Go.Proofs.Ytoaonficdkgfiaa
namespace Go.Proofs.Ytoaonficdkgfiaa
open Go.RowKit Un

set_option maxRecDepth 100000 in
set_option maxHeartbeats 4000000 in
theorem lfact_any (s : ByteArray) (p : Int) (w : World) : Calls Try.prog 31 #[.string s, .int .i64 p] w fun e w' => e = .returned (.agg #[.int .i64 2, .int .i64 p, .string s, .int .i64 0, .int .i64 0, .bool false, .int .i64 0, .int .i64 0, .int .i64 0, .slice none 0 0]) ∧ RowKit.Below w.heap.size w w' := by
 have HB := Lib.hid (Below.refl w.heap.size w)
 go_enter Try.func31, Try.ntmps31
 go_wp2_with fail
 exact bodyPost_ret (v := .agg #[.int .i64 2, .int .i64 p, .string s, .int .i64 0, .int .i64 0, .bool false, .int .i64 0, .int .i64 0, .int .i64 0, .slice none 0 0]) (by simp [results, Try.results31, go_sem]) rfl ⟨rfl, (by repeat' (first | (with_reducible exact HB.out) | (with_reducible refine Below.setCell ?_ ?_ _) | (with_reducible refine Below.alloc ?_ ?_ _) | (with_reducible refine Below.drew ?_) | (with_reducible refine below_drewN ?_ _) | (with_reducible exact Below.refl _ _) | omega | (simp; done) | (simp; omega)))⟩
set_option maxRecDepth 100000 in
set_option maxHeartbeats 4000000 in
theorem lnumber_any (n p : Int) (w : World) : Calls Try.prog 32 #[.int .i64 n, .int .i64 p] w fun e w' => e = .returned (.agg #[.int .i64 1, .int .i64 p, .string ⟨#[]⟩, .int .i64 n, .int .i64 1, .bool false, .int .i64 0, .int .i64 0, .int .i64 0, .slice none 0 0]) ∧ RowKit.Below w.heap.size w w' := by
 have HB := Lib.hid (Below.refl w.heap.size w)
 go_enter Try.func32, Try.ntmps32
 go_wp2_with fail
 exact bodyPost_ret (v := .agg #[.int .i64 1, .int .i64 p, .string ⟨#[]⟩, .int .i64 n, .int .i64 1, .bool false, .int .i64 0, .int .i64 0, .int .i64 0, .slice none 0 0]) (by simp [results, Try.results32, go_sem]) rfl ⟨rfl, (by repeat' (first | (with_reducible exact HB.out) | (with_reducible refine Below.setCell ?_ ?_ _) | (with_reducible refine Below.alloc ?_ ?_ _) | (with_reducible refine Below.drew ?_) | (with_reducible refine below_drewN ?_ _) | (with_reducible exact Below.refl _ _) | omega | (simp; done) | (simp; omega)))⟩
end Go.Proofs.Ytoaonficdkgfiaa
namespace Go.Proofs.Ytoaonficdkgfiaa
open Go.RowKit Un

theorem size_get : ∀ (ks : List Nd) (i : Nat) (h : i < ks.length), size ks[i] ≤ sizes ks
 | [], i, h => absurd h (Nat.not_lt_zero _)
 | k :: ks, 0, _ => by simp only [List.getElem_cons_zero, sizes]; omega
 | k :: ks, i + 1, h => by
  have := size_get ks i (by simpa using h)
  simp only [List.getElem_cons_succ, sizes]
  omega
end Go.Proofs.Ytoaonficdkgfiaa
